import Derived.Test.YtdicomoggfhbfaaDlp
import Derived.Test.YtdicomoggfhbfaaShd
import Derived.Test.YtdicomoggfhbfaaAvd
import Derived.Test.YtdicomoggfhbfaaDjc1
import Derived.Test.YtdicomoggfhbfaaDjc10
import Derived.Test.YtdicomoggfhbfaaDjc8
namespace Go.Proofs.Ytdicomoggfhbfaa
open Go.RowKit
set_option linter.unusedSimpArgs false
set_option linter.unusedVariables false
set_option linter.constructorNameAsVariable false
set_option maxRecDepth 100000
set_option maxHeartbeats 40000000
theorem hc_linealref09_cost (costs:List (List Int)) (l:List (Int×Int)) {r:Int} (h:linealref09_cost costs l=some r):HC Try.prog 89 [] [.sl (.sl (.int .i64)) costs,.sl (.pair (.int .i64) (.int .i64)) l] [] (.int .i64 r):=by
 unfold linealref09_cost at h
 refine zH Try.func89 [.tmp 4] 27 ?_
 refine zo ?_
 refine zB [(0,.sl (.sl (.int .i64)) costs),(1,.sl (.pair (.int .i64) (.int .i64)) l)] [] ?_
 refine zo ?_
 refine zB [(0,.sl (.sl (.int .i64)) costs),(1,.sl (.pair (.int .i64) (.int .i64)) l),(5,.int .i64 0)] [] ?_
 refine AW.have1 (fun b1:Int=>linealref09_cost_k1 b1=some r) (fun b1=>⟨fr [(5,.int .i64 b1)],hpGet [],gt⟩) (fun b1 h=>?_) (fun hk_linealref09_cost_k1=>?_)
 ·as_aux_lemma =>
   unfold linealref09_cost_k1 at h
   refine zo ?_
   refine zB [(4,.int .i64 b1)] [] ?_
   refine AW.ret ?_
   obtain rfl:=Option.some.inj h
   exact zR [] [] []
 ·refine AW.seq ?_
  refine zo ?_
  refine zB [(0,.sl (.sl (.int .i64)) costs),(5,.int .i64 0),(8,.sl (.pair (.int .i64) (.int .i64)) l),(9,.int .i64 (l.length:Int)),(10,.int .i64 0)] [] ?_
  refine AW.block ?_
  obtain ⟨rv5,hw1,ho2⟩:=Option.bind_eq_some_iff.1 h
  refine AW.loopO (linealref09_cost_b1 costs l) (fun st1=>⟨fr [(0,.sl (.sl (.int .i64)) costs),(5,.int .i64 st1.1),(8,.sl (.pair (.int .i64) (.int .i64)) l),(9,.int .i64 (l.length:Int)),(10,.int .i64 st1.2)],hpGet [],gt⟩) (0,0) hw1 (zL [] [] []) ?_
  as_aux_lemma =>
   intro st1 x4 h hd3
   unfold linealref09_cost_b1 at h
   refine zo ?_
   refine zB [(0,.sl (.sl (.int .i64)) costs),(5,.int .i64 st1.1),(8,.sl (.pair (.int .i64) (.int .i64)) l),(9,.int .i64 (l.length:Int)),(10,.int .i64 st1.2),(11,.bool (decide (st1.2<(l.length:Int))))] [] ?_
   refine AW.seq ?_
   refine zQ h (fun hb6 h=>?_) (fun hb6 h=>?_)
   ·refine zk ?_
    refine AW.seq ?_
    refine AW.block ?_
    refine zo ?_
    obtain ⟨c7,h⟩:=ck_some.1 h
    obtain ⟨c8,h⟩:=ck_some.1 h
    refine zB [(0,.sl (.sl (.int .i64)) costs),(5,.int .i64 st1.1),(7,.bp 7 0),(8,.sl (.pair (.int .i64) (.int .i64)) l),(9,.int .i64 (l.length:Int)),(10,.int .i64 st1.2)] [(7,.box 110 [.int .i64 (l.getD st1.2.toNat (0,0)).1,.int .i64 (l.getD st1.2.toNat (0,0)).2])] ?_
    refine AW.draw tab_ok mixed_ok [] [] (by decide) (lex_fast (by kernel_rfl)) ?_
    as_aux_lemma =>
     obtain ⟨c10,h⟩:=ck_some.1 h
     obtain ⟨c11,h⟩:=ck_some.1 h
     refine adops_cut 6 (fun K' hK9=>?_)
     try dsimp only [List.drop_succ_cons,List.drop_zero,List.take_succ_cons,List.take_zero]
     simp only [go_sem,hb6]
     repeat with_reducible refine zN ?_
     refine hK9 _ ?_
     as_aux_lemma =>
      obtain ⟨c13,h⟩:=ck_some.1 h
      obtain ⟨c14,h⟩:=ck_some.1 h
      obtain ⟨c15,h⟩:=ck_some.1 h
      refine adops_cut 6 (fun K' hK12=>?_)
      try dsimp only [List.drop_succ_cons,List.drop_zero,List.take_succ_cons,List.take_zero]
      simp only [go_sem,hb6]
      repeat with_reducible refine zN ?_
      refine hK12 _ ?_
      refine adops_nil ?_
      refine ablock_n ?_
      refine athen_n ?_
      refine zV [(0,.sl (.sl (.int .i64)) costs),(5,.int .i64 (st1.1+((costs.getD (l.getD st1.2.toNat (0,0)).1.toNat []).getD (l.getD st1.2.toNat (0,0)).2.toNat 0))),(8,.sl (.pair (.int .i64) (.int .i64)) l),(9,.int .i64 (l.length:Int)),(10,.int .i64 st1.2)] [] gt ?_
      as_aux_lemma =>
       refine AW.ops ?_
       obtain ⟨c16,h⟩:=ck_some.1 h
       refine zA [(0,.sl (.sl (.int .i64)) costs),(5,.int .i64 (st1.1+((costs.getD (l.getD st1.2.toNat (0,0)).1.toNat []).getD (l.getD st1.2.toNat (0,0)).2.toNat 0))),(8,.sl (.pair (.int .i64) (.int .i64)) l),(9,.int .i64 (l.length:Int)),(10,.int .i64 (st1.2+1))] [] ?_
       obtain rfl:=Option.some.inj h
       exact ⟨_,rfl,zL [] [] []⟩
   ·refine AW.exit ?_
    refine athen_e ?_
    obtain rfl:=Option.some.inj h
    rw [← hd3 _ rfl] at ho2
    have h:=ho2
    refine athen_e ?_
    refine ablock_s ?_
    refine athen_n ?_
    exact AW.weaken (zL [] [] []) (hk_linealref09_cost_k1 _ h)
theorem hc_delay_offerOf (x0:List (List (Int×Bool))) (costs:List (List Int)) {r:(List (List (Int×Bool)))×(List (Int×Int×Int))×(List (List Int))×Int} (h:delay_offerOf x0 costs=some r):HC Try.prog 90 [] [.sl (.sl (.pair (.int .i64) .bool)) x0,.sl (.sl (.int .i64)) costs] [(2000,.arr 35 Y0 r.2.1)] (.tup [.agg [.sl (.sl (.pair (.int .i64) .bool)) r.1,.own 2000,.sl (.sl (.int .i64)) r.2.2.1],.int .i64 r.2.2.2]):=by
 unfold delay_offerOf at h
 refine zH Try.func90 [.cell 4 103,.tmp 5] 27 ?_
 refine zo ?_
 refine zB [(0,.sl (.sl (.pair (.int .i64) .bool)) x0),(1,.sl (.sl (.int .i64)) costs),(4,.bp 4 0)] [(4,.box 103 [.cv (.slice none 0 0),.cv (.slice none 0 0),.cv (.slice none 0 0)])] ?_
 refine zo ?_
 refine zS 1 [(1,.sl (.sl (.int .i64)) costs),(4,.bp 4 0),(9,.sl (.sl (.pair (.int .i64) .bool)) x0)] [(4,.box 103 [.cv (.slice none 0 0),.cv (.slice none 0 0),.cv (.slice none 0 0)])] ?_
 obtain ⟨v0,hv1,h⟩:=Option.bind_eq_some_iff.1 h
 refine zC [] [] (hc_delay_accessesOf x0 hv1) [(1,.sl (.sl (.int .i64)) costs),(4,.bp 4 0),(10,.tup [.sl (.sl (.pair (.int .i64) .bool)) v0.1,.int .i64 v0.2])] [(4,.box 103 [.cv (.slice none 0 0),.cv (.slice none 0 0),.cv (.slice none 0 0)])] ?_
 refine zB [(1,.sl (.sl (.int .i64)) costs),(4,.bp 4 0),(6,.sl (.sl (.pair (.int .i64) .bool)) v0.1),(7,.int .i64 v0.2)] [(4,.box 103 [.cv (.slice none 0 0),.cv (.slice none 0 0),.cv (.slice none 0 0)])] ?_
 refine AW.seq ?_
 refine zo ?_
 refine zB [(1,.sl (.sl (.int .i64)) costs),(4,.bp 4 0),(6,.sl (.sl (.pair (.int .i64) .bool)) v0.1),(7,.int .i64 v0.2),(14,.bool (!(decide (v0.2=0))))] [(4,.box 103 [.cv (.slice none 0 0),.cv (.slice none 0 0),.cv (.slice none 0 0)])] ?_
 refine zQ h (fun hb2 h=>?_) (fun hb2 h=>?_)
 ·refine zo ?_
  refine zB [(4,.bp 4 0),(5,.int .i64 v0.2)] [(4,.box 103 [.cv (.slice none 0 0),.cv (.slice none 0 0),.cv (.slice none 0 0)])] ?_
  refine zr ?_
  obtain rfl:=Option.some.inj h
  exact zR [] [2000] []
 ·refine zk ?_
  refine AW.seq ?_
  refine zo ?_
  refine zS 2 [(1,.sl (.sl (.int .i64)) costs),(4,.bp 4 0),(6,.sl (.sl (.pair (.int .i64) .bool)) v0.1),(17,.sl (.sl (.pair (.int .i64) .bool)) v0.1),(18,.sl (.sl (.int .i64)) costs)] [(4,.box 103 [.cv (.slice none 0 0),.cv (.slice none 0 0),.cv (.slice none 0 0)])] ?_
  obtain ⟨v0_2,hv3,h⟩:=Option.bind_eq_some_iff.1 h
  refine zC [] [] (hc_delay_accesses_areCosts v0.1 costs hv3) [(1,.sl (.sl (.int .i64)) costs),(4,.bp 4 0),(6,.sl (.sl (.pair (.int .i64) .bool)) v0.1),(19,.bool v0_2)] [(4,.box 103 [.cv (.slice none 0 0),.cv (.slice none 0 0),.cv (.slice none 0 0)])] ?_
  refine zB [(1,.sl (.sl (.int .i64)) costs),(4,.bp 4 0),(6,.sl (.sl (.pair (.int .i64) .bool)) v0.1),(20,.bool (!v0_2))] [(4,.box 103 [.cv (.slice none 0 0),.cv (.slice none 0 0),.cv (.slice none 0 0)])] ?_
  refine zQ h (fun hb4 h=>?_) (fun hb4 h=>?_)
  ·refine zo ?_
   refine zB [(4,.bp 4 0),(5,.int .i64 2)] [(4,.box 103 [.cv (.slice none 0 0),.cv (.slice none 0 0),.cv (.slice none 0 0)])] ?_
   refine zr ?_
   obtain rfl:=Option.some.inj h
   exact zR [] [2000] []
  ·refine zk ?_
   refine zo ?_
   refine zS 2 [(1,.sl (.sl (.int .i64)) costs),(4,.bp 4 0),(22,.sl (.sl (.pair (.int .i64) .bool)) v0.1),(23,.sl (.sl (.pair (.int .i64) .bool)) v0.1)] [(4,.box 103 [.cv (.slice none 0 0),.cv (.slice none 0 0),.cv (.slice none 0 0)])] ?_
   obtain ⟨v0_3,hv5,h⟩:=Option.bind_eq_some_iff.1 h
   refine zC [] [] (hc_delay_accesses_onCircles v0.1 hv5) [(1,.sl (.sl (.int .i64)) costs),(4,.bp 4 0),(22,.sl (.sl (.pair (.int .i64) .bool)) v0.1),(24,.own 34000)] [(4,.box 103 [.cv (.slice none 0 0),.cv (.slice none 0 0),.cv (.slice none 0 0)]),(34000,.arr 35 Y0 v0_3)] ?_
   refine zB [(4,.bp 4 0),(5,.int .i64 0)] [(4,.box 103 [.sl (.sl (.pair (.int .i64) .bool)) v0.1,.own 34000,.sl (.sl (.int .i64)) costs]),(34000,.arr 35 Y0 v0_3)] ?_
   refine AW.ret ?_
   obtain rfl:=Option.some.inj h
   exact zR [] [] [(2000,34000)]
theorem hc_slices_Grow_2 (n:Int) {r:Unit} (h:slices_Grow_2 n=some r):HC Try.prog 151 [] [.cv (.slice none 0 0),.int .i64 n] [(2000,.arr 110 (.pair (.int .i64) (.int .i64)) [])] (.own 2000):=by
 unfold slices_Grow_2 at h
 refine zH Try.func151 [.tmp 4] 27 ?_
 refine zo ?_
 refine zB [(0,.cv (.slice none 0 0)),(1,.int .i64 n)] [] ?_
 refine AW.seq ?_
 refine zo ?_
 refine zB [(0,.cv (.slice none 0 0)),(1,.int .i64 n),(6,.bool (decide (n<0)))] [] ?_
 refine zQ h (fun hb1 h=>?_) (fun hb1 h=>?_)
 ·refine AW.ops ?_
  cases h
 ·refine zk ?_
  refine AW.seq ?_
  refine zo ?_
  refine zS 2 [(0,.cv (.slice none 0 0)),(8,.int .i64 n),(9,.cv (.slice none 0 0))] [] ?_
  refine AO.capNil tab_ok (by decide) rfl rfl rfl rfl rfl tab_42 rfl rfl ?_
  refine zT [(0,.cv (.slice none 0 0)),(8,.int .i64 n),(10,.int .i64 0)] [] gt ?_
  obtain ⟨c2,h⟩:=ck_some.1 h
  obtain ⟨c3,h⟩:=ck_some.1 h
  refine zB [(0,.cv (.slice none 0 0)),(1,.int .i64 (n - (0 - 0)))] [] ?_
  refine zo ?_
  refine zB [(0,.cv (.slice none 0 0)),(1,.int .i64 (n - (0 - 0))),(16,.bool (decide (0<(n - (0 - 0)))))] [] ?_
  refine zQ h (fun hb4 h=>?_) (fun hb4 h=>?_)
  ·refine AW.ops ?_
   refine zS 2 [(0,.cv (.slice none 0 0)),(1,.int .i64 (n - (0 - 0))),(17,.cv (.slice none 0 0)),(18,.cv (.slice none 0 0))] [] ?_
   refine AO.capNil tab_ok (by decide) rfl rfl rfl rfl rfl tab_42 rfl rfl ?_
   refine zT [(0,.cv (.slice none 0 0)),(1,.int .i64 (n - (0 - 0))),(17,.cv (.slice none 0 0)),(19,.int .i64 0)] [] gt ?_
   refine AO.sliceNil tab_ok (by decide) rfl rfl tab_42 rfl tab_110 rfl rfl ?_
   refine zT [(0,.cv (.slice none 0 0)),(1,.int .i64 (n - (0 - 0))),(20,.cv (.slice none 0 0))] [] gt ?_
   refine zS 1 [(0,.cv (.slice none 0 0)),(20,.cv (.slice none 0 0)),(21,.int .i64 (n - (0 - 0)))] [] ?_
   obtain ⟨c5,h⟩:=ck_some.1 h
   obtain ⟨c6,h⟩:=ck_some.1 h
   obtain ⟨c7,h⟩:=ck_some.1 h
   refine AO.appendZeros tab_ok (by decide) (by decide) rfl rfl rfl rfl rfl tab_42 rfl tab_110 rfl tab_3 rfl rfl rfl (by first|assumption|omega|(simp only [go_sem,hb1,hb4])<;>(with_reducible and_intros)<;>first|assumption|rfl|omega|(unfold maxLen; omega)) (by first|assumption|omega|(simp only [go_sem,hb1,hb4])<;>(with_reducible and_intros)<;>first|assumption|rfl|omega|(unfold maxLen; omega)) (by first|assumption|omega|(simp only [go_sem,hb1,hb4])<;>(with_reducible and_intros)<;>first|assumption|rfl|omega|(unfold maxLen; omega)) ?_
   refine zT [(0,.cv (.slice none 0 0)),(22,.own 22)] [(22,.arr 110 (.pair (.int .i64) (.int .i64)) (List.replicate (n - (0 - 0)).toNat ((0,0):Int×Int)))] gt ?_
   refine zS 2 [(22,.own 22),(24,.int .i64 0)] [(22,.arr 110 (.pair (.int .i64) (.int .i64)) (List.replicate (n - (0 - 0)).toNat ((0,0):Int×Int)))] ?_
   obtain ⟨c8,h⟩:=ck_some.1 h
   obtain ⟨c9,h⟩:=ck_some.1 h
   refine AO.sliceOwn tab_ok (by decide) (by decide) rfl rfl tab_42 rfl tab_110 rfl rfl rfl rfl (by first|assumption|omega|(simp only [go_sem,hb1,hb4])<;>(with_reducible and_intros)<;>first|assumption|rfl|omega|(unfold maxLen; omega)) (by first|assumption|omega|(simp only [go_sem,hb1,hb4])<;>(with_reducible and_intros)<;>first|assumption|rfl|omega|(unfold maxLen; omega)) ?_
   refine zT [(25,.own 25)] [(25,.arr 110 (.pair (.int .i64) (.int .i64)) [])] gt ?_
   refine zB [(0,.own 25)] [(25,.arr 110 (.pair (.int .i64) (.int .i64)) [])] ?_
   refine zo ?_
   refine zB [(4,.own 25)] [(25,.arr 110 (.pair (.int .i64) (.int .i64)) [])] ?_
   refine AW.ret ?_
   obtain rfl:=Option.some.inj h
   exact zR [] [] [(2000,25)]
  ·refine zk ?_
   refine zo ?_
   refine zB [(4,.cv (.slice none 0 0))] [] ?_
   refine AW.ret ?_
   obtain rfl:=Option.some.inj h
   exact zR [] [2000] []
theorem hc_slices_Concat_2 (slices:List (List (Int×Int))) {r:(List (Int×Int))} (h:slices_Concat_2 slices=some r):HC Try.prog 148 [] [.sl (.sl (.pair (.int .i64) (.int .i64))) slices] [(2000,.arr 110 (.pair (.int .i64) (.int .i64)) r)] (.own 2000):=by
 unfold slices_Concat_2 at h
 refine zH Try.func148 [.tmp 2] 36 ?_
 refine zo ?_
 refine zB [(0,.sl (.sl (.pair (.int .i64) (.int .i64))) slices)] [] ?_
 refine zo ?_
 refine zB [(0,.sl (.sl (.pair (.int .i64) (.int .i64))) slices),(3,.int .i64 0)] [] ?_
 refine AW.have1 (fun b1:Int=>slices_Concat_2_k1 slices b1=some r) (fun b1=>⟨fr [(0,.sl (.sl (.pair (.int .i64) (.int .i64))) slices),(3,.int .i64 b1)],hpGet [],gt⟩) (fun b1 h=>?_) (fun hk_slices_Concat_2_k1=>?_)
 ·as_aux_lemma =>
   unfold slices_Concat_2_k1 at h
   refine zo ?_
   refine zS 1 [(0,.sl (.sl (.pair (.int .i64) (.int .i64))) slices),(23,.int .i64 b1)] [] ?_
   obtain ⟨v0,hv1,h⟩:=Option.bind_eq_some_iff.1 h
   refine zC [] [] (hc_slices_Grow_2 b1 hv1) [(0,.sl (.sl (.pair (.int .i64) (.int .i64))) slices),(24,.own 34000)] [(34000,.arr 110 (.pair (.int .i64) (.int .i64)) [])] ?_
   refine zB [(0,.sl (.sl (.pair (.int .i64) (.int .i64))) slices),(6,.own 34000)] [(34000,.arr 110 (.pair (.int .i64) (.int .i64)) [])] ?_
   refine AW.have1 (fun b2:(List (Int×Int))=>slices_Concat_2_k2 b2=some r) (fun b2=>⟨fr [(6,.own 34000)],hpGet [(34000,.arr 110 (.pair (.int .i64) (.int .i64)) b2)],gt⟩) (fun b2 h=>?_) (fun hk_slices_Concat_2_k2=>?_)
   ·as_aux_lemma =>
     unfold slices_Concat_2_k2 at h
     refine zo ?_
     refine zB [(2,.own 34000)] [(34000,.arr 110 (.pair (.int .i64) (.int .i64)) b2)] ?_
     refine AW.ret ?_
     obtain rfl:=Option.some.inj h
     exact zR [] [] [(2000,34000)]
   ·refine AW.seq ?_
    refine zo ?_
    refine zB [(6,.own 34000),(25,.sl (.sl (.pair (.int .i64) (.int .i64))) slices),(26,.int .i64 (slices.length:Int)),(27,.int .i64 0)] [(34000,.arr 110 (.pair (.int .i64) (.int .i64)) [])] ?_
    refine AW.block ?_
    obtain ⟨rv6,hw2,ho3⟩:=Option.bind_eq_some_iff.1 h
    refine AW.loopO (slices_Concat_2_b2 slices) (fun st2=>⟨fr [(6,.own 34000),(25,.sl (.sl (.pair (.int .i64) (.int .i64))) slices),(26,.int .i64 (slices.length:Int)),(27,.int .i64 st2.2)],hpGet [(34000,.arr 110 (.pair (.int .i64) (.int .i64)) st2.1)],gt⟩) ([],0) hw2 (zL [] [] []) ?_
    as_aux_lemma =>
     intro st2 x5 h hd4
     unfold slices_Concat_2_b2 at h
     refine zo ?_
     refine zB [(6,.own 34000),(25,.sl (.sl (.pair (.int .i64) (.int .i64))) slices),(26,.int .i64 (slices.length:Int)),(27,.int .i64 st2.2),(28,.bool (decide (st2.2<(slices.length:Int))))] [(34000,.arr 110 (.pair (.int .i64) (.int .i64)) st2.1)] ?_
     refine AW.seq ?_
     refine zQ h (fun hb7 h=>?_) (fun hb7 h=>?_)
     ·refine zk ?_
      refine AW.seq ?_
      refine AW.block ?_
      refine zo ?_
      obtain ⟨c8,h⟩:=ck_some.1 h
      obtain ⟨c9,h⟩:=ck_some.1 h
      refine zB [(6,.own 34000),(8,.sl (.pair (.int .i64) (.int .i64)) (slices.getD st2.2.toNat [])),(25,.sl (.sl (.pair (.int .i64) (.int .i64))) slices),(26,.int .i64 (slices.length:Int)),(27,.int .i64 st2.2)] [(34000,.arr 110 (.pair (.int .i64) (.int .i64)) st2.1)] ?_
      refine AW.ops ?_
      obtain ⟨c10,h⟩:=ck_some.1 h
      refine zA [(6,.own 33),(25,.sl (.sl (.pair (.int .i64) (.int .i64))) slices),(26,.int .i64 (slices.length:Int)),(27,.int .i64 st2.2)] [(33,.arr 110 (.pair (.int .i64) (.int .i64)) (st2.1++(slices.getD st2.2.toNat [])))] ?_
      refine ablock_n ?_
      refine athen_n ?_
      refine AW.ops ?_
      obtain ⟨c11,h⟩:=ck_some.1 h
      refine zA [(6,.own 33),(25,.sl (.sl (.pair (.int .i64) (.int .i64))) slices),(26,.int .i64 (slices.length:Int)),(27,.int .i64 (st2.2+1))] [(33,.arr 110 (.pair (.int .i64) (.int .i64)) (st2.1++(slices.getD st2.2.toNat [])))] ?_
      obtain rfl:=Option.some.inj h
      exact ⟨_,rfl,zL [] [] [(34000,33)]⟩
     ·refine AW.exit ?_
      refine athen_e ?_
      obtain rfl:=Option.some.inj h
      rw [← hd4 _ rfl] at ho3
      have h:=ho3
      refine athen_e ?_
      refine ablock_s ?_
      refine athen_n ?_
      exact AW.weaken (zL [] [] []) (hk_slices_Concat_2_k2 _ h)
 ·refine AW.seq ?_
  refine zo ?_
  refine zB [(0,.sl (.sl (.pair (.int .i64) (.int .i64))) slices),(3,.int .i64 0),(9,.sl (.sl (.pair (.int .i64) (.int .i64))) slices),(10,.int .i64 (slices.length:Int)),(11,.int .i64 0)] [] ?_
  refine AW.block ?_
  obtain ⟨rv16,hw12,ho13⟩:=Option.bind_eq_some_iff.1 h
  refine AW.loopO (slices_Concat_2_b1 slices) (fun st1=>⟨fr [(0,.sl (.sl (.pair (.int .i64) (.int .i64))) slices),(3,.int .i64 st1.1),(9,.sl (.sl (.pair (.int .i64) (.int .i64))) slices),(10,.int .i64 (slices.length:Int)),(11,.int .i64 st1.2)],hpGet [],gt⟩) (0,0) hw12 (zL [] [] []) ?_
  as_aux_lemma =>
   intro st1 x15 h hd14
   unfold slices_Concat_2_b1 at h
   refine zo ?_
   refine zB [(0,.sl (.sl (.pair (.int .i64) (.int .i64))) slices),(3,.int .i64 st1.1),(9,.sl (.sl (.pair (.int .i64) (.int .i64))) slices),(10,.int .i64 (slices.length:Int)),(11,.int .i64 st1.2),(12,.bool (decide (st1.2<(slices.length:Int))))] [] ?_
   refine AW.seq ?_
   refine zQ h (fun hb17 h=>?_) (fun hb17 h=>?_)
   ·refine zk ?_
    refine AW.seq ?_
    refine AW.block ?_
    refine zo ?_
    obtain ⟨c18,h⟩:=ck_some.1 h
    obtain ⟨c19,h⟩:=ck_some.1 h
    refine zB [(0,.sl (.sl (.pair (.int .i64) (.int .i64))) slices),(3,.int .i64 st1.1),(5,.sl (.pair (.int .i64) (.int .i64)) (slices.getD st1.2.toNat [])),(9,.sl (.sl (.pair (.int .i64) (.int .i64))) slices),(10,.int .i64 (slices.length:Int)),(11,.int .i64 st1.2)] [] ?_
    refine zo ?_
    obtain ⟨c20,h⟩:=ck_some.1 h
    refine zB [(0,.sl (.sl (.pair (.int .i64) (.int .i64))) slices),(3,.int .i64 (st1.1+((slices.getD st1.2.toNat []).length:Int))),(9,.sl (.sl (.pair (.int .i64) (.int .i64))) slices),(10,.int .i64 (slices.length:Int)),(11,.int .i64 st1.2)] [] ?_
    refine zo ?_
    refine zB [(0,.sl (.sl (.pair (.int .i64) (.int .i64))) slices),(3,.int .i64 (st1.1+((slices.getD st1.2.toNat []).length:Int))),(9,.sl (.sl (.pair (.int .i64) (.int .i64))) slices),(10,.int .i64 (slices.length:Int)),(11,.int .i64 st1.2),(20,.bool (decide ((st1.1+((slices.getD st1.2.toNat []).length:Int))<0)))] [] ?_
    refine zQ h (fun hb21 h=>?_) (fun hb21 h=>?_)
    ·refine AW.ops ?_
     cases h
    ·refine zm ?_
     refine athen_n ?_
     refine AW.ops ?_
     obtain ⟨c22,h⟩:=ck_some.1 h
     refine zA [(0,.sl (.sl (.pair (.int .i64) (.int .i64))) slices),(3,.int .i64 (st1.1+((slices.getD st1.2.toNat []).length:Int))),(9,.sl (.sl (.pair (.int .i64) (.int .i64))) slices),(10,.int .i64 (slices.length:Int)),(11,.int .i64 (st1.2+1))] [] ?_
     obtain rfl:=Option.some.inj h
     exact ⟨_,rfl,zL [] [] []⟩
   ·refine AW.exit ?_
    refine athen_e ?_
    obtain rfl:=Option.some.inj h
    rw [← hd14 _ rfl] at ho13
    have h:=ho13
    refine athen_e ?_
    refine ablock_s ?_
    refine athen_n ?_
    exact AW.weaken (zL [] [] []) (hk_slices_Concat_2_k1 _ h)
theorem hc_delay_choicesF (slf:(List (Int×Int))→Option ((List (List (Int×Int))))) (hc_slf:∀ (fences:List (Int×Int)) {r:(List (List (Int×Int)))},slf fences=some r→HC Try.prog 126 [] [.sl (.pair (.int .i64) (.int .i64)) fences] [(2000,.arr 42 (.sl (.pair (.int .i64) (.int .i64))) r)] (.own 2000)) (fences:List (Int×Int)) {r:(List (List (Int×Int)))} (h:delay_choicesF slf fences=some r):HC Try.prog 126 [] [.sl (.pair (.int .i64) (.int .i64)) fences] [(2000,.arr 42 (.sl (.pair (.int .i64) (.int .i64))) r)] (.own 2000):=by
 unfold delay_choicesF at h
 refine zH Try.func126 [.tmp 2] 32 ?_
 refine zo ?_
 refine zB [(0,.sl (.pair (.int .i64) (.int .i64)) fences)] [] ?_
 refine AW.seq ?_
 refine zo ?_
 refine zB [(0,.sl (.pair (.int .i64) (.int .i64)) fences),(9,.bool (decide ((fences.length:Int)=0)))] [] ?_
 refine zQ h (fun hb1 h=>?_) (fun hb1 h=>?_)
 ·refine zo ?_
  refine zB [(2,.own 10)] [(10,.arr 42 (.sl (.pair (.int .i64) (.int .i64))) [[]])] ?_
  refine zr ?_
  obtain rfl:=Option.some.inj h
  exact zR [] [] [(2000,10)]
 ·refine zk ?_
  refine zo ?_
  obtain ⟨c2,h⟩:=ck_some.1 h
  refine zS 2 [(0,.sl (.pair (.int .i64) (.int .i64)) fences),(12,.sl (.pair (.int .i64) (.int .i64)) (fences.drop 1))] [] ?_
  obtain ⟨v0,hv3,h⟩:=Option.bind_eq_some_iff.1 h
  refine zC [] [] (hc_slf (fences.drop 1) hv3) [(0,.sl (.pair (.int .i64) (.int .i64)) fences),(13,.own 23000)] [(23000,.arr 42 (.sl (.pair (.int .i64) (.int .i64))) v0)] ?_
  refine zB [(0,.sl (.pair (.int .i64) (.int .i64)) fences),(3,.own 23000)] [(23000,.arr 42 (.sl (.pair (.int .i64) (.int .i64))) v0)] ?_
  refine zo ?_
  refine zB [(0,.sl (.pair (.int .i64) (.int .i64)) fences),(3,.own 23000),(4,.cv (.slice none 0 0))] [(23000,.arr 42 (.sl (.pair (.int .i64) (.int .i64))) v0)] ?_
  refine AW.have1 (fun b1:(List (List (Int×Int)))=>delay_choices_k1 v0 b1=some r) (fun b1=>⟨fr [(3,.own 23000),(4,.own 27)],hpGet [(27,.arr 42 (.sl (.pair (.int .i64) (.int .i64))) b1),(23000,.arr 42 (.sl (.pair (.int .i64) (.int .i64))) v0)],gt⟩) (fun b1 h=>?_) (fun hk_delay_choices_k1=>?_)
  ·as_aux_lemma =>
    unfold delay_choices_k1 at h
    refine zo ?_
    obtain ⟨c4,h⟩:=ck_some.1 h
    refine zB [(2,.own 31)] [(31,.arr 42 (.sl (.pair (.int .i64) (.int .i64))) (b1++v0))] ?_
    refine AW.ret ?_
    obtain rfl:=Option.some.inj h
    exact zR [] [] [(2000,31)]
  ·refine AW.seq ?_
   refine zo ?_
   refine zB [(0,.sl (.pair (.int .i64) (.int .i64)) fences),(3,.own 23000),(4,.cv (.slice none 0 0)),(14,.own 23000),(15,.int .i64 (v0.length:Int)),(16,.int .i64 0)] [(23000,.arr 42 (.sl (.pair (.int .i64) (.int .i64))) v0)] ?_
   refine AW.block ?_
   obtain ⟨rv9,hw5,ho6⟩:=Option.bind_eq_some_iff.1 h
   refine AW.loopO (delay_choices_b1 fences v0) (fun st1=>⟨fr [(0,.sl (.pair (.int .i64) (.int .i64)) fences),(3,.own 23000),(4,.own 27),(14,.own 23000),(15,.int .i64 (v0.length:Int)),(16,.int .i64 st1.2)],hpGet [(27,.arr 42 (.sl (.pair (.int .i64) (.int .i64))) st1.1),(23000,.arr 42 (.sl (.pair (.int .i64) (.int .i64))) v0)],gt⟩) ([],0) hw5 (zL [] [27] []) ?_
   as_aux_lemma =>
    intro st1 x8 h hd7
    unfold delay_choices_b1 at h
    refine zo ?_
    refine zB [(0,.sl (.pair (.int .i64) (.int .i64)) fences),(3,.own 23000),(4,.own 27),(14,.own 23000),(15,.int .i64 (v0.length:Int)),(16,.int .i64 st1.2),(17,.bool (decide (st1.2<(v0.length:Int))))] [(27,.arr 42 (.sl (.pair (.int .i64) (.int .i64))) st1.1),(23000,.arr 42 (.sl (.pair (.int .i64) (.int .i64))) v0)] ?_
    refine AW.seq ?_
    refine zQ h (fun hb10 h=>?_) (fun hb10 h=>?_)
    ·refine zk ?_
     refine AW.seq ?_
     refine AW.block ?_
     refine zo ?_
     obtain ⟨c11,h⟩:=ck_some.1 h
     obtain ⟨c12,h⟩:=ck_some.1 h
     refine zB [(0,.sl (.pair (.int .i64) (.int .i64)) fences),(3,.own 23000),(4,.own 27),(6,.sl (.pair (.int .i64) (.int .i64)) (v0.getD st1.2.toNat [])),(14,.own 23000),(15,.int .i64 (v0.length:Int)),(16,.int .i64 st1.2)] [(27,.arr 42 (.sl (.pair (.int .i64) (.int .i64))) st1.1),(23000,.arr 42 (.sl (.pair (.int .i64) (.int .i64))) v0)] ?_
     refine AW.ops ?_
     obtain ⟨c13,h⟩:=ck_some.1 h
     refine zS 5 [(0,.sl (.pair (.int .i64) (.int .i64)) fences),(3,.own 23000),(14,.own 23000),(15,.int .i64 (v0.length:Int)),(16,.int .i64 st1.2),(20,.own 27),(24,.own 24)] [(24,.arr 42 (.sl (.pair (.int .i64) (.int .i64))) [(fences.take 1),(v0.getD st1.2.toNat [])]),(27,.arr 42 (.sl (.pair (.int .i64) (.int .i64))) st1.1),(23000,.arr 42 (.sl (.pair (.int .i64) (.int .i64))) v0)] ?_
     obtain ⟨v0_2,hv14,h⟩:=Option.bind_eq_some_iff.1 h
     refine zC [24] [] (hc_slices_Concat_2 [(fences.take 1),(v0.getD st1.2.toNat [])] hv14) [(0,.sl (.pair (.int .i64) (.int .i64)) fences),(3,.own 23000),(14,.own 23000),(15,.int .i64 (v0.length:Int)),(16,.int .i64 st1.2),(20,.own 27),(25,.own 35000)] [(27,.arr 42 (.sl (.pair (.int .i64) (.int .i64))) st1.1),(23000,.arr 42 (.sl (.pair (.int .i64) (.int .i64))) v0),(35000,.arr 110 (.pair (.int .i64) (.int .i64)) v0_2)] ?_
     obtain ⟨c15,h⟩:=ck_some.1 h
     refine zA [(0,.sl (.pair (.int .i64) (.int .i64)) fences),(3,.own 23000),(4,.own 27),(14,.own 23000),(15,.int .i64 (v0.length:Int)),(16,.int .i64 st1.2)] [(27,.arr 42 (.sl (.pair (.int .i64) (.int .i64))) (st1.1++[v0_2])),(23000,.arr 42 (.sl (.pair (.int .i64) (.int .i64))) v0)] ?_
     refine ablock_n ?_
     refine athen_n ?_
     refine AW.ops ?_
     obtain ⟨c16,h⟩:=ck_some.1 h
     refine zA [(0,.sl (.pair (.int .i64) (.int .i64)) fences),(3,.own 23000),(4,.own 27),(14,.own 23000),(15,.int .i64 (v0.length:Int)),(16,.int .i64 (st1.2+1))] [(27,.arr 42 (.sl (.pair (.int .i64) (.int .i64))) (st1.1++[v0_2])),(23000,.arr 42 (.sl (.pair (.int .i64) (.int .i64))) v0)] ?_
     obtain rfl:=Option.some.inj h
     exact ⟨_,rfl,zL [] [] []⟩
    ·refine AW.exit ?_
     refine athen_e ?_
     obtain rfl:=Option.some.inj h
     rw [← hd7 _ rfl] at ho6
     have h:=ho6
     refine athen_e ?_
     refine ablock_s ?_
     refine athen_n ?_
     exact AW.weaken (zL [] [] []) (hk_delay_choices_k1 _ h)
theorem hc_delay_choices:∀ (n:Nat) (fences:List (Int×Int)) {r:(List (List (Int×Int)))},delay_choices n fences=some r→HC Try.prog 126 [] [.sl (.pair (.int .i64) (.int .i64)) fences] [(2000,.arr 42 (.sl (.pair (.int .i64) (.int .i64))) r)] (.own 2000):=by
 intro n
 induction n with
 | zero=>intro fences r h; cases h
 | succ n ih=>intro fences r h; exact hc_delay_choicesF (delay_choices n) ih fences h
theorem hc_delay_offer_cheapest_1 (list:List (Int×Int)) (a1:(List (List (Int×Bool)))×(List (Int×Int×Int))×(List (List Int))) {r:Bool} (h:delay_offer_cheapest_1 list a1=some r):HC Try.prog 128 [(1000,.box 103 [.sl (.sl (.pair (.int .i64) .bool)) a1.1,.sl Y0 a1.2.1,.sl (.sl (.int .i64)) a1.2.2])] [.sl (.pair (.int .i64) (.int .i64)) list,.bp 1000 0] [(1000,.box 103 [.sl (.sl (.pair (.int .i64) .bool)) a1.1,.sl Y0 a1.2.1,.sl (.sl (.int .i64)) a1.2.2])] (.bool r):=by
 unfold delay_offer_cheapest_1 at h
 refine zH Try.func128 [.tmp 3] 9 ?_
 refine zo ?_
 refine zB [(0,.sl (.pair (.int .i64) (.int .i64)) list),(1,.bp 1000 0)] [(1000,.box 103 [.sl (.sl (.pair (.int .i64) .bool)) a1.1,.sl Y0 a1.2.1,.sl (.sl (.int .i64)) a1.2.2])] ?_
 refine zo ?_
 refine zS 3 [(4,.sl (.pair (.int .i64) (.int .i64)) list),(6,.sl Y0 a1.2.1)] [(1000,.box 103 [.sl (.sl (.pair (.int .i64) .bool)) a1.1,.sl Y0 a1.2.1,.sl (.sl (.int .i64)) a1.2.2])] ?_
 obtain ⟨v0,hv1,h⟩:=Option.bind_eq_some_iff.1 h
 refine zC [] [] (hc_delay_holdAll list a1.2.1 hv1) [(7,.bool v0)] [(1000,.box 103 [.sl (.sl (.pair (.int .i64) .bool)) a1.1,.sl Y0 a1.2.1,.sl (.sl (.int .i64)) a1.2.2])] ?_
 refine zB [(3,.bool (!v0))] [(1000,.box 103 [.sl (.sl (.pair (.int .i64) .bool)) a1.1,.sl Y0 a1.2.1,.sl (.sl (.int .i64)) a1.2.2])] ?_
 refine AW.ret ?_
 obtain rfl:=Option.some.inj h
 exact zR [] [] []
theorem hc_slices_IndexFunc_11 (s:List (List (Int×Int))) (c0:(List (List (Int×Bool)))×(List (Int×Int×Int))×(List (List Int))) {r:Int} (h:slices_IndexFunc_11 s c0=some r):HC Try.prog 147 [(1000,.arr 42 (.sl (.pair (.int .i64) (.int .i64))) s),(1001,.box 103 [.sl (.sl (.pair (.int .i64) .bool)) c0.1,.sl Y0 c0.2.1,.sl (.sl (.int .i64)) c0.2.2])] [.own 1000,.fn (.func 128) [] [.bp 1001 0]] [(1000,.arr 42 (.sl (.pair (.int .i64) (.int .i64))) s),(1001,.box 103 [.sl (.sl (.pair (.int .i64) .bool)) c0.1,.sl Y0 c0.2.1,.sl (.sl (.int .i64)) c0.2.2])] (.int .i64 r):=by
 unfold slices_IndexFunc_11 at h
 refine zH Try.func147 [.tmp 4] 19 ?_
 refine zo ?_
 refine zB [(0,.own 1000),(1,.fn (.func 128) [] [.bp 1001 0])] [(1000,.arr 42 (.sl (.pair (.int .i64) (.int .i64))) s),(1001,.box 103 [.sl (.sl (.pair (.int .i64) .bool)) c0.1,.sl Y0 c0.2.1,.sl (.sl (.int .i64)) c0.2.2])] ?_
 refine AW.have1 (fun _:Unit=>slices_IndexFunc_11_k1=some r) (fun _=>⟨fr [],hpGet [(1000,.arr 42 (.sl (.pair (.int .i64) (.int .i64))) s),(1001,.box 103 [.sl (.sl (.pair (.int .i64) .bool)) c0.1,.sl Y0 c0.2.1,.sl (.sl (.int .i64)) c0.2.2])],gt⟩) (fun _ h=>?_) (fun hk_slices_IndexFunc_11_k1=>?_)
 ·as_aux_lemma =>
   unfold slices_IndexFunc_11_k1 at h
   refine zo ?_
   refine zB [(4,.int .i64 (-1))] [(1000,.arr 42 (.sl (.pair (.int .i64) (.int .i64))) s),(1001,.box 103 [.sl (.sl (.pair (.int .i64) .bool)) c0.1,.sl Y0 c0.2.1,.sl (.sl (.int .i64)) c0.2.2])] ?_
   refine AW.ret ?_
   obtain rfl:=Option.some.inj h
   exact zR [] [] []
 ·refine AW.seq ?_
  refine zo ?_
  refine zB [(0,.own 1000),(1,.fn (.func 128) [] [.bp 1001 0]),(7,.int .i64 (s.length:Int)),(8,.int .i64 0)] [(1000,.arr 42 (.sl (.pair (.int .i64) (.int .i64))) s),(1001,.box 103 [.sl (.sl (.pair (.int .i64) .bool)) c0.1,.sl Y0 c0.2.1,.sl (.sl (.int .i64)) c0.2.2])] ?_
  refine AW.block ?_
  obtain ⟨rv5,hw1,ho2⟩:=Option.bind_eq_some_iff.1 h
  refine AW.loopO (slices_IndexFunc_11_b1 s c0) (fun st1=>⟨fr [(0,.own 1000),(1,.fn (.func 128) [] [.bp 1001 0]),(7,.int .i64 (s.length:Int)),(8,.int .i64 st1)],hpGet [(1000,.arr 42 (.sl (.pair (.int .i64) (.int .i64))) s),(1001,.box 103 [.sl (.sl (.pair (.int .i64) .bool)) c0.1,.sl Y0 c0.2.1,.sl (.sl (.int .i64)) c0.2.2])],gt⟩) 0 hw1 (zL [] [] []) ?_
  as_aux_lemma =>
   intro st1 x4 h hd3
   unfold slices_IndexFunc_11_b1 at h
   refine zo ?_
   refine zB [(0,.own 1000),(1,.fn (.func 128) [] [.bp 1001 0]),(7,.int .i64 (s.length:Int)),(8,.int .i64 st1),(9,.bool (decide (st1<(s.length:Int))))] [(1000,.arr 42 (.sl (.pair (.int .i64) (.int .i64))) s),(1001,.box 103 [.sl (.sl (.pair (.int .i64) .bool)) c0.1,.sl Y0 c0.2.1,.sl (.sl (.int .i64)) c0.2.2])] ?_
   refine AW.seq ?_
   refine zQ h (fun hb6 h=>?_) (fun hb6 h=>?_)
   ·refine zk ?_
    refine AW.seq ?_
    refine AW.block ?_
    refine zo ?_
    refine zB [(0,.own 1000),(1,.fn (.func 128) [] [.bp 1001 0]),(5,.int .i64 st1),(7,.int .i64 (s.length:Int)),(8,.int .i64 st1)] [(1000,.arr 42 (.sl (.pair (.int .i64) (.int .i64))) s),(1001,.box 103 [.sl (.sl (.pair (.int .i64) .bool)) c0.1,.sl Y0 c0.2.1,.sl (.sl (.int .i64)) c0.2.2])] ?_
    refine zo ?_
    obtain ⟨c7,h⟩:=ck_some.1 h
    obtain ⟨c8,h⟩:=ck_some.1 h
    refine zS 5 [(0,.own 1000),(1,.fn (.func 128) [] [.bp 1001 0]),(5,.int .i64 st1),(7,.int .i64 (s.length:Int)),(8,.int .i64 st1),(11,.fn (.func 128) [] [.bp 1001 0]),(15,.sl (.pair (.int .i64) (.int .i64)) (s.getD st1.toNat []))] [(1000,.arr 42 (.sl (.pair (.int .i64) (.int .i64))) s),(1001,.box 103 [.sl (.sl (.pair (.int .i64) .bool)) c0.1,.sl Y0 c0.2.1,.sl (.sl (.int .i64)) c0.2.2])] ?_
    obtain ⟨v0,hv9,h⟩:=Option.bind_eq_some_iff.1 h
    refine zC [] [(1000,1001)] (hc_delay_offer_cheapest_1 (s.getD st1.toNat []) c0 hv9) [(0,.own 1000),(1,.fn (.func 128) [] [.bp 1001 0]),(5,.int .i64 st1),(7,.int .i64 (s.length:Int)),(8,.int .i64 st1),(16,.bool v0)] [(1000,.arr 42 (.sl (.pair (.int .i64) (.int .i64))) s),(1001,.box 103 [.sl (.sl (.pair (.int .i64) .bool)) c0.1,.sl Y0 c0.2.1,.sl (.sl (.int .i64)) c0.2.2])] ?_
    refine zB [(0,.own 1000),(1,.fn (.func 128) [] [.bp 1001 0]),(5,.int .i64 st1),(7,.int .i64 (s.length:Int)),(8,.int .i64 st1),(16,.bool v0)] [(1000,.arr 42 (.sl (.pair (.int .i64) (.int .i64))) s),(1001,.box 103 [.sl (.sl (.pair (.int .i64) .bool)) c0.1,.sl Y0 c0.2.1,.sl (.sl (.int .i64)) c0.2.2])] ?_
    refine zQ h (fun hb10 h=>?_) (fun hb10 h=>?_)
    ·refine zo ?_
     refine zB [(4,.int .i64 st1)] [(1000,.arr 42 (.sl (.pair (.int .i64) (.int .i64))) s),(1001,.box 103 [.sl (.sl (.pair (.int .i64) .bool)) c0.1,.sl Y0 c0.2.1,.sl (.sl (.int .i64)) c0.2.2])] ?_
     refine AW.ret ?_
     refine ablock_r ?_
     refine athen_r ?_
     obtain rfl:=Option.some.inj h
     rw [← hd3 _ rfl] at ho2
     have h:=ho2
     try simp only at h
     refine athen_r ?_
     refine ablock_r ?_
     refine athen_r ?_
     obtain rfl:=Option.some.inj h
     exact zR [] [] []
    ·refine zm ?_
     refine athen_n ?_
     refine AW.ops ?_
     obtain ⟨c11,h⟩:=ck_some.1 h
     refine zA [(0,.own 1000),(1,.fn (.func 128) [] [.bp 1001 0]),(7,.int .i64 (s.length:Int)),(8,.int .i64 (st1+1))] [(1000,.arr 42 (.sl (.pair (.int .i64) (.int .i64))) s),(1001,.box 103 [.sl (.sl (.pair (.int .i64) .bool)) c0.1,.sl Y0 c0.2.1,.sl (.sl (.int .i64)) c0.2.2])] ?_
     obtain rfl:=Option.some.inj h
     exact ⟨_,rfl,zL [] [] []⟩
   ·refine AW.exit ?_
    refine athen_e ?_
    obtain rfl:=Option.some.inj h
    try rw [← hd3 _ rfl] at ho2
    have h:=ho2
    try simp only at h
    refine athen_e ?_
    refine ablock_s ?_
    refine athen_n ?_
    exact AW.weaken (zL [] [] []) (hk_slices_IndexFunc_11_k1 () h)
end Go.Proofs.Ytdicomoggfhbfaa
