import Derived.Test.YtdicomoggfhbfaaDlp
import Derived.Test.YtdicomoggfhbfaaShd
import Derived.Test.YtdicomoggfhbfaaDjc4
import Derived.Test.YtdicomoggfhbfaaDjc7
namespace Go.Proofs.Ytdicomoggfhbfaa
open Go.RowKit
set_option linter.unusedSimpArgs false
set_option linter.unusedVariables false
set_option linter.constructorNameAsVariable false
set_option maxRecDepth 100000
set_option maxHeartbeats 40000000
theorem hc_delay_accesses_onCircles_1 (pair:Int×Int×Int) (a1:List ((Int×Int×Int)×(List (Int×Int×Int)))) {r:Unit} (h:delay_accesses_onCircles_1 pair a1=some r):HC Try.prog 114 [(1000,.box 93 [.own 1001]),(1001,.map true false Y0 (.sl Y0) a1)] [.agg [.int .i64 pair.1,.int .i64 pair.2.1,.int .i64 pair.2.2],.bp 1000 0] [(1000,.box 93 [.own 1001]),(1001,.map true false Y0 (.sl Y0) a1)] (.bool (!(mhas a1 pair))):=by
 unfold delay_accesses_onCircles_1 at h
 refine zH Try.func114 [.tmp 3] 8 ?_
 refine zo ?_
 refine zB [(1,.bp 1000 0),(2,.bp 2 0)] [(2,.box 35 [.int .i64 pair.1,.int .i64 pair.2.1,.int .i64 pair.2.2]),(1000,.box 93 [.own 1001]),(1001,.map true false Y0 (.sl Y0) a1)] ?_
 refine zo ?_
 refine zS 2 [(4,.own 1001),(5,.agg [.int .i64 pair.1,.int .i64 pair.2.1,.int .i64 pair.2.2])] [(1000,.box 93 [.own 1001]),(1001,.map true false Y0 (.sl Y0) a1)] ?_
 obtain ⟨c1,h⟩:=ck_some.1 h
 obtain ⟨c2,h⟩:=ck_some.1 h
 obtain ⟨c3,h⟩:=ck_some.1 h
 obtain ⟨c4,h⟩:=ck_some.1 h
 refine AO.lookupNil tab_ok mapty_93 (by decide) (by decide) rfl rfl rfl rfl (neg:=false) rfl tab_30 rfl rfl (by first|rfl|(simp only [go_sem])<;>(with_reducible and_intros)<;>first|assumption|rfl|omega|(unfold maxLen; omega)) (l:=[.int .i64 pair.1,.int .i64 pair.2.1,.int .i64 pair.2.2]) (by first|rfl|(simp only [go_sem])<;>(with_reducible and_intros)<;>first|assumption|rfl|omega|(unfold maxLen; omega)) (by first|rfl|(simp only [go_sem])<;>(with_reducible and_intros)<;>first|assumption|rfl|omega|(unfold maxLen; omega)) (by first|assumption|omega|(simp only [go_sem])<;>(with_reducible and_intros)<;>first|assumption|rfl|omega|(unfold maxLen; omega)) rfl (by first|assumption|omega|(simp only [go_sem])<;>(with_reducible and_intros)<;>first|assumption|rfl|omega|(unfold maxLen; omega)) ?_
 refine zT [(7,.bool (!(mhas a1 pair)))] [(1000,.box 93 [.own 1001]),(1001,.map true false Y0 (.sl Y0) a1)] gt ?_
 refine zB [(3,.bool (!(mhas a1 pair)))] [(1000,.box 93 [.own 1001]),(1001,.map true false Y0 (.sl Y0) a1)] ?_
 refine AW.ret ?_
 obtain rfl:=Option.some.inj h
 exact zR [] [] []
theorem hc_slices_IndexFunc_6 (s:List (Int×Int×Int)) (c0:List ((Int×Int×Int)×(List (Int×Int×Int)))) {r:Int} (h:slices_IndexFunc_6 s c0=some r):HC Try.prog 116 [(1000,.arr 35 Y0 s),(1001,.box 93 [.own 1002]),(1002,.map true false Y0 (.sl Y0) c0)] [.own 1000,.fn (.func 114) [] [.bp 1001 0]] [(1000,.arr 35 Y0 s),(1001,.box 93 [.own 1002]),(1002,.map true false Y0 (.sl Y0) c0)] (.int .i64 r):=by
 unfold slices_IndexFunc_6 at h
 refine zH Try.func116 [.tmp 4] 19 ?_
 refine zo ?_
 refine zB [(0,.own 1000),(1,.fn (.func 114) [] [.bp 1001 0])] [(1000,.arr 35 Y0 s),(1001,.box 93 [.own 1002]),(1002,.map true false Y0 (.sl Y0) c0)] ?_
 refine AW.have1 (fun _:Unit=>slices_IndexFunc_6_k1=some r) (fun _=>⟨fr [],hpGet [(1000,.arr 35 Y0 s),(1001,.box 93 [.own 1002]),(1002,.map true false Y0 (.sl Y0) c0)],gt⟩) (fun _ h=>?_) (fun hk_slices_IndexFunc_6_k1=>?_)
 ·as_aux_lemma =>
   unfold slices_IndexFunc_6_k1 at h
   refine zo ?_
   refine zB [(4,.int .i64 (-1))] [(1000,.arr 35 Y0 s),(1001,.box 93 [.own 1002]),(1002,.map true false Y0 (.sl Y0) c0)] ?_
   refine AW.ret ?_
   obtain rfl:=Option.some.inj h
   exact zR [] [] []
 ·refine AW.seq ?_
  refine zo ?_
  refine zB [(0,.own 1000),(1,.fn (.func 114) [] [.bp 1001 0]),(7,.int .i64 (s.length:Int)),(8,.int .i64 0)] [(1000,.arr 35 Y0 s),(1001,.box 93 [.own 1002]),(1002,.map true false Y0 (.sl Y0) c0)] ?_
  refine AW.block ?_
  obtain ⟨rv5,hw1,ho2⟩:=Option.bind_eq_some_iff.1 h
  refine AW.loopO (slices_IndexFunc_6_b1 s c0) (fun st1=>⟨fr [(0,.own 1000),(1,.fn (.func 114) [] [.bp 1001 0]),(7,.int .i64 (s.length:Int)),(8,.int .i64 st1)],hpGet [(1000,.arr 35 Y0 s),(1001,.box 93 [.own 1002]),(1002,.map true false Y0 (.sl Y0) c0)],gt⟩) 0 hw1 (zL [] [] []) ?_
  as_aux_lemma =>
   intro st1 x4 h hd3
   unfold slices_IndexFunc_6_b1 at h
   refine zo ?_
   refine zB [(0,.own 1000),(1,.fn (.func 114) [] [.bp 1001 0]),(7,.int .i64 (s.length:Int)),(8,.int .i64 st1),(9,.bool (decide (st1<(s.length:Int))))] [(1000,.arr 35 Y0 s),(1001,.box 93 [.own 1002]),(1002,.map true false Y0 (.sl Y0) c0)] ?_
   refine AW.seq ?_
   refine zQ h (fun hb6 h=>?_) (fun hb6 h=>?_)
   ·refine zk ?_
    refine AW.seq ?_
    refine AW.block ?_
    refine zo ?_
    refine zB [(0,.own 1000),(1,.fn (.func 114) [] [.bp 1001 0]),(5,.int .i64 st1),(7,.int .i64 (s.length:Int)),(8,.int .i64 st1)] [(1000,.arr 35 Y0 s),(1001,.box 93 [.own 1002]),(1002,.map true false Y0 (.sl Y0) c0)] ?_
    refine zo ?_
    obtain ⟨c7,h⟩:=ck_some.1 h
    obtain ⟨c8,h⟩:=ck_some.1 h
    refine zS 5 [(0,.own 1000),(1,.fn (.func 114) [] [.bp 1001 0]),(5,.int .i64 st1),(7,.int .i64 (s.length:Int)),(8,.int .i64 st1),(11,.fn (.func 114) [] [.bp 1001 0]),(15,.agg [.int .i64 (s.getD st1.toNat (0,0,0)).1,.int .i64 (s.getD st1.toNat (0,0,0)).2.1,.int .i64 (s.getD st1.toNat (0,0,0)).2.2])] [(1000,.arr 35 Y0 s),(1001,.box 93 [.own 1002]),(1002,.map true false Y0 (.sl Y0) c0)] ?_
    obtain ⟨v0,hv9,h⟩:=Option.bind_eq_some_iff.1 h
    refine zC [] [(1000,1001),(1001,1002)] (hc_delay_accesses_onCircles_1 (s.getD st1.toNat (0,0,0)) c0 hv9) [(0,.own 1000),(1,.fn (.func 114) [] [.bp 1001 0]),(5,.int .i64 st1),(7,.int .i64 (s.length:Int)),(8,.int .i64 st1),(16,.bool (!(mhas c0 (s.getD st1.toNat (0,0,0)))))] [(1000,.arr 35 Y0 s),(1001,.box 93 [.own 1002]),(1002,.map true false Y0 (.sl Y0) c0)] ?_
    refine zB [(0,.own 1000),(1,.fn (.func 114) [] [.bp 1001 0]),(5,.int .i64 st1),(7,.int .i64 (s.length:Int)),(8,.int .i64 st1),(16,.bool (!(mhas c0 (s.getD st1.toNat (0,0,0)))))] [(1000,.arr 35 Y0 s),(1001,.box 93 [.own 1002]),(1002,.map true false Y0 (.sl Y0) c0)] ?_
    refine zQ h (fun hb10 h=>?_) (fun hb10 h=>?_)
    ·refine zo ?_
     refine zB [(4,.int .i64 st1)] [(1000,.arr 35 Y0 s),(1001,.box 93 [.own 1002]),(1002,.map true false Y0 (.sl Y0) c0)] ?_
     refine AW.ret ?_
     refine ablock_r ?_
     refine athen_r ?_
     obtain rfl:=Option.some.inj h
     rw [← hd3 _ rfl] at ho2
     have h:=ho2
     try simp only at h
     refine athen_r ?_
     refine ablock_r ?_
     refine athen_r ?_
     obtain rfl:=Option.some.inj h
     exact zR [] [] []
    ·refine zm ?_
     refine athen_n ?_
     refine AW.ops ?_
     obtain ⟨c11,h⟩:=ck_some.1 h
     refine zA [(0,.own 1000),(1,.fn (.func 114) [] [.bp 1001 0]),(7,.int .i64 (s.length:Int)),(8,.int .i64 (st1+1))] [(1000,.arr 35 Y0 s),(1001,.box 93 [.own 1002]),(1002,.map true false Y0 (.sl Y0) c0)] ?_
     obtain rfl:=Option.some.inj h
     exact ⟨_,rfl,zL [] [] []⟩
   ·refine AW.exit ?_
    refine athen_e ?_
    obtain rfl:=Option.some.inj h
    try rw [← hd3 _ rfl] at ho2
    have h:=ho2
    try simp only at h
    refine athen_e ?_
    refine ablock_s ?_
    refine athen_n ?_
    exact AW.weaken (zL [] [] []) (hk_slices_IndexFunc_6_k1 () h)
theorem hc_slices_DeleteFunc_2 (s:List (Int×Int×Int)) (c0:List ((Int×Int×Int)×(List (Int×Int×Int)))) {r:(List (Int×Int×Int))} (h:slices_DeleteFunc_2 s c0=some r):HC Try.prog 80 [(1000,.arr 35 Y0 s),(1001,.box 93 [.own 1002]),(1002,.map true false Y0 (.sl Y0) c0)] [.own 1000,.fn (.func 114) [] [.bp 1001 0]] [(1001,.box 93 [.own 1002]),(1002,.map true false Y0 (.sl Y0) c0),(2000,.arr 35 Y0 r)] (.own 2000):=by
 unfold slices_DeleteFunc_2 at h
 refine zH Try.func80 [.tmp 4] 42 ?_
 refine zo ?_
 refine zB [(0,.own 1000),(1,.fn (.func 114) [] [.bp 1001 0])] [(1000,.arr 35 Y0 s),(1001,.box 93 [.own 1002]),(1002,.map true false Y0 (.sl Y0) c0)] ?_
 refine zo ?_
 refine zS 2 [(0,.own 1000),(1,.fn (.func 114) [] [.bp 1001 0]),(8,.own 1000),(9,.fn (.func 114) [] [.bp 1001 0])] [(1000,.arr 35 Y0 s),(1001,.box 93 [.own 1002]),(1002,.map true false Y0 (.sl Y0) c0)] ?_
 obtain ⟨v0,hv1,h⟩:=Option.bind_eq_some_iff.1 h
 refine zC [] [(1000,1000),(1001,1001),(1002,1002)] (hc_slices_IndexFunc_6 s c0 hv1) [(0,.own 1000),(1,.fn (.func 114) [] [.bp 1001 0]),(10,.int .i64 v0)] [(1000,.arr 35 Y0 s),(1001,.box 93 [.own 1002]),(1002,.map true false Y0 (.sl Y0) c0)] ?_
 refine zB [(0,.own 1000),(1,.fn (.func 114) [] [.bp 1001 0]),(5,.int .i64 v0)] [(1000,.arr 35 Y0 s),(1001,.box 93 [.own 1002]),(1002,.map true false Y0 (.sl Y0) c0)] ?_
 refine AW.seq ?_
 refine zo ?_
 refine zB [(0,.own 1000),(1,.fn (.func 114) [] [.bp 1001 0]),(5,.int .i64 v0),(12,.bool (decide (v0=(-1))))] [(1000,.arr 35 Y0 s),(1001,.box 93 [.own 1002]),(1002,.map true false Y0 (.sl Y0) c0)] ?_
 refine zQ h (fun hb2 h=>?_) (fun hb2 h=>?_)
 ·refine zo ?_
  refine zB [(4,.own 1000)] [(1000,.arr 35 Y0 s),(1001,.box 93 [.own 1002]),(1002,.map true false Y0 (.sl Y0) c0)] ?_
  refine zr ?_
  obtain rfl:=Option.some.inj h
  exact zR [] [] [(2000,1000)]
 ·refine zk ?_
  refine AW.have1 (fun b1:(List (Int×Int×Int))×Int=>slices_DeleteFunc_2_k1 b1=some r) (fun b1=>⟨fr [(0,.own 1000),(5,.int .i64 b1.2)],hpGet [(1000,.arr 35 Y0 b1.1),(1001,.box 93 [.own 1002]),(1002,.map true false Y0 (.sl Y0) c0)],gt⟩) (fun b1 h=>?_) (fun hk_slices_DeleteFunc_2_k1=>?_)
  ·as_aux_lemma =>
    unfold slices_DeleteFunc_2_k1 at h
    refine zo ?_
    refine zS 2 [(0,.own 1000),(5,.int .i64 b1.2),(36,.own 1000),(37,.int .i64 b1.2)] [(1000,.arr 35 Y0 b1.1),(1001,.box 93 [.own 1002]),(1002,.map true false Y0 (.sl Y0) c0)] ?_
    obtain ⟨c3,h⟩:=ck_some.1 h
    obtain ⟨c4,h⟩:=ck_some.1 h
    refine AO.sliceView tab_ok (by decide) rfl rfl tab_30 rfl tab_35 rfl rfl rfl (b1.2) ((b1.1.length:Int)) (by first|assumption|omega|(simp only [go_sem,hb2])<;>(with_reducible and_intros)<;>first|assumption|rfl|omega|(unfold maxLen; omega)) (by first|assumption|omega|(simp only [go_sem,hb2])<;>(with_reducible and_intros)<;>first|assumption|rfl|omega|(unfold maxLen; omega)) (by first|assumption|omega|(simp only [go_sem,hb2])<;>(with_reducible and_intros)<;>first|assumption|rfl|omega|(unfold maxLen; omega)) (.inr ⟨_,_,rfl,rfl⟩) (.inl ⟨rfl,rfl⟩) ?_
    refine zT [(0,.own 1000),(5,.int .i64 b1.2),(38,.vw 1000 3 b1.2.toNat ((b1.1.length:Int) - b1.2).toNat)] [(1000,.arr 35 Y0 b1.1),(1001,.box 93 [.own 1002]),(1002,.map true false Y0 (.sl Y0) c0)] gt ?_
    obtain ⟨c5,h⟩:=ck_some.1 h
    obtain ⟨c6,h⟩:=ck_some.1 h
    refine AO.clearView tab_ok (by decide) rfl rfl rfl rfl rfl tab_30 rfl tab_35 rfl rfl rfl (by first|assumption|omega|(simp only [go_sem,hb2])<;>(with_reducible and_intros)<;>first|assumption|rfl|omega|(unfold maxLen; omega)) (by first|assumption|omega|(simp only [go_sem,hb2])<;>(with_reducible and_intros)<;>first|assumption|rfl|omega|(unfold maxLen; omega)) ?_
    refine zT [(0,.own 1000),(5,.int .i64 b1.2)] [(1000,.arr 35 Y0 (((b1.1.take b1.2.toNat)++(List.replicate ((b1.1.length:Int) - b1.2).toNat ((0,0,0):Int×Int×Int)))++(b1.1.drop (b1.2.toNat+((b1.1.length:Int) - b1.2).toNat)))),(1001,.box 93 [.own 1002]),(1002,.map true false Y0 (.sl Y0) c0)] gt ?_
    refine zB [(0,.own 1000),(5,.int .i64 b1.2)] [(1000,.arr 35 Y0 (((b1.1.take b1.2.toNat)++(List.replicate ((b1.1.length:Int) - b1.2).toNat ((0,0,0):Int×Int×Int)))++(b1.1.drop (b1.2.toNat+((b1.1.length:Int) - b1.2).toNat)))),(1001,.box 93 [.own 1002]),(1002,.map true false Y0 (.sl Y0) c0)] ?_
    refine zo ?_
    refine zS 2 [(39,.own 1000),(40,.int .i64 b1.2)] [(1000,.arr 35 Y0 (((b1.1.take b1.2.toNat)++(List.replicate ((b1.1.length:Int) - b1.2).toNat ((0,0,0):Int×Int×Int)))++(b1.1.drop (b1.2.toNat+((b1.1.length:Int) - b1.2).toNat)))),(1001,.box 93 [.own 1002]),(1002,.map true false Y0 (.sl Y0) c0)] ?_
    obtain ⟨c7,h⟩:=ck_some.1 h
    obtain ⟨c8,h⟩:=ck_some.1 h
    refine AO.sliceOwn tab_ok (by decide) (by decide) rfl rfl tab_30 rfl tab_35 rfl rfl rfl rfl (by first|assumption|omega|(simp only [go_sem,hb2])<;>(with_reducible and_intros)<;>first|assumption|rfl|omega|(unfold maxLen; omega)) (by first|assumption|omega|(simp only [go_sem,hb2])<;>(with_reducible and_intros)<;>first|assumption|rfl|omega|(unfold maxLen; omega)) ?_
    refine zT [(41,.own 41)] [(41,.arr 35 Y0 ((((b1.1.take b1.2.toNat)++(List.replicate ((b1.1.length:Int) - b1.2).toNat ((0,0,0):Int×Int×Int)))++(b1.1.drop (b1.2.toNat+((b1.1.length:Int) - b1.2).toNat))).take b1.2.toNat)),(1001,.box 93 [.own 1002]),(1002,.map true false Y0 (.sl Y0) c0)] gt ?_
    refine zB [(4,.own 41)] [(41,.arr 35 Y0 ((((b1.1.take b1.2.toNat)++(List.replicate ((b1.1.length:Int) - b1.2).toNat ((0,0,0):Int×Int×Int)))++(b1.1.drop (b1.2.toNat+((b1.1.length:Int) - b1.2).toNat))).take b1.2.toNat)),(1001,.box 93 [.own 1002]),(1002,.map true false Y0 (.sl Y0) c0)] ?_
    refine AW.ret ?_
    obtain rfl:=Option.some.inj h
    exact zR [] [] [(2000,41)]
  ·refine AW.seq ?_
   refine zo ?_
   obtain ⟨c9,h⟩:=ck_some.1 h
   refine zB [(0,.own 1000),(1,.fn (.func 114) [] [.bp 1001 0]),(5,.int .i64 v0),(6,.int .i64 (v0+1))] [(1000,.arr 35 Y0 s),(1001,.box 93 [.own 1002]),(1002,.map true false Y0 (.sl Y0) c0)] ?_
   refine AW.block ?_
   obtain ⟨rv14,hw10,ho11⟩:=Option.bind_eq_some_iff.1 h
   refine AW.loopO (slices_DeleteFunc_2_b1 c0) (fun st1=>⟨fr [(0,.own 1000),(1,.fn (.func 114) [] [.bp 1001 0]),(5,.int .i64 st1.2.1),(6,.int .i64 st1.2.2)],hpGet [(1000,.arr 35 Y0 st1.1),(1001,.box 93 [.own 1002]),(1002,.map true false Y0 (.sl Y0) c0)],gt⟩) (s,v0,(v0+1)) hw10 (zL [] [] []) ?_
   as_aux_lemma =>
    intro st1 x13 h hd12
    unfold slices_DeleteFunc_2_b1 at h
    refine AW.seq ?_
    refine zo ?_
    refine zB [(0,.own 1000),(1,.fn (.func 114) [] [.bp 1001 0]),(5,.int .i64 st1.2.1),(6,.int .i64 st1.2.2),(19,.bool (decide (st1.2.2<(st1.1.length:Int))))] [(1000,.arr 35 Y0 st1.1),(1001,.box 93 [.own 1002]),(1002,.map true false Y0 (.sl Y0) c0)] ?_
    refine zQ h (fun hb15 h=>?_) (fun hb15 h=>?_)
    ·refine zk ?_
     refine AW.seq ?_
     refine AW.block ?_
     refine zo ?_
     obtain ⟨c16,h⟩:=ck_some.1 h
     obtain ⟨c17,h⟩:=ck_some.1 h
     refine zS 5 [(0,.own 1000),(1,.fn (.func 114) [] [.bp 1001 0]),(5,.int .i64 st1.2.1),(6,.int .i64 st1.2.2),(7,.bp 7 0),(25,.agg [.int .i64 (st1.1.getD st1.2.2.toNat (0,0,0)).1,.int .i64 (st1.1.getD st1.2.2.toNat (0,0,0)).2.1,.int .i64 (st1.1.getD st1.2.2.toNat (0,0,0)).2.2])] [(7,.box 35 [.int .i64 0,.int .i64 0,.int .i64 0]),(1000,.arr 35 Y0 st1.1),(1001,.box 93 [.own 1002]),(1002,.map true false Y0 (.sl Y0) c0)] ?_
     refine zB [(0,.own 1000),(1,.fn (.func 114) [] [.bp 1001 0]),(5,.int .i64 st1.2.1),(6,.int .i64 st1.2.2),(7,.bp 7 0)] [(7,.box 35 [.int .i64 (st1.1.getD st1.2.2.toNat (0,0,0)).1,.int .i64 (st1.1.getD st1.2.2.toNat (0,0,0)).2.1,.int .i64 (st1.1.getD st1.2.2.toNat (0,0,0)).2.2]),(1000,.arr 35 Y0 st1.1),(1001,.box 93 [.own 1002]),(1002,.map true false Y0 (.sl Y0) c0)] ?_
     refine zo ?_
     refine zS 2 [(0,.own 1000),(1,.fn (.func 114) [] [.bp 1001 0]),(5,.int .i64 st1.2.1),(6,.int .i64 st1.2.2),(7,.bp 7 0),(26,.fn (.func 114) [] [.bp 1001 0]),(27,.agg [.int .i64 (st1.1.getD st1.2.2.toNat (0,0,0)).1,.int .i64 (st1.1.getD st1.2.2.toNat (0,0,0)).2.1,.int .i64 (st1.1.getD st1.2.2.toNat (0,0,0)).2.2])] [(7,.box 35 [.int .i64 (st1.1.getD st1.2.2.toNat (0,0,0)).1,.int .i64 (st1.1.getD st1.2.2.toNat (0,0,0)).2.1,.int .i64 (st1.1.getD st1.2.2.toNat (0,0,0)).2.2]),(1000,.arr 35 Y0 st1.1),(1001,.box 93 [.own 1002]),(1002,.map true false Y0 (.sl Y0) c0)] ?_
     obtain ⟨v0_2,hv18,h⟩:=Option.bind_eq_some_iff.1 h
     refine zC [] [(1000,1001),(1001,1002)] (hc_delay_accesses_onCircles_1 (st1.1.getD st1.2.2.toNat (0,0,0)) c0 hv18) [(0,.own 1000),(1,.fn (.func 114) [] [.bp 1001 0]),(5,.int .i64 st1.2.1),(6,.int .i64 st1.2.2),(7,.bp 7 0),(28,.bool (!(mhas c0 (st1.1.getD st1.2.2.toNat (0,0,0)))))] [(7,.box 35 [.int .i64 (st1.1.getD st1.2.2.toNat (0,0,0)).1,.int .i64 (st1.1.getD st1.2.2.toNat (0,0,0)).2.1,.int .i64 (st1.1.getD st1.2.2.toNat (0,0,0)).2.2]),(1000,.arr 35 Y0 st1.1),(1001,.box 93 [.own 1002]),(1002,.map true false Y0 (.sl Y0) c0)] ?_
     refine zB [(0,.own 1000),(1,.fn (.func 114) [] [.bp 1001 0]),(5,.int .i64 st1.2.1),(6,.int .i64 st1.2.2),(7,.bp 7 0),(29,.bool (!(!(mhas c0 (st1.1.getD st1.2.2.toNat (0,0,0))))))] [(7,.box 35 [.int .i64 (st1.1.getD st1.2.2.toNat (0,0,0)).1,.int .i64 (st1.1.getD st1.2.2.toNat (0,0,0)).2.1,.int .i64 (st1.1.getD st1.2.2.toNat (0,0,0)).2.2]),(1000,.arr 35 Y0 st1.1),(1001,.box 93 [.own 1002]),(1002,.map true false Y0 (.sl Y0) c0)] ?_
     refine zQ h (fun hb19 h=>?_) (fun hb19 h=>?_)
     ·refine zo ?_
      obtain ⟨c20,h⟩:=ck_some.1 h
      obtain ⟨c21,h⟩:=ck_some.1 h
      refine zB [(0,.own 1000),(1,.fn (.func 114) [] [.bp 1001 0]),(5,.int .i64 st1.2.1),(6,.int .i64 st1.2.2)] [(1000,.arr 35 Y0 (st1.1.set st1.2.1.toNat (st1.1.getD st1.2.2.toNat (0,0,0)))),(1001,.box 93 [.own 1002]),(1002,.map true false Y0 (.sl Y0) c0)] ?_
      refine AW.ops ?_
      obtain ⟨c22,h⟩:=ck_some.1 h
      refine zA [(0,.own 1000),(1,.fn (.func 114) [] [.bp 1001 0]),(5,.int .i64 (st1.2.1+1)),(6,.int .i64 st1.2.2)] [(1000,.arr 35 Y0 (st1.1.set st1.2.1.toNat (st1.1.getD st1.2.2.toNat (0,0,0)))),(1001,.box 93 [.own 1002]),(1002,.map true false Y0 (.sl Y0) c0)] ?_
      refine ablock_n ?_
      refine athen_n ?_
      refine AW.ops ?_
      obtain ⟨c23,h⟩:=ck_some.1 h
      refine zA [(0,.own 1000),(1,.fn (.func 114) [] [.bp 1001 0]),(5,.int .i64 (st1.2.1+1)),(6,.int .i64 (st1.2.2+1))] [(1000,.arr 35 Y0 (st1.1.set st1.2.1.toNat (st1.1.getD st1.2.2.toNat (0,0,0)))),(1001,.box 93 [.own 1002]),(1002,.map true false Y0 (.sl Y0) c0)] ?_
      obtain rfl:=Option.some.inj h
      exact ⟨_,rfl,zL [] [] []⟩
     ·refine zm ?_
      refine athen_n ?_
      refine AW.ops ?_
      obtain ⟨c24,h⟩:=ck_some.1 h
      refine zA [(0,.own 1000),(1,.fn (.func 114) [] [.bp 1001 0]),(5,.int .i64 st1.2.1),(6,.int .i64 (st1.2.2+1))] [(1000,.arr 35 Y0 st1.1),(1001,.box 93 [.own 1002]),(1002,.map true false Y0 (.sl Y0) c0)] ?_
      obtain rfl:=Option.some.inj h
      exact ⟨_,rfl,zL [] [] []⟩
    ·refine AW.exit ?_
     refine athen_e ?_
     obtain rfl:=Option.some.inj h
     rw [← hd12 _ rfl] at ho11
     have h:=ho11
     refine athen_e ?_
     refine ablock_s ?_
     refine athen_n ?_
     exact AW.weaken (zL [] [] []) (hk_slices_DeleteFunc_2_k1 _ h)
theorem hc_delay_accesses_onCircles (x0:List (List (Int×Bool))) {r:(List (Int×Int×Int))} (h:delay_accesses_onCircles x0=some r):HC Try.prog 75 [] [.sl (.sl (.pair (.int .i64) .bool)) x0] [(2000,.arr 35 Y0 r)] (.own 2000):=by
 unfold delay_accesses_onCircles at h
 refine zH Try.func75 [.tmp 2] 10 ?_
 refine zo ?_
 refine zB [(0,.sl (.sl (.pair (.int .i64) .bool)) x0)] [] ?_
 refine zo ?_
 refine zS 1 [(0,.sl (.sl (.pair (.int .i64) .bool)) x0),(4,.sl (.sl (.pair (.int .i64) .bool)) x0)] [] ?_
 obtain ⟨v0,hv1,h⟩:=Option.bind_eq_some_iff.1 h
 refine zC [] [] (hc_delay_accesses_found x0 hv1) [(0,.sl (.sl (.pair (.int .i64) .bool)) x0),(5,.own 15000)] [(15000,.map true false Y0 (.sl Y0) v0)] ?_
 refine zB [(0,.sl (.sl (.pair (.int .i64) .bool)) x0),(3,.bp 3 0)] [(3,.box 93 [.own 15000]),(15000,.map true false Y0 (.sl Y0) v0)] ?_
 refine zo ?_
 refine zS 1 [(3,.bp 3 0),(6,.sl (.sl (.pair (.int .i64) .bool)) x0)] [(3,.box 93 [.own 15000]),(15000,.map true false Y0 (.sl Y0) v0)] ?_
 obtain ⟨v0_2,hv2,h⟩:=Option.bind_eq_some_iff.1 h
 refine zC [] [] (hc_delay_accesses_pairs x0 hv2) [(3,.bp 3 0),(7,.own 17000)] [(3,.box 93 [.own 15000]),(15000,.map true false Y0 (.sl Y0) v0),(17000,.arr 35 Y0 v0_2)] ?_
 refine zS 1 [(7,.own 17000),(8,.fn (.func 114) [] [.bp 3 0])] [(3,.box 93 [.own 15000]),(15000,.map true false Y0 (.sl Y0) v0),(17000,.arr 35 Y0 v0_2)] ?_
 obtain ⟨v0_3,hv3,h⟩:=Option.bind_eq_some_iff.1 h
 refine zC [] [(1000,17000),(1001,3),(1002,15000)] (hc_slices_DeleteFunc_2 v0_2 v0 hv3) [(9,.own 19000)] [(19000,.arr 35 Y0 v0_3)] ?_
 refine zB [(2,.own 19000)] [(19000,.arr 35 Y0 v0_3)] ?_
 refine AW.ret ?_
 obtain rfl:=Option.some.inj h
 exact zR [] [] [(2000,19000)]
end Go.Proofs.Ytdicomoggfhbfaa
