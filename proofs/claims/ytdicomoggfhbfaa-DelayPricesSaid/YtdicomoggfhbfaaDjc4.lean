import Derived.Test.YtdicomoggfhbfaaDlp
import Derived.Test.YtdicomoggfhbfaaShd
import Derived.Test.YtdicomoggfhbfaaAvd
import Derived.Test.YtdicomoggfhbfaaDjc1
import Derived.Test.YtdicomoggfhbfaaDjc2
import Derived.Test.YtdicomoggfhbfaaDjc3
namespace Go.Proofs.Ytdicomoggfhbfaa
open Go.RowKit
set_option linter.unusedSimpArgs false
set_option linter.unusedVariables false
set_option linter.constructorNameAsVariable false
set_option maxRecDepth 100000
set_option maxHeartbeats 40000000
theorem hc_slices_IndexFunc_5 (s:List (Int×Int×Int)) {r:Int} (h:slices_IndexFunc_5 s=some r):HC Try.prog 116 [(1000,.arr 35 Y0 s)] [.own 1000,.fn (.func 110) [] []] [(1000,.arr 35 Y0 s)] (.int .i64 r):=by
 unfold slices_IndexFunc_5 at h
 refine zH Try.func116 [.tmp 4] 19 ?_
 refine zo ?_
 refine zB [(0,.own 1000),(1,.fn (.func 110) [] [])] [(1000,.arr 35 Y0 s)] ?_
 refine AW.have1 (fun _:Unit=>slices_IndexFunc_5_k1=some r) (fun _=>⟨fr [],hpGet [(1000,.arr 35 Y0 s)],gt⟩) (fun _ h=>?_) (fun hk_slices_IndexFunc_5_k1=>?_)
 ·as_aux_lemma =>
   unfold slices_IndexFunc_5_k1 at h
   refine zo ?_
   refine zB [(4,.int .i64 (-1))] [(1000,.arr 35 Y0 s)] ?_
   refine AW.ret ?_
   obtain rfl:=Option.some.inj h
   exact zR [] [] []
 ·refine AW.seq ?_
  refine zo ?_
  refine zB [(0,.own 1000),(1,.fn (.func 110) [] []),(7,.int .i64 (s.length:Int)),(8,.int .i64 0)] [(1000,.arr 35 Y0 s)] ?_
  refine AW.block ?_
  obtain ⟨rv5,hw1,ho2⟩:=Option.bind_eq_some_iff.1 h
  refine AW.loopO (slices_IndexFunc_5_b1 s) (fun st1=>⟨fr [(0,.own 1000),(1,.fn (.func 110) [] []),(7,.int .i64 (s.length:Int)),(8,.int .i64 st1)],hpGet [(1000,.arr 35 Y0 s)],gt⟩) 0 hw1 (zL [] [] []) ?_
  as_aux_lemma =>
   intro st1 x4 h hd3
   unfold slices_IndexFunc_5_b1 at h
   refine zo ?_
   refine zB [(0,.own 1000),(1,.fn (.func 110) [] []),(7,.int .i64 (s.length:Int)),(8,.int .i64 st1),(9,.bool (decide (st1<(s.length:Int))))] [(1000,.arr 35 Y0 s)] ?_
   refine AW.seq ?_
   refine zQ h (fun hb6 h=>?_) (fun hb6 h=>?_)
   ·refine zk ?_
    refine AW.seq ?_
    refine AW.block ?_
    refine zo ?_
    refine zB [(0,.own 1000),(1,.fn (.func 110) [] []),(5,.int .i64 st1),(7,.int .i64 (s.length:Int)),(8,.int .i64 st1)] [(1000,.arr 35 Y0 s)] ?_
    refine zo ?_
    obtain ⟨c7,h⟩:=ck_some.1 h
    obtain ⟨c8,h⟩:=ck_some.1 h
    refine zS 5 [(0,.own 1000),(1,.fn (.func 110) [] []),(5,.int .i64 st1),(7,.int .i64 (s.length:Int)),(8,.int .i64 st1),(11,.fn (.func 110) [] []),(15,.agg [.int .i64 (s.getD st1.toNat (0,0,0)).1,.int .i64 (s.getD st1.toNat (0,0,0)).2.1,.int .i64 (s.getD st1.toNat (0,0,0)).2.2])] [(1000,.arr 35 Y0 s)] ?_
    obtain ⟨v0,hv9,h⟩:=Option.bind_eq_some_iff.1 h
    refine zC [] [] (hc_delay_isOne (s.getD st1.toNat (0,0,0)) hv9) [(0,.own 1000),(1,.fn (.func 110) [] []),(5,.int .i64 st1),(7,.int .i64 (s.length:Int)),(8,.int .i64 st1),(16,.bool (decide ((s.getD st1.toNat (0,0,0)).2.1=(s.getD st1.toNat (0,0,0)).2.2)))] [(1000,.arr 35 Y0 s)] ?_
    refine zB [(0,.own 1000),(1,.fn (.func 110) [] []),(5,.int .i64 st1),(7,.int .i64 (s.length:Int)),(8,.int .i64 st1),(16,.bool (decide ((s.getD st1.toNat (0,0,0)).2.1=(s.getD st1.toNat (0,0,0)).2.2)))] [(1000,.arr 35 Y0 s)] ?_
    refine zQ h (fun hb10 h=>?_) (fun hb10 h=>?_)
    ·refine zo ?_
     refine zB [(4,.int .i64 st1)] [(1000,.arr 35 Y0 s)] ?_
     refine AW.ret ?_
     refine ablock_r ?_
     refine athen_r ?_
     obtain rfl:=Option.some.inj h
     rw [← hd3 _ rfl] at ho2
     have h:=ho2
     try simp only at h
     refine athen_r ?_
     refine ablock_r ?_
     refine athen_r ?_
     obtain rfl:=Option.some.inj h
     exact zR [] [] []
    ·refine zm ?_
     refine athen_n ?_
     refine AW.ops ?_
     obtain ⟨c11,h⟩:=ck_some.1 h
     refine zA [(0,.own 1000),(1,.fn (.func 110) [] []),(7,.int .i64 (s.length:Int)),(8,.int .i64 (st1+1))] [(1000,.arr 35 Y0 s)] ?_
     obtain rfl:=Option.some.inj h
     exact ⟨_,rfl,zL [] [] []⟩
   ·refine AW.exit ?_
    refine athen_e ?_
    obtain rfl:=Option.some.inj h
    try rw [← hd3 _ rfl] at ho2
    have h:=ho2
    try simp only at h
    refine athen_e ?_
    refine ablock_s ?_
    refine athen_n ?_
    exact AW.weaken (zL [] [] []) (hk_slices_IndexFunc_5_k1 () h)
theorem hc_slices_DeleteFunc (s:List (Int×Int×Int)) {r:(List (Int×Int×Int))} (h:slices_DeleteFunc s=some r):HC Try.prog 80 [(1000,.arr 35 Y0 s)] [.own 1000,.fn (.func 110) [] []] [(2000,.arr 35 Y0 r)] (.own 2000):=by
 unfold slices_DeleteFunc at h
 refine zH Try.func80 [.tmp 4] 42 ?_
 refine zo ?_
 refine zB [(0,.own 1000),(1,.fn (.func 110) [] [])] [(1000,.arr 35 Y0 s)] ?_
 refine zo ?_
 refine zS 2 [(0,.own 1000),(1,.fn (.func 110) [] []),(8,.own 1000),(9,.fn (.func 110) [] [])] [(1000,.arr 35 Y0 s)] ?_
 obtain ⟨v0,hv1,h⟩:=Option.bind_eq_some_iff.1 h
 refine zC [] [(1000,1000)] (hc_slices_IndexFunc_5 s hv1) [(0,.own 1000),(1,.fn (.func 110) [] []),(10,.int .i64 v0)] [(1000,.arr 35 Y0 s)] ?_
 refine zB [(0,.own 1000),(1,.fn (.func 110) [] []),(5,.int .i64 v0)] [(1000,.arr 35 Y0 s)] ?_
 refine AW.seq ?_
 refine zo ?_
 refine zB [(0,.own 1000),(1,.fn (.func 110) [] []),(5,.int .i64 v0),(12,.bool (decide (v0=(-1))))] [(1000,.arr 35 Y0 s)] ?_
 refine zQ h (fun hb2 h=>?_) (fun hb2 h=>?_)
 ·refine zo ?_
  refine zB [(4,.own 1000)] [(1000,.arr 35 Y0 s)] ?_
  refine zr ?_
  obtain rfl:=Option.some.inj h
  exact zR [] [] [(2000,1000)]
 ·refine zk ?_
  refine AW.have1 (fun b1:(List (Int×Int×Int))×Int=>slices_DeleteFunc_k1 b1=some r) (fun b1=>⟨fr [(0,.own 1000),(5,.int .i64 b1.2)],hpGet [(1000,.arr 35 Y0 b1.1)],gt⟩) (fun b1 h=>?_) (fun hk_slices_DeleteFunc_k1=>?_)
  ·as_aux_lemma =>
    unfold slices_DeleteFunc_k1 at h
    refine zo ?_
    refine zS 2 [(0,.own 1000),(5,.int .i64 b1.2),(36,.own 1000),(37,.int .i64 b1.2)] [(1000,.arr 35 Y0 b1.1)] ?_
    obtain ⟨c3,h⟩:=ck_some.1 h
    obtain ⟨c4,h⟩:=ck_some.1 h
    refine AO.sliceView tab_ok (by decide) rfl rfl tab_30 rfl tab_35 rfl rfl rfl (b1.2) ((b1.1.length:Int)) (by first|assumption|omega|(simp only [go_sem,hb2])<;>(with_reducible and_intros)<;>first|assumption|rfl|omega|(unfold maxLen; omega)) (by first|assumption|omega|(simp only [go_sem,hb2])<;>(with_reducible and_intros)<;>first|assumption|rfl|omega|(unfold maxLen; omega)) (by first|assumption|omega|(simp only [go_sem,hb2])<;>(with_reducible and_intros)<;>first|assumption|rfl|omega|(unfold maxLen; omega)) (.inr ⟨_,_,rfl,rfl⟩) (.inl ⟨rfl,rfl⟩) ?_
    refine zT [(0,.own 1000),(5,.int .i64 b1.2),(38,.vw 1000 3 b1.2.toNat ((b1.1.length:Int) - b1.2).toNat)] [(1000,.arr 35 Y0 b1.1)] gt ?_
    obtain ⟨c5,h⟩:=ck_some.1 h
    obtain ⟨c6,h⟩:=ck_some.1 h
    refine AO.clearView tab_ok (by decide) rfl rfl rfl rfl rfl tab_30 rfl tab_35 rfl rfl rfl (by first|assumption|omega|(simp only [go_sem,hb2])<;>(with_reducible and_intros)<;>first|assumption|rfl|omega|(unfold maxLen; omega)) (by first|assumption|omega|(simp only [go_sem,hb2])<;>(with_reducible and_intros)<;>first|assumption|rfl|omega|(unfold maxLen; omega)) ?_
    refine zT [(0,.own 1000),(5,.int .i64 b1.2)] [(1000,.arr 35 Y0 (((b1.1.take b1.2.toNat)++(List.replicate ((b1.1.length:Int) - b1.2).toNat ((0,0,0):Int×Int×Int)))++(b1.1.drop (b1.2.toNat+((b1.1.length:Int) - b1.2).toNat))))] gt ?_
    refine zB [(0,.own 1000),(5,.int .i64 b1.2)] [(1000,.arr 35 Y0 (((b1.1.take b1.2.toNat)++(List.replicate ((b1.1.length:Int) - b1.2).toNat ((0,0,0):Int×Int×Int)))++(b1.1.drop (b1.2.toNat+((b1.1.length:Int) - b1.2).toNat))))] ?_
    refine zo ?_
    refine zS 2 [(39,.own 1000),(40,.int .i64 b1.2)] [(1000,.arr 35 Y0 (((b1.1.take b1.2.toNat)++(List.replicate ((b1.1.length:Int) - b1.2).toNat ((0,0,0):Int×Int×Int)))++(b1.1.drop (b1.2.toNat+((b1.1.length:Int) - b1.2).toNat))))] ?_
    obtain ⟨c7,h⟩:=ck_some.1 h
    obtain ⟨c8,h⟩:=ck_some.1 h
    refine AO.sliceOwn tab_ok (by decide) (by decide) rfl rfl tab_30 rfl tab_35 rfl rfl rfl rfl (by first|assumption|omega|(simp only [go_sem,hb2])<;>(with_reducible and_intros)<;>first|assumption|rfl|omega|(unfold maxLen; omega)) (by first|assumption|omega|(simp only [go_sem,hb2])<;>(with_reducible and_intros)<;>first|assumption|rfl|omega|(unfold maxLen; omega)) ?_
    refine zT [(41,.own 41)] [(41,.arr 35 Y0 ((((b1.1.take b1.2.toNat)++(List.replicate ((b1.1.length:Int) - b1.2).toNat ((0,0,0):Int×Int×Int)))++(b1.1.drop (b1.2.toNat+((b1.1.length:Int) - b1.2).toNat))).take b1.2.toNat))] gt ?_
    refine zB [(4,.own 41)] [(41,.arr 35 Y0 ((((b1.1.take b1.2.toNat)++(List.replicate ((b1.1.length:Int) - b1.2).toNat ((0,0,0):Int×Int×Int)))++(b1.1.drop (b1.2.toNat+((b1.1.length:Int) - b1.2).toNat))).take b1.2.toNat))] ?_
    refine AW.ret ?_
    obtain rfl:=Option.some.inj h
    exact zR [] [] [(2000,41)]
  ·refine AW.seq ?_
   refine zo ?_
   obtain ⟨c9,h⟩:=ck_some.1 h
   refine zB [(0,.own 1000),(1,.fn (.func 110) [] []),(5,.int .i64 v0),(6,.int .i64 (v0+1))] [(1000,.arr 35 Y0 s)] ?_
   refine AW.block ?_
   obtain ⟨rv14,hw10,ho11⟩:=Option.bind_eq_some_iff.1 h
   refine AW.loopO (slices_DeleteFunc_b1) (fun st1=>⟨fr [(0,.own 1000),(1,.fn (.func 110) [] []),(5,.int .i64 st1.2.1),(6,.int .i64 st1.2.2)],hpGet [(1000,.arr 35 Y0 st1.1)],gt⟩) (s,v0,(v0+1)) hw10 (zL [] [] []) ?_
   as_aux_lemma =>
    intro st1 x13 h hd12
    unfold slices_DeleteFunc_b1 at h
    refine AW.seq ?_
    refine zo ?_
    refine zB [(0,.own 1000),(1,.fn (.func 110) [] []),(5,.int .i64 st1.2.1),(6,.int .i64 st1.2.2),(19,.bool (decide (st1.2.2<(st1.1.length:Int))))] [(1000,.arr 35 Y0 st1.1)] ?_
    refine zQ h (fun hb15 h=>?_) (fun hb15 h=>?_)
    ·refine zk ?_
     refine AW.seq ?_
     refine AW.block ?_
     refine zo ?_
     obtain ⟨c16,h⟩:=ck_some.1 h
     obtain ⟨c17,h⟩:=ck_some.1 h
     refine zS 5 [(0,.own 1000),(1,.fn (.func 110) [] []),(5,.int .i64 st1.2.1),(6,.int .i64 st1.2.2),(7,.bp 7 0),(25,.agg [.int .i64 (st1.1.getD st1.2.2.toNat (0,0,0)).1,.int .i64 (st1.1.getD st1.2.2.toNat (0,0,0)).2.1,.int .i64 (st1.1.getD st1.2.2.toNat (0,0,0)).2.2])] [(7,.box 35 [.int .i64 0,.int .i64 0,.int .i64 0]),(1000,.arr 35 Y0 st1.1)] ?_
     refine zB [(0,.own 1000),(1,.fn (.func 110) [] []),(5,.int .i64 st1.2.1),(6,.int .i64 st1.2.2),(7,.bp 7 0)] [(7,.box 35 [.int .i64 (st1.1.getD st1.2.2.toNat (0,0,0)).1,.int .i64 (st1.1.getD st1.2.2.toNat (0,0,0)).2.1,.int .i64 (st1.1.getD st1.2.2.toNat (0,0,0)).2.2]),(1000,.arr 35 Y0 st1.1)] ?_
     refine zo ?_
     refine zS 2 [(0,.own 1000),(1,.fn (.func 110) [] []),(5,.int .i64 st1.2.1),(6,.int .i64 st1.2.2),(7,.bp 7 0),(26,.fn (.func 110) [] []),(27,.agg [.int .i64 (st1.1.getD st1.2.2.toNat (0,0,0)).1,.int .i64 (st1.1.getD st1.2.2.toNat (0,0,0)).2.1,.int .i64 (st1.1.getD st1.2.2.toNat (0,0,0)).2.2])] [(7,.box 35 [.int .i64 (st1.1.getD st1.2.2.toNat (0,0,0)).1,.int .i64 (st1.1.getD st1.2.2.toNat (0,0,0)).2.1,.int .i64 (st1.1.getD st1.2.2.toNat (0,0,0)).2.2]),(1000,.arr 35 Y0 st1.1)] ?_
     obtain ⟨v0_2,hv18,h⟩:=Option.bind_eq_some_iff.1 h
     refine zC [] [] (hc_delay_isOne (st1.1.getD st1.2.2.toNat (0,0,0)) hv18) [(0,.own 1000),(1,.fn (.func 110) [] []),(5,.int .i64 st1.2.1),(6,.int .i64 st1.2.2),(7,.bp 7 0),(28,.bool (decide ((st1.1.getD st1.2.2.toNat (0,0,0)).2.1=(st1.1.getD st1.2.2.toNat (0,0,0)).2.2)))] [(7,.box 35 [.int .i64 (st1.1.getD st1.2.2.toNat (0,0,0)).1,.int .i64 (st1.1.getD st1.2.2.toNat (0,0,0)).2.1,.int .i64 (st1.1.getD st1.2.2.toNat (0,0,0)).2.2]),(1000,.arr 35 Y0 st1.1)] ?_
     refine zB [(0,.own 1000),(1,.fn (.func 110) [] []),(5,.int .i64 st1.2.1),(6,.int .i64 st1.2.2),(7,.bp 7 0),(29,.bool (!(decide ((st1.1.getD st1.2.2.toNat (0,0,0)).2.1=(st1.1.getD st1.2.2.toNat (0,0,0)).2.2))))] [(7,.box 35 [.int .i64 (st1.1.getD st1.2.2.toNat (0,0,0)).1,.int .i64 (st1.1.getD st1.2.2.toNat (0,0,0)).2.1,.int .i64 (st1.1.getD st1.2.2.toNat (0,0,0)).2.2]),(1000,.arr 35 Y0 st1.1)] ?_
     refine zQ h (fun hb19 h=>?_) (fun hb19 h=>?_)
     ·refine zo ?_
      obtain ⟨c20,h⟩:=ck_some.1 h
      obtain ⟨c21,h⟩:=ck_some.1 h
      refine zB [(0,.own 1000),(1,.fn (.func 110) [] []),(5,.int .i64 st1.2.1),(6,.int .i64 st1.2.2)] [(1000,.arr 35 Y0 (st1.1.set st1.2.1.toNat (st1.1.getD st1.2.2.toNat (0,0,0))))] ?_
      refine AW.ops ?_
      obtain ⟨c22,h⟩:=ck_some.1 h
      refine zA [(0,.own 1000),(1,.fn (.func 110) [] []),(5,.int .i64 (st1.2.1+1)),(6,.int .i64 st1.2.2)] [(1000,.arr 35 Y0 (st1.1.set st1.2.1.toNat (st1.1.getD st1.2.2.toNat (0,0,0))))] ?_
      refine ablock_n ?_
      refine athen_n ?_
      refine AW.ops ?_
      obtain ⟨c23,h⟩:=ck_some.1 h
      refine zA [(0,.own 1000),(1,.fn (.func 110) [] []),(5,.int .i64 (st1.2.1+1)),(6,.int .i64 (st1.2.2+1))] [(1000,.arr 35 Y0 (st1.1.set st1.2.1.toNat (st1.1.getD st1.2.2.toNat (0,0,0))))] ?_
      obtain rfl:=Option.some.inj h
      exact ⟨_,rfl,zL [] [] []⟩
     ·refine zm ?_
      refine athen_n ?_
      refine AW.ops ?_
      obtain ⟨c24,h⟩:=ck_some.1 h
      refine zA [(0,.own 1000),(1,.fn (.func 110) [] []),(5,.int .i64 st1.2.1),(6,.int .i64 (st1.2.2+1))] [(1000,.arr 35 Y0 st1.1)] ?_
      obtain rfl:=Option.some.inj h
      exact ⟨_,rfl,zL [] [] []⟩
    ·refine AW.exit ?_
     refine athen_e ?_
     obtain rfl:=Option.some.inj h
     rw [← hd12 _ rfl] at ho11
     have h:=ho11
     refine athen_e ?_
     refine ablock_s ?_
     refine athen_n ?_
     exact AW.weaken (zL [] [] []) (hk_slices_DeleteFunc_k1 _ h)
theorem hc_delay_accesses_pairs (x0:List (List (Int×Bool))) {r:(List (Int×Int×Int))} (h:delay_accesses_pairs x0=some r):HC Try.prog 69 [] [.sl (.sl (.pair (.int .i64) .bool)) x0] [(2000,.arr 35 Y0 r)] (.own 2000):=by
 unfold delay_accesses_pairs at h
 refine zH Try.func69 [.tmp 2] 6 ?_
 refine zo ?_
 refine zB [(0,.sl (.sl (.pair (.int .i64) .bool)) x0)] [] ?_
 refine zo ?_
 refine zS 1 [(3,.sl (.sl (.pair (.int .i64) .bool)) x0)] [] ?_
 obtain ⟨v0,hv1,h⟩:=Option.bind_eq_some_iff.1 h
 refine zC [] [] (hc_delay_accesses_stations x0 hv1) [(4,.own 14000)] [(14000,.arr 35 Y0 v0)] ?_
 obtain ⟨v0_2,hv2,h⟩:=Option.bind_eq_some_iff.1 h
 refine zC [] [(1000,14000)] (hc_slices_DeleteFunc v0 hv2) [(5,.own 15000)] [(15000,.arr 35 Y0 v0_2)] ?_
 refine zB [(2,.own 15000)] [(15000,.arr 35 Y0 v0_2)] ?_
 refine AW.ret ?_
 obtain rfl:=Option.some.inj h
 exact zR [] [] [(2000,15000)]
theorem hc_linealref09_IsPair (x0:List (List (Int×Bool))) (p:Int×Int×Int) {r:Bool} (h:linealref09_IsPair x0 p=some r):HC Try.prog 31 [] [.sl (.sl (.pair (.int .i64) .bool)) x0,.agg [.int .i64 p.1,.int .i64 p.2.1,.int .i64 p.2.2]] [] (.bool r):=by
 unfold linealref09_IsPair at h
 refine zH Try.func31 [.tmp 4] 49 ?_
 refine zo ?_
 refine zB [(0,.sl (.sl (.pair (.int .i64) .bool)) x0),(3,.bp 3 0)] [(3,.box 35 [.int .i64 p.1,.int .i64 p.2.1,.int .i64 p.2.2])] ?_
 refine AW.seq ?_
 refine AW.draw tab_ok mixed_ok [] [] (by decide) (lex_fast (by kernel_rfl)) ?_
 as_aux_lemma =>
  refine adops_cut 5 (fun K' hK1=>?_)
  try dsimp only [List.drop_succ_cons,List.drop_zero,List.take_succ_cons,List.take_zero]
  simp only [go_sem]
  repeat with_reducible refine zN ?_
  refine hK1 _ ?_
  as_aux_lemma =>
   obtain ⟨v0,hv2,h⟩:=Option.bind_eq_some_iff.1 h
   refine adops.call (by first|trivial|rfl) rfl rfl rfl (fun _ h=>h) [] [] (hc_linealref09_IsAccess x0 p.1 p.2.1 hv2) rfl (by (simp only [go_sem])<;>(with_reducible and_intros)<;>first|assumption|rfl|omega|(unfold maxLen; omega)) (by (simp only [go_sem])<;>(with_reducible and_intros)<;>first|assumption|rfl|omega|(unfold maxLen; omega)) rfl ?_
   refine adops_cut 1 (fun K' hK3=>?_)
   try dsimp only [List.drop_succ_cons,List.drop_zero,List.take_succ_cons,List.take_zero]
   simp only [go_sem]
   repeat with_reducible refine zN ?_
   refine hK3 _ ?_
   as_aux_lemma =>
    rcases zI h with ⟨hb4,h⟩|⟨hb4,h⟩
    ·simp only [hb4]
     as_aux_lemma =>
      refine adops_cut 5 (fun K' hK5=>?_)
      try dsimp only [List.drop_succ_cons,List.drop_zero,List.take_succ_cons,List.take_zero]
      simp only [go_sem,hb4]
      repeat with_reducible refine zN ?_
      refine hK5 _ ?_
      as_aux_lemma =>
       obtain ⟨v0_2,hv6,h⟩:=Option.bind_eq_some_iff.1 h
       refine adops.call (by first|trivial|rfl) rfl rfl rfl (fun _ h=>⟨fun _=>h,fun hn=>absurd rfl hn⟩) [] [] (hc_linealref09_IsAccess x0 p.1 p.2.2 hv6) rfl (by (simp only [go_sem,hb4])<;>(with_reducible and_intros)<;>first|assumption|rfl|omega|(unfold maxLen; omega)) (by (simp only [go_sem,hb4])<;>(with_reducible and_intros)<;>first|assumption|rfl|omega|(unfold maxLen; omega)) rfl ?_
       refine adops_cut 2 (fun K' hK7=>?_)
       try dsimp only [List.drop_succ_cons,List.drop_zero,List.take_succ_cons,List.take_zero]
       simp only [go_sem,hb4]
       repeat with_reducible refine zN ?_
       refine hK7 _ ?_
       as_aux_lemma =>
        rcases zI h with ⟨hb8,h⟩|⟨hb8,h⟩
        ·simp only [hb8]
         as_aux_lemma =>
          refine adops_cut 6 (fun K' hK9=>?_)
          try dsimp only [List.drop_succ_cons,List.drop_zero,List.take_succ_cons,List.take_zero]
          simp only [go_sem,hb4,hb8]
          repeat with_reducible refine zN ?_
          refine hK9 _ ?_
          as_aux_lemma =>
           refine adops_cut 1 (fun K' hK10=>?_)
           try dsimp only [List.drop_succ_cons,List.drop_zero,List.take_succ_cons,List.take_zero]
           simp only [go_sem,hb4,hb8]
           repeat with_reducible refine zN ?_
           refine hK10 _ ?_
           as_aux_lemma =>
            rcases zI h with ⟨hb11,h⟩|⟨hb11,h⟩
            ·simp only [hb11]
             as_aux_lemma =>
              obtain ⟨c13,h⟩:=ck_some.1 h
              obtain ⟨c14,h⟩:=ck_some.1 h
              refine adops_cut 6 (fun K' hK12=>?_)
              try dsimp only [List.drop_succ_cons,List.drop_zero,List.take_succ_cons,List.take_zero]
              simp only [go_sem,hb4,hb8,hb11]
              repeat with_reducible refine zN ?_
              refine hK12 _ ?_
              as_aux_lemma =>
               obtain ⟨c16,h⟩:=ck_some.1 h
               obtain ⟨c17,h⟩:=ck_some.1 h
               refine adops_cut 6 (fun K' hK15=>?_)
               try dsimp only [List.drop_succ_cons,List.drop_zero,List.take_succ_cons,List.take_zero]
               simp only [go_sem,hb4,hb8,hb11]
               repeat with_reducible refine zN ?_
               refine hK15 _ ?_
               as_aux_lemma =>
                obtain ⟨c19,h⟩:=ck_some.1 h
                obtain ⟨c20,h⟩:=ck_some.1 h
                obtain ⟨c21,h⟩:=ck_some.1 h
                obtain ⟨c22,h⟩:=ck_some.1 h
                refine adops_cut 6 (fun K' hK18=>?_)
                try dsimp only [List.drop_succ_cons,List.drop_zero,List.take_succ_cons,List.take_zero]
                simp only [go_sem,hb4,hb8,hb11]
                repeat with_reducible refine zN ?_
                refine hK18 _ ?_
                as_aux_lemma =>
                 refine adops_cut 5 (fun K' hK23=>?_)
                 try dsimp only [List.drop_succ_cons,List.drop_zero,List.take_succ_cons,List.take_zero]
                 simp only [go_sem,hb4,hb8,hb11]
                 repeat with_reducible refine zN ?_
                 refine hK23 _ ?_
                 refine adops_nil ?_
                 refine athen_n ?_
                 refine zV [(4,.bool (!(decide (((x0.getD p.1.toNat []).getD p.2.1.toNat (0,false)).1=((x0.getD p.1.toNat []).getD p.2.2.toNat (0,false)).1))))] [] gt ?_
                 as_aux_lemma =>
                  refine AW.ret ?_
                  obtain rfl:=Option.some.inj h
                  exact zR [] [] []
            ·simp only [hb11]
             as_aux_lemma =>
              refine adops_cut 4 (fun K' hK24=>?_)
              try dsimp only [List.drop_succ_cons,List.drop_zero,List.take_succ_cons,List.take_zero]
              simp only [go_sem,hb4,hb8,hb11]
              repeat with_reducible refine zN ?_
              refine hK24 _ ?_
              as_aux_lemma =>
               refine adops_cut 4 (fun K' hK25=>?_)
               try dsimp only [List.drop_succ_cons,List.drop_zero,List.take_succ_cons,List.take_zero]
               simp only [go_sem,hb4,hb8,hb11]
               repeat with_reducible refine zN ?_
               refine hK25 _ ?_
               as_aux_lemma =>
                refine adops_cut 4 (fun K' hK26=>?_)
                try dsimp only [List.drop_succ_cons,List.drop_zero,List.take_succ_cons,List.take_zero]
                simp only [go_sem,hb4,hb8,hb11]
                repeat with_reducible refine zN ?_
                refine hK26 _ ?_
                as_aux_lemma =>
                 refine adops_cut 4 (fun K' hK27=>?_)
                 try dsimp only [List.drop_succ_cons,List.drop_zero,List.take_succ_cons,List.take_zero]
                 simp only [go_sem,hb4,hb8,hb11]
                 repeat with_reducible refine zN ?_
                 refine hK27 _ ?_
                 as_aux_lemma =>
                  refine adops_cut 4 (fun K' hK28=>?_)
                  try dsimp only [List.drop_succ_cons,List.drop_zero,List.take_succ_cons,List.take_zero]
                  simp only [go_sem,hb4,hb8,hb11]
                  repeat with_reducible refine zN ?_
                  refine hK28 _ ?_
                  as_aux_lemma =>
                   refine adops_cut 3 (fun K' hK29=>?_)
                   try dsimp only [List.drop_succ_cons,List.drop_zero,List.take_succ_cons,List.take_zero]
                   simp only [go_sem,hb4,hb8,hb11]
                   repeat with_reducible refine zN ?_
                   refine hK29 _ ?_
                   refine adops_nil ?_
                   refine athen_n ?_
                   refine zV [(4,.bool false)] [] gt ?_
                   as_aux_lemma =>
                    refine AW.ret ?_
                    obtain rfl:=Option.some.inj h
                    exact zR [] [] []
        ·simp only [hb8]
         as_aux_lemma =>
          refine adops_cut 4 (fun K' hK30=>?_)
          try dsimp only [List.drop_succ_cons,List.drop_zero,List.take_succ_cons,List.take_zero]
          simp only [go_sem,hb4,hb8]
          repeat with_reducible refine zN ?_
          refine hK30 _ ?_
          as_aux_lemma =>
           refine adops_cut 6 (fun K' hK31=>?_)
           try dsimp only [List.drop_succ_cons,List.drop_zero,List.take_succ_cons,List.take_zero]
           simp only [go_sem,hb4,hb8]
           repeat with_reducible refine zN ?_
           refine hK31 _ ?_
           as_aux_lemma =>
            refine adops_cut 4 (fun K' hK32=>?_)
            try dsimp only [List.drop_succ_cons,List.drop_zero,List.take_succ_cons,List.take_zero]
            simp only [go_sem,hb4,hb8]
            repeat with_reducible refine zN ?_
            refine hK32 _ ?_
            as_aux_lemma =>
             refine adops_cut 4 (fun K' hK33=>?_)
             try dsimp only [List.drop_succ_cons,List.drop_zero,List.take_succ_cons,List.take_zero]
             simp only [go_sem,hb4,hb8]
             repeat with_reducible refine zN ?_
             refine hK33 _ ?_
             as_aux_lemma =>
              refine adops_cut 4 (fun K' hK34=>?_)
              try dsimp only [List.drop_succ_cons,List.drop_zero,List.take_succ_cons,List.take_zero]
              simp only [go_sem,hb4,hb8]
              repeat with_reducible refine zN ?_
              refine hK34 _ ?_
              as_aux_lemma =>
               refine adops_cut 4 (fun K' hK35=>?_)
               try dsimp only [List.drop_succ_cons,List.drop_zero,List.take_succ_cons,List.take_zero]
               simp only [go_sem,hb4,hb8]
               repeat with_reducible refine zN ?_
               refine hK35 _ ?_
               as_aux_lemma =>
                refine adops_cut 4 (fun K' hK36=>?_)
                try dsimp only [List.drop_succ_cons,List.drop_zero,List.take_succ_cons,List.take_zero]
                simp only [go_sem,hb4,hb8]
                repeat with_reducible refine zN ?_
                refine hK36 _ ?_
                refine adops_nil ?_
                refine athen_n ?_
                refine zV [(4,.bool false)] [] gt ?_
                as_aux_lemma =>
                 refine AW.ret ?_
                 obtain rfl:=Option.some.inj h
                 exact zR [] [] []
    ·simp only [hb4]
     as_aux_lemma =>
      refine adops_cut 4 (fun K' hK37=>?_)
      try dsimp only [List.drop_succ_cons,List.drop_zero,List.take_succ_cons,List.take_zero]
      simp only [go_sem,hb4]
      repeat with_reducible refine zN ?_
      refine hK37 _ ?_
      as_aux_lemma =>
       refine adops_cut 6 (fun K' hK38=>?_)
       try dsimp only [List.drop_succ_cons,List.drop_zero,List.take_succ_cons,List.take_zero]
       simp only [go_sem,hb4]
       repeat with_reducible refine zN ?_
       refine hK38 _ ?_
       as_aux_lemma =>
        refine adops_cut 6 (fun K' hK39=>?_)
        try dsimp only [List.drop_succ_cons,List.drop_zero,List.take_succ_cons,List.take_zero]
        simp only [go_sem,hb4]
        repeat with_reducible refine zN ?_
        refine hK39 _ ?_
        as_aux_lemma =>
         refine adops_cut 4 (fun K' hK40=>?_)
         try dsimp only [List.drop_succ_cons,List.drop_zero,List.take_succ_cons,List.take_zero]
         simp only [go_sem,hb4]
         repeat with_reducible refine zN ?_
         refine hK40 _ ?_
         as_aux_lemma =>
          refine adops_cut 4 (fun K' hK41=>?_)
          try dsimp only [List.drop_succ_cons,List.drop_zero,List.take_succ_cons,List.take_zero]
          simp only [go_sem,hb4]
          repeat with_reducible refine zN ?_
          refine hK41 _ ?_
          as_aux_lemma =>
           refine adops_cut 4 (fun K' hK42=>?_)
           try dsimp only [List.drop_succ_cons,List.drop_zero,List.take_succ_cons,List.take_zero]
           simp only [go_sem,hb4]
           repeat with_reducible refine zN ?_
           refine hK42 _ ?_
           as_aux_lemma =>
            refine adops_cut 4 (fun K' hK43=>?_)
            try dsimp only [List.drop_succ_cons,List.drop_zero,List.take_succ_cons,List.take_zero]
            simp only [go_sem,hb4]
            repeat with_reducible refine zN ?_
            refine hK43 _ ?_
            as_aux_lemma =>
             refine adops_cut 4 (fun K' hK44=>?_)
             try dsimp only [List.drop_succ_cons,List.drop_zero,List.take_succ_cons,List.take_zero]
             simp only [go_sem,hb4]
             repeat with_reducible refine zN ?_
             refine hK44 _ ?_
             as_aux_lemma =>
              refine adops_cut 2 (fun K' hK45=>?_)
              try dsimp only [List.drop_succ_cons,List.drop_zero,List.take_succ_cons,List.take_zero]
              simp only [go_sem,hb4]
              repeat with_reducible refine zN ?_
              refine hK45 _ ?_
              refine adops_nil ?_
              refine athen_n ?_
              refine zV [(4,.bool false)] [] gt ?_
              as_aux_lemma =>
               refine AW.ret ?_
               obtain rfl:=Option.some.inj h
               exact zR [] [] []
end Go.Proofs.Ytdicomoggfhbfaa
