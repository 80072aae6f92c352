import Derived.Test.YtenchhmcjmjlbaaCkp
import Derived.Test.YtenchhmcjmjlbaaShk
import Derived.Test.YtenchhmcjmjlbaaAvd
import Derived.Test.YtenchhmcjmjlbaaCbc10
import Derived.Test.YtenchhmcjmjlbaaCbc9
namespace Go.Proofs.Ytenchhmcjmjlbaa
open Go.RowKit
set_option linter.unusedSimpArgs false
set_option linter.unusedVariables false
set_option linter.constructorNameAsVariable false
set_option maxRecDepth 100000
set_option maxHeartbeats 40000000
theorem hc_history_Until_1 (a0:ZH) (a1:Int) {r:ZH} (h:history_Until_1 a0 a1=some r):HC Try.prog 100 [(1000,.box 34 [.sl (.pair (.int .i64) (.pair (.int .i64) (.pair (.int .i64) (.pair (.int .i64) (.pair (.int .i64) (.int .i64)))))) a0]),(1001,.box 3 [.int .i64 a1])] [.bp 1000 0,.bp 1001 0] [(1000,.box 34 [.sl (.pair (.int .i64) (.pair (.int .i64) (.pair (.int .i64) (.pair (.int .i64) (.pair (.int .i64) (.int .i64)))))) a0]),(1001,.box 3 [.int .i64 a1]),(2000,.arr 68 (.pair (.int .i64) (.pair (.int .i64) (.pair (.int .i64) (.pair (.int .i64) (.pair (.int .i64) (.int .i64)))))) r)] (.own 2000):=by
 unfold history_Until_1 at h
 refine zH Try.func100 [.tmp 2] 30 ?_
 refine zo ?_
 refine zB [(0,.bp 1000 0),(1,.bp 1001 0)] [(1000,.box 34 [.sl (.pair (.int .i64) (.pair (.int .i64) (.pair (.int .i64) (.pair (.int .i64) (.pair (.int .i64) (.int .i64)))))) a0]),(1001,.box 3 [.int .i64 a1])] ?_
 refine zo ?_
 refine zS 2 [(1,.bp 1001 0),(6,.sl (.pair (.int .i64) (.pair (.int .i64) (.pair (.int .i64) (.pair (.int .i64) (.pair (.int .i64) (.int .i64)))))) a0),(7,.fn (.func 102) [] [.bp 1001 0])] [(1000,.box 34 [.sl (.pair (.int .i64) (.pair (.int .i64) (.pair (.int .i64) (.pair (.int .i64) (.pair (.int .i64) (.int .i64)))))) a0]),(1001,.box 3 [.int .i64 a1])] ?_
 obtain ⟨v0,hv1,h⟩:=Option.bind_eq_some_iff.1 h
 refine zC [] [(1000,1001)] (hc_history_those a0 a1 hv1) [(1,.bp 1001 0),(8,.own 18000)] [(1000,.box 34 [.sl (.pair (.int .i64) (.pair (.int .i64) (.pair (.int .i64) (.pair (.int .i64) (.pair (.int .i64) (.int .i64)))))) a0]),(1001,.box 3 [.int .i64 a1]),(18000,.arr 68 (.pair (.int .i64) (.pair (.int .i64) (.pair (.int .i64) (.pair (.int .i64) (.pair (.int .i64) (.int .i64)))))) v0)] ?_
 refine zB [(1,.bp 1001 0),(3,.own 18000)] [(1000,.box 34 [.sl (.pair (.int .i64) (.pair (.int .i64) (.pair (.int .i64) (.pair (.int .i64) (.pair (.int .i64) (.int .i64)))))) a0]),(1001,.box 3 [.int .i64 a1]),(18000,.arr 68 (.pair (.int .i64) (.pair (.int .i64) (.pair (.int .i64) (.pair (.int .i64) (.pair (.int .i64) (.int .i64)))))) v0)] ?_
 refine AW.have1 (fun b1:ZH=>history_Until_1_k1 b1=some r) (fun b1=>⟨fr [(3,.own 18000)],hpGet [(1000,.box 34 [.sl (.pair (.int .i64) (.pair (.int .i64) (.pair (.int .i64) (.pair (.int .i64) (.pair (.int .i64) (.int .i64)))))) a0]),(1001,.box 3 [.int .i64 a1]),(18000,.arr 68 (.pair (.int .i64) (.pair (.int .i64) (.pair (.int .i64) (.pair (.int .i64) (.pair (.int .i64) (.int .i64)))))) b1)],gt⟩) (fun b1 h=>?_) (fun hk_history_Until_1_k1=>?_)
 ·as_aux_lemma =>
   unfold history_Until_1_k1 at h
   refine zo ?_
   refine zB [(2,.own 18000)] [(1000,.box 34 [.sl (.pair (.int .i64) (.pair (.int .i64) (.pair (.int .i64) (.pair (.int .i64) (.pair (.int .i64) (.int .i64)))))) a0]),(1001,.box 3 [.int .i64 a1]),(18000,.arr 68 (.pair (.int .i64) (.pair (.int .i64) (.pair (.int .i64) (.pair (.int .i64) (.pair (.int .i64) (.int .i64)))))) b1)] ?_
   refine AW.ret ?_
   obtain rfl:=Option.some.inj h
   exact zR [] [] [(2000,18000)]
 ·refine AW.seq ?_
  refine zo ?_
  refine zB [(1,.bp 1001 0),(3,.own 18000),(9,.own 18000),(10,.int .i64 (v0.length:Int)),(11,.int .i64 0)] [(1000,.box 34 [.sl (.pair (.int .i64) (.pair (.int .i64) (.pair (.int .i64) (.pair (.int .i64) (.pair (.int .i64) (.int .i64)))))) a0]),(1001,.box 3 [.int .i64 a1]),(18000,.arr 68 (.pair (.int .i64) (.pair (.int .i64) (.pair (.int .i64) (.pair (.int .i64) (.pair (.int .i64) (.int .i64)))))) v0)] ?_
  refine AW.block ?_
  obtain ⟨rv6,hw2,ho3⟩:=Option.bind_eq_some_iff.1 h
  refine AW.loopO (history_Until_1_b1 a1 v0) (fun st1=>⟨fr [(1,.bp 1001 0),(3,.own 18000),(9,.own 18000),(10,.int .i64 (v0.length:Int)),(11,.int .i64 st1.2)],hpGet [(1000,.box 34 [.sl (.pair (.int .i64) (.pair (.int .i64) (.pair (.int .i64) (.pair (.int .i64) (.pair (.int .i64) (.int .i64)))))) a0]),(1001,.box 3 [.int .i64 a1]),(18000,.arr 68 (.pair (.int .i64) (.pair (.int .i64) (.pair (.int .i64) (.pair (.int .i64) (.pair (.int .i64) (.int .i64)))))) st1.1)],gt⟩) (v0,0) hw2 (zL [] [] []) ?_
  as_aux_lemma =>
   intro st1 x5 h hd4
   unfold history_Until_1_b1 at h
   refine zo ?_
   refine zB [(1,.bp 1001 0),(3,.own 18000),(9,.own 18000),(10,.int .i64 (v0.length:Int)),(11,.int .i64 st1.2),(12,.bool (decide (st1.2<(v0.length:Int))))] [(1000,.box 34 [.sl (.pair (.int .i64) (.pair (.int .i64) (.pair (.int .i64) (.pair (.int .i64) (.pair (.int .i64) (.int .i64)))))) a0]),(1001,.box 3 [.int .i64 a1]),(18000,.arr 68 (.pair (.int .i64) (.pair (.int .i64) (.pair (.int .i64) (.pair (.int .i64) (.pair (.int .i64) (.int .i64)))))) st1.1)] ?_
   refine AW.seq ?_
   refine zQ h (fun hb7 h=>?_) (fun hb7 h=>?_)
   ·refine zk ?_
    refine AW.seq ?_
    refine AW.block ?_
    refine zo ?_
    obtain ⟨c8,h⟩:=ck_some.1 h
    obtain ⟨c9,h⟩:=ck_some.1 h
    refine zS 5 [(1,.bp 1001 0),(3,.own 18000),(4,.int .i64 st1.2),(5,.bp 5 0),(9,.own 18000),(10,.int .i64 (v0.length:Int)),(11,.int .i64 st1.2),(15,.agg [.int .i64 (st1.1.getD st1.2.toNat (0,0,0,0,0,0)).1,.int .i64 (st1.1.getD st1.2.toNat (0,0,0,0,0,0)).2.1,.int .i64 (st1.1.getD st1.2.toNat (0,0,0,0,0,0)).2.2.1,.int .i64 (st1.1.getD st1.2.toNat (0,0,0,0,0,0)).2.2.2.1,.int .i64 (st1.1.getD st1.2.toNat (0,0,0,0,0,0)).2.2.2.2.1,.int .i64 (st1.1.getD st1.2.toNat (0,0,0,0,0,0)).2.2.2.2.2])] [(5,.box 68 [.int .i64 0,.int .i64 0,.int .i64 0,.int .i64 0,.int .i64 0,.int .i64 0]),(1000,.box 34 [.sl (.pair (.int .i64) (.pair (.int .i64) (.pair (.int .i64) (.pair (.int .i64) (.pair (.int .i64) (.int .i64)))))) a0]),(1001,.box 3 [.int .i64 a1]),(18000,.arr 68 (.pair (.int .i64) (.pair (.int .i64) (.pair (.int .i64) (.pair (.int .i64) (.pair (.int .i64) (.int .i64)))))) st1.1)] ?_
    refine zB [(1,.bp 1001 0),(3,.own 18000),(4,.int .i64 st1.2),(5,.bp 5 0),(9,.own 18000),(10,.int .i64 (v0.length:Int)),(11,.int .i64 st1.2)] [(5,.box 68 [.int .i64 (st1.1.getD st1.2.toNat (0,0,0,0,0,0)).1,.int .i64 (st1.1.getD st1.2.toNat (0,0,0,0,0,0)).2.1,.int .i64 (st1.1.getD st1.2.toNat (0,0,0,0,0,0)).2.2.1,.int .i64 (st1.1.getD st1.2.toNat (0,0,0,0,0,0)).2.2.2.1,.int .i64 (st1.1.getD st1.2.toNat (0,0,0,0,0,0)).2.2.2.2.1,.int .i64 (st1.1.getD st1.2.toNat (0,0,0,0,0,0)).2.2.2.2.2]),(1000,.box 34 [.sl (.pair (.int .i64) (.pair (.int .i64) (.pair (.int .i64) (.pair (.int .i64) (.pair (.int .i64) (.int .i64)))))) a0]),(1001,.box 3 [.int .i64 a1]),(18000,.arr 68 (.pair (.int .i64) (.pair (.int .i64) (.pair (.int .i64) (.pair (.int .i64) (.pair (.int .i64) (.int .i64)))))) st1.1)] ?_
    refine zo ?_
    refine zB [(1,.bp 1001 0),(3,.own 18000),(4,.int .i64 st1.2),(9,.own 18000),(10,.int .i64 (v0.length:Int)),(11,.int .i64 st1.2),(19,.bool (decide (a1<(st1.1.getD st1.2.toNat (0,0,0,0,0,0)).2.2.2.2.2)))] [(1000,.box 34 [.sl (.pair (.int .i64) (.pair (.int .i64) (.pair (.int .i64) (.pair (.int .i64) (.pair (.int .i64) (.int .i64)))))) a0]),(1001,.box 3 [.int .i64 a1]),(18000,.arr 68 (.pair (.int .i64) (.pair (.int .i64) (.pair (.int .i64) (.pair (.int .i64) (.pair (.int .i64) (.int .i64)))))) st1.1)] ?_
    refine zQ h (fun hb10 h=>?_) (fun hb10 h=>?_)
    ·refine AW.ops ?_
     obtain ⟨c11,h⟩:=ck_some.1 h
     obtain ⟨c12,h⟩:=ck_some.1 h
     refine zS 5 [(1,.bp 1001 0),(3,.own 18000),(9,.own 18000),(10,.int .i64 (v0.length:Int)),(11,.int .i64 st1.2),(22,.own 18000),(23,.int .i64 st1.2),(24,.ap 18000 6 st1.2.toNat 0)] [(1000,.box 34 [.sl (.pair (.int .i64) (.pair (.int .i64) (.pair (.int .i64) (.pair (.int .i64) (.pair (.int .i64) (.int .i64)))))) a0]),(1001,.box 3 [.int .i64 a1]),(18000,.arr 68 (.pair (.int .i64) (.pair (.int .i64) (.pair (.int .i64) (.pair (.int .i64) (.pair (.int .i64) (.int .i64)))))) st1.1)] ?_
     obtain ⟨c13,h⟩:=ck_some.1 h
     obtain ⟨c14,h⟩:=ck_some.1 h
     refine zA [(1,.bp 1001 0),(3,.own 18000),(9,.own 18000),(10,.int .i64 (v0.length:Int)),(11,.int .i64 st1.2)] [(1000,.box 34 [.sl (.pair (.int .i64) (.pair (.int .i64) (.pair (.int .i64) (.pair (.int .i64) (.pair (.int .i64) (.int .i64)))))) a0]),(1001,.box 3 [.int .i64 a1]),(18000,.arr 68 (.pair (.int .i64) (.pair (.int .i64) (.pair (.int .i64) (.pair (.int .i64) (.pair (.int .i64) (.int .i64)))))) ((st1.1.set st1.2.toNat ((st1.1.getD st1.2.toNat (0,0,0,0,0,0)).1,(st1.1.getD st1.2.toNat (0,0,0,0,0,0)).2.1,(st1.1.getD st1.2.toNat (0,0,0,0,0,0)).2.2.1,(st1.1.getD st1.2.toNat (0,0,0,0,0,0)).2.2.2.1,(st1.1.getD st1.2.toNat (0,0,0,0,0,0)).2.2.2.2.1,0)).set st1.2.toNat (((st1.1.set st1.2.toNat ((st1.1.getD st1.2.toNat (0,0,0,0,0,0)).1,(st1.1.getD st1.2.toNat (0,0,0,0,0,0)).2.1,(st1.1.getD st1.2.toNat (0,0,0,0,0,0)).2.2.1,(st1.1.getD st1.2.toNat (0,0,0,0,0,0)).2.2.2.1,(st1.1.getD st1.2.toNat (0,0,0,0,0,0)).2.2.2.2.1,0)).getD st1.2.toNat (0,0,0,0,0,0)).1,((st1.1.set st1.2.toNat ((st1.1.getD st1.2.toNat (0,0,0,0,0,0)).1,(st1.1.getD st1.2.toNat (0,0,0,0,0,0)).2.1,(st1.1.getD st1.2.toNat (0,0,0,0,0,0)).2.2.1,(st1.1.getD st1.2.toNat (0,0,0,0,0,0)).2.2.2.1,(st1.1.getD st1.2.toNat (0,0,0,0,0,0)).2.2.2.2.1,0)).getD st1.2.toNat (0,0,0,0,0,0)).2.1,((st1.1.set st1.2.toNat ((st1.1.getD st1.2.toNat (0,0,0,0,0,0)).1,(st1.1.getD st1.2.toNat (0,0,0,0,0,0)).2.1,(st1.1.getD st1.2.toNat (0,0,0,0,0,0)).2.2.1,(st1.1.getD st1.2.toNat (0,0,0,0,0,0)).2.2.2.1,(st1.1.getD st1.2.toNat (0,0,0,0,0,0)).2.2.2.2.1,0)).getD st1.2.toNat (0,0,0,0,0,0)).2.2.1,0,((st1.1.set st1.2.toNat ((st1.1.getD st1.2.toNat (0,0,0,0,0,0)).1,(st1.1.getD st1.2.toNat (0,0,0,0,0,0)).2.1,(st1.1.getD st1.2.toNat (0,0,0,0,0,0)).2.2.1,(st1.1.getD st1.2.toNat (0,0,0,0,0,0)).2.2.2.1,(st1.1.getD st1.2.toNat (0,0,0,0,0,0)).2.2.2.2.1,0)).getD st1.2.toNat (0,0,0,0,0,0)).2.2.2.2)))] ?_
     refine ablock_n ?_
     refine athen_n ?_
     refine AW.ops ?_
     obtain ⟨c15,h⟩:=ck_some.1 h
     refine zA [(1,.bp 1001 0),(3,.own 18000),(9,.own 18000),(10,.int .i64 (v0.length:Int)),(11,.int .i64 (st1.2+1))] [(1000,.box 34 [.sl (.pair (.int .i64) (.pair (.int .i64) (.pair (.int .i64) (.pair (.int .i64) (.pair (.int .i64) (.int .i64)))))) a0]),(1001,.box 3 [.int .i64 a1]),(18000,.arr 68 (.pair (.int .i64) (.pair (.int .i64) (.pair (.int .i64) (.pair (.int .i64) (.pair (.int .i64) (.int .i64)))))) ((st1.1.set st1.2.toNat ((st1.1.getD st1.2.toNat (0,0,0,0,0,0)).1,(st1.1.getD st1.2.toNat (0,0,0,0,0,0)).2.1,(st1.1.getD st1.2.toNat (0,0,0,0,0,0)).2.2.1,(st1.1.getD st1.2.toNat (0,0,0,0,0,0)).2.2.2.1,(st1.1.getD st1.2.toNat (0,0,0,0,0,0)).2.2.2.2.1,0)).set st1.2.toNat (((st1.1.set st1.2.toNat ((st1.1.getD st1.2.toNat (0,0,0,0,0,0)).1,(st1.1.getD st1.2.toNat (0,0,0,0,0,0)).2.1,(st1.1.getD st1.2.toNat (0,0,0,0,0,0)).2.2.1,(st1.1.getD st1.2.toNat (0,0,0,0,0,0)).2.2.2.1,(st1.1.getD st1.2.toNat (0,0,0,0,0,0)).2.2.2.2.1,0)).getD st1.2.toNat (0,0,0,0,0,0)).1,((st1.1.set st1.2.toNat ((st1.1.getD st1.2.toNat (0,0,0,0,0,0)).1,(st1.1.getD st1.2.toNat (0,0,0,0,0,0)).2.1,(st1.1.getD st1.2.toNat (0,0,0,0,0,0)).2.2.1,(st1.1.getD st1.2.toNat (0,0,0,0,0,0)).2.2.2.1,(st1.1.getD st1.2.toNat (0,0,0,0,0,0)).2.2.2.2.1,0)).getD st1.2.toNat (0,0,0,0,0,0)).2.1,((st1.1.set st1.2.toNat ((st1.1.getD st1.2.toNat (0,0,0,0,0,0)).1,(st1.1.getD st1.2.toNat (0,0,0,0,0,0)).2.1,(st1.1.getD st1.2.toNat (0,0,0,0,0,0)).2.2.1,(st1.1.getD st1.2.toNat (0,0,0,0,0,0)).2.2.2.1,(st1.1.getD st1.2.toNat (0,0,0,0,0,0)).2.2.2.2.1,0)).getD st1.2.toNat (0,0,0,0,0,0)).2.2.1,0,((st1.1.set st1.2.toNat ((st1.1.getD st1.2.toNat (0,0,0,0,0,0)).1,(st1.1.getD st1.2.toNat (0,0,0,0,0,0)).2.1,(st1.1.getD st1.2.toNat (0,0,0,0,0,0)).2.2.1,(st1.1.getD st1.2.toNat (0,0,0,0,0,0)).2.2.2.1,(st1.1.getD st1.2.toNat (0,0,0,0,0,0)).2.2.2.2.1,0)).getD st1.2.toNat (0,0,0,0,0,0)).2.2.2.2)))] ?_
     obtain rfl:=Option.some.inj h
     exact ⟨_,rfl,zL [] [] []⟩
    ·refine zm ?_
     refine athen_n ?_
     refine AW.ops ?_
     obtain ⟨c16,h⟩:=ck_some.1 h
     refine zA [(1,.bp 1001 0),(3,.own 18000),(9,.own 18000),(10,.int .i64 (v0.length:Int)),(11,.int .i64 (st1.2+1))] [(1000,.box 34 [.sl (.pair (.int .i64) (.pair (.int .i64) (.pair (.int .i64) (.pair (.int .i64) (.pair (.int .i64) (.int .i64)))))) a0]),(1001,.box 3 [.int .i64 a1]),(18000,.arr 68 (.pair (.int .i64) (.pair (.int .i64) (.pair (.int .i64) (.pair (.int .i64) (.pair (.int .i64) (.int .i64)))))) st1.1)] ?_
     obtain rfl:=Option.some.inj h
     exact ⟨_,rfl,zL [] [] []⟩
   ·refine AW.exit ?_
    refine athen_e ?_
    obtain rfl:=Option.some.inj h
    rw [← hd4 _ rfl] at ho3
    have h:=ho3
    refine athen_e ?_
    refine ablock_s ?_
    refine athen_n ?_
    exact AW.weaken (zL [] [] []) (hk_history_Until_1_k1 _ h)
theorem hc_history_told (err:Int) (c0:ZH) (c1:Int) {r:ZH×Int} (h:history_told err c0 c1=some r):HC Try.prog 97 [(1000,.box 34 [.sl (.pair (.int .i64) (.pair (.int .i64) (.pair (.int .i64) (.pair (.int .i64) (.pair (.int .i64) (.int .i64)))))) c0]),(1001,.box 3 [.int .i64 c1])] [.int .i64 err,.fn (.func 100) [] [.bp 1000 0,.bp 1001 0]] [(2000,.arr 68 (.pair (.int .i64) (.pair (.int .i64) (.pair (.int .i64) (.pair (.int .i64) (.pair (.int .i64) (.int .i64)))))) r.1)] (.tup [.own 2000,.int .i64 r.2]):=by
 unfold history_told at h
 refine zH Try.func97 [.tmp 4,.tmp 5] 13 ?_
 refine zo ?_
 refine zB [(0,.int .i64 err),(1,.fn (.func 100) [] [.bp 1000 0,.bp 1001 0])] [(1000,.box 34 [.sl (.pair (.int .i64) (.pair (.int .i64) (.pair (.int .i64) (.pair (.int .i64) (.pair (.int .i64) (.int .i64)))))) c0]),(1001,.box 3 [.int .i64 c1])] ?_
 refine AW.seq ?_
 refine zo ?_
 refine zB [(0,.int .i64 err),(1,.fn (.func 100) [] [.bp 1000 0,.bp 1001 0]),(8,.bool (!(decide (err=0))))] [(1000,.box 34 [.sl (.pair (.int .i64) (.pair (.int .i64) (.pair (.int .i64) (.pair (.int .i64) (.pair (.int .i64) (.int .i64)))))) c0]),(1001,.box 3 [.int .i64 c1])] ?_
 refine zQ h (fun hb1 h=>?_) (fun hb1 h=>?_)
 ·refine zo ?_
  refine zB [(0,.int .i64 err),(6,.cv (.slice none 0 0))] [(1000,.box 34 [.sl (.pair (.int .i64) (.pair (.int .i64) (.pair (.int .i64) (.pair (.int .i64) (.pair (.int .i64) (.int .i64)))))) c0]),(1001,.box 3 [.int .i64 c1])] ?_
  refine zo ?_
  refine zB [(4,.cv (.slice none 0 0)),(5,.int .i64 err)] [(1000,.box 34 [.sl (.pair (.int .i64) (.pair (.int .i64) (.pair (.int .i64) (.pair (.int .i64) (.pair (.int .i64) (.int .i64)))))) c0]),(1001,.box 3 [.int .i64 c1])] ?_
  refine zr ?_
  obtain rfl:=Option.some.inj h
  exact zR [] [2000] []
 ·refine zk ?_
  refine zo ?_
  refine zS 1 [(11,.fn (.func 100) [] [.bp 1000 0,.bp 1001 0])] [(1000,.box 34 [.sl (.pair (.int .i64) (.pair (.int .i64) (.pair (.int .i64) (.pair (.int .i64) (.pair (.int .i64) (.int .i64)))))) c0]),(1001,.box 3 [.int .i64 c1])] ?_
  obtain ⟨v0,hv2,h⟩:=Option.bind_eq_some_iff.1 h
  refine zC [] [(1000,1000),(1001,1001)] (hc_history_Until_1 c0 c1 hv2) [(12,.own 22000)] [(1000,.box 34 [.sl (.pair (.int .i64) (.pair (.int .i64) (.pair (.int .i64) (.pair (.int .i64) (.pair (.int .i64) (.int .i64)))))) c0]),(1001,.box 3 [.int .i64 c1]),(22000,.arr 68 (.pair (.int .i64) (.pair (.int .i64) (.pair (.int .i64) (.pair (.int .i64) (.pair (.int .i64) (.int .i64)))))) v0)] ?_
  refine zB [(4,.own 22000),(5,.int .i64 0)] [(1000,.box 34 [.sl (.pair (.int .i64) (.pair (.int .i64) (.pair (.int .i64) (.pair (.int .i64) (.pair (.int .i64) (.int .i64)))))) c0]),(1001,.box 3 [.int .i64 c1]),(22000,.arr 68 (.pair (.int .i64) (.pair (.int .i64) (.pair (.int .i64) (.pair (.int .i64) (.pair (.int .i64) (.int .i64)))))) v0)] ?_
  refine AW.ret ?_
  obtain rfl:=Option.some.inj h
  exact zR [] [] [(2000,22000)]
theorem hc_history_Until (h0:ZH) (moment:Int) {r:ZH×Int} (h:history_Until h0 moment=some r):HC Try.prog 44 [] [.sl (.pair (.int .i64) (.pair (.int .i64) (.pair (.int .i64) (.pair (.int .i64) (.pair (.int .i64) (.int .i64)))))) h0,.int .i64 moment] [(2000,.arr 68 (.pair (.int .i64) (.pair (.int .i64) (.pair (.int .i64) (.pair (.int .i64) (.pair (.int .i64) (.int .i64)))))) r.1)] (.tup [.own 2000,.int .i64 r.2]):=by
 unfold history_Until at h
 refine zH Try.func44 [.tmp 4,.tmp 5] 14 ?_
 refine zo ?_
 refine zB [(2,.bp 2 0),(3,.bp 3 0)] [(2,.box 34 [.sl (.pair (.int .i64) (.pair (.int .i64) (.pair (.int .i64) (.pair (.int .i64) (.pair (.int .i64) (.int .i64)))))) h0]),(3,.box 3 [.int .i64 moment])] ?_
 refine AW.seq ?_
 refine AW.draw tab_ok mixed_ok [(5,[2,3,21000])] [] (by decide) (lex_fast (by kernel_rfl)) ?_
 as_aux_lemma =>
  refine adops_cut 2 (fun K' hK1=>?_)
  try dsimp only [List.drop_succ_cons,List.drop_zero,List.take_succ_cons,List.take_zero]
  simp only [go_sem]
  repeat with_reducible refine zN ?_
  refine hK1 _ ?_
  as_aux_lemma =>
   obtain ⟨v0,hv2,h⟩:=Option.bind_eq_some_iff.1 h
   refine adops.call (by first|trivial|rfl) rfl rfl rfl (fun _ h=>h) [] [] (hc_history_within moment 0 100 hv2) rfl (by (simp only [go_sem])<;>(with_reducible and_intros)<;>first|assumption|rfl|omega|(unfold maxLen; omega)) (by (simp only [go_sem])<;>(with_reducible and_intros)<;>first|assumption|rfl|omega|(unfold maxLen; omega)) rfl ?_
   obtain ⟨v0_2,hv3,h⟩:=Option.bind_eq_some_iff.1 h
   refine adops.call (by first|trivial|rfl) rfl rfl rfl (fun _ h=>h) [] [] (hc_history_check h0 v0 hv3) rfl (by (simp only [go_sem])<;>(with_reducible and_intros)<;>first|assumption|rfl|omega|(unfold maxLen; omega)) (by (simp only [go_sem])<;>(with_reducible and_intros)<;>first|assumption|rfl|omega|(unfold maxLen; omega)) rfl ?_
   refine adops_cut 1 (fun K' hK4=>?_)
   try dsimp only [List.drop_succ_cons,List.drop_zero,List.take_succ_cons,List.take_zero]
   simp only [go_sem]
   repeat with_reducible refine zN ?_
   refine hK4 _ ?_
   as_aux_lemma =>
    obtain ⟨v0_3,hv5,h⟩:=Option.bind_eq_some_iff.1 h
    refine adops.call (by first|trivial|rfl) rfl rfl rfl (fun _ h=>h) [] [(1000,2),(1001,3)] (hc_history_told v0_2 h0 moment hv5) rfl (by (simp only [go_sem])<;>(with_reducible and_intros)<;>first|assumption|rfl|omega|(unfold maxLen; omega)) (by (simp only [go_sem])<;>(with_reducible and_intros)<;>first|assumption|rfl|omega|(unfold maxLen; omega)) rfl ?_
    refine adops_cut 4 (fun K' hK6=>?_)
    try dsimp only [List.drop_succ_cons,List.drop_zero,List.take_succ_cons,List.take_zero]
    simp only [go_sem]
    repeat with_reducible refine zN ?_
    refine hK6 _ ?_
    refine adops_nil ?_
    refine athen_n ?_
    refine zV [(4,.own 21000),(5,.int .i64 v0_3.2)] [(21000,.arr 68 (.pair (.int .i64) (.pair (.int .i64) (.pair (.int .i64) (.pair (.int .i64) (.pair (.int .i64) (.int .i64)))))) v0_3.1)] gt ?_
    as_aux_lemma =>
     refine AW.ret ?_
     obtain rfl:=Option.some.inj h
     exact zR [] [] [(2000,21000)]
theorem hc_history_By_1_1 (c:Int×Int×Int×Int×Int×Int) (a1:Int) {r:Unit} (h:history_By_1_1 c a1=some r):HC Try.prog 104 [(1000,.box 3 [.int .i64 a1])] [.agg [.int .i64 c.1,.int .i64 c.2.1,.int .i64 c.2.2.1,.int .i64 c.2.2.2.1,.int .i64 c.2.2.2.2.1,.int .i64 c.2.2.2.2.2],.bp 1000 0] [(1000,.box 3 [.int .i64 a1])] (.bool (decide (c.1=a1))):=by
 unfold history_By_1_1 at h
 refine zH Try.func104 [.tmp 3] 8 ?_
 refine zo ?_
 refine zB [(1,.bp 1000 0),(2,.bp 2 0)] [(2,.box 68 [.int .i64 c.1,.int .i64 c.2.1,.int .i64 c.2.2.1,.int .i64 c.2.2.2.1,.int .i64 c.2.2.2.2.1,.int .i64 c.2.2.2.2.2]),(1000,.box 3 [.int .i64 a1])] ?_
 refine zo ?_
 refine zB [(3,.bool (decide (c.1=a1)))] [(1000,.box 3 [.int .i64 a1])] ?_
 refine AW.ret ?_
 obtain rfl:=Option.some.inj h
 exact zR [] [] []
theorem hc_history_those_2 (h0:ZH) (c0:Int) {r:ZH} (h:history_those_2 h0 c0=some r):HC Try.prog 101 [(1000,.box 3 [.int .i64 c0])] [.sl (.pair (.int .i64) (.pair (.int .i64) (.pair (.int .i64) (.pair (.int .i64) (.pair (.int .i64) (.int .i64)))))) h0,.fn (.func 104) [] [.bp 1000 0]] [(1000,.box 3 [.int .i64 c0]),(2000,.arr 68 (.pair (.int .i64) (.pair (.int .i64) (.pair (.int .i64) (.pair (.int .i64) (.pair (.int .i64) (.int .i64)))))) r)] (.own 2000):=by
 unfold history_those_2 at h
 refine zH Try.func101 [.tmp 4] 23 ?_
 refine zo ?_
 refine zB [(0,.sl (.pair (.int .i64) (.pair (.int .i64) (.pair (.int .i64) (.pair (.int .i64) (.pair (.int .i64) (.int .i64)))))) h0),(1,.fn (.func 104) [] [.bp 1000 0])] [(1000,.box 3 [.int .i64 c0])] ?_
 refine zo ?_
 refine zB [(0,.sl (.pair (.int .i64) (.pair (.int .i64) (.pair (.int .i64) (.pair (.int .i64) (.pair (.int .i64) (.int .i64)))))) h0),(1,.fn (.func 104) [] [.bp 1000 0]),(5,.cv (.slice none 0 0))] [(1000,.box 3 [.int .i64 c0])] ?_
 refine AW.have1 (fun b1:ZH=>history_those_2_k1 b1=some r) (fun b1=>⟨fr [(5,.own 20)],hpGet [(20,.arr 68 (.pair (.int .i64) (.pair (.int .i64) (.pair (.int .i64) (.pair (.int .i64) (.pair (.int .i64) (.int .i64)))))) b1),(1000,.box 3 [.int .i64 c0])],gt⟩) (fun b1 h=>?_) (fun hk_history_those_2_k1=>?_)
 ·as_aux_lemma =>
   unfold history_those_2_k1 at h
   refine zo ?_
   refine zB [(4,.own 20)] [(20,.arr 68 (.pair (.int .i64) (.pair (.int .i64) (.pair (.int .i64) (.pair (.int .i64) (.pair (.int .i64) (.int .i64)))))) b1),(1000,.box 3 [.int .i64 c0])] ?_
   refine AW.ret ?_
   obtain rfl:=Option.some.inj h
   exact zR [] [] [(2000,20)]
 ·refine AW.seq ?_
  refine zo ?_
  refine zB [(1,.fn (.func 104) [] [.bp 1000 0]),(5,.cv (.slice none 0 0)),(8,.sl (.pair (.int .i64) (.pair (.int .i64) (.pair (.int .i64) (.pair (.int .i64) (.pair (.int .i64) (.int .i64)))))) h0),(9,.int .i64 (h0.length:Int)),(10,.int .i64 0)] [(1000,.box 3 [.int .i64 c0])] ?_
  refine AW.block ?_
  obtain ⟨rv5,hw1,ho2⟩:=Option.bind_eq_some_iff.1 h
  refine AW.loopO (history_those_2_b1 h0 c0) (fun st1=>⟨fr [(1,.fn (.func 104) [] [.bp 1000 0]),(5,.own 20),(8,.sl (.pair (.int .i64) (.pair (.int .i64) (.pair (.int .i64) (.pair (.int .i64) (.pair (.int .i64) (.int .i64)))))) h0),(9,.int .i64 (h0.length:Int)),(10,.int .i64 st1.2)],hpGet [(20,.arr 68 (.pair (.int .i64) (.pair (.int .i64) (.pair (.int .i64) (.pair (.int .i64) (.pair (.int .i64) (.int .i64)))))) st1.1),(1000,.box 3 [.int .i64 c0])],gt⟩) ([],0) hw1 (zL [] [20] []) ?_
  as_aux_lemma =>
   intro st1 x4 h hd3
   unfold history_those_2_b1 at h
   refine zo ?_
   refine zB [(1,.fn (.func 104) [] [.bp 1000 0]),(5,.own 20),(8,.sl (.pair (.int .i64) (.pair (.int .i64) (.pair (.int .i64) (.pair (.int .i64) (.pair (.int .i64) (.int .i64)))))) h0),(9,.int .i64 (h0.length:Int)),(10,.int .i64 st1.2),(11,.bool (decide (st1.2<(h0.length:Int))))] [(20,.arr 68 (.pair (.int .i64) (.pair (.int .i64) (.pair (.int .i64) (.pair (.int .i64) (.pair (.int .i64) (.int .i64)))))) st1.1),(1000,.box 3 [.int .i64 c0])] ?_
   refine AW.seq ?_
   refine zQ h (fun hb6 h=>?_) (fun hb6 h=>?_)
   ·refine zk ?_
    refine AW.seq ?_
    refine AW.block ?_
    refine zo ?_
    obtain ⟨c7,h⟩:=ck_some.1 h
    obtain ⟨c8,h⟩:=ck_some.1 h
    refine zB [(1,.fn (.func 104) [] [.bp 1000 0]),(5,.own 20),(7,.bp 7 0),(8,.sl (.pair (.int .i64) (.pair (.int .i64) (.pair (.int .i64) (.pair (.int .i64) (.pair (.int .i64) (.int .i64)))))) h0),(9,.int .i64 (h0.length:Int)),(10,.int .i64 st1.2)] [(7,.box 68 [.int .i64 (h0.getD st1.2.toNat (0,0,0,0,0,0)).1,.int .i64 (h0.getD st1.2.toNat (0,0,0,0,0,0)).2.1,.int .i64 (h0.getD st1.2.toNat (0,0,0,0,0,0)).2.2.1,.int .i64 (h0.getD st1.2.toNat (0,0,0,0,0,0)).2.2.2.1,.int .i64 (h0.getD st1.2.toNat (0,0,0,0,0,0)).2.2.2.2.1,.int .i64 (h0.getD st1.2.toNat (0,0,0,0,0,0)).2.2.2.2.2]),(20,.arr 68 (.pair (.int .i64) (.pair (.int .i64) (.pair (.int .i64) (.pair (.int .i64) (.pair (.int .i64) (.int .i64)))))) st1.1),(1000,.box 3 [.int .i64 c0])] ?_
    refine zo ?_
    refine zS 2 [(1,.fn (.func 104) [] [.bp 1000 0]),(5,.own 20),(7,.bp 7 0),(8,.sl (.pair (.int .i64) (.pair (.int .i64) (.pair (.int .i64) (.pair (.int .i64) (.pair (.int .i64) (.int .i64)))))) h0),(9,.int .i64 (h0.length:Int)),(10,.int .i64 st1.2),(14,.fn (.func 104) [] [.bp 1000 0]),(15,.agg [.int .i64 (h0.getD st1.2.toNat (0,0,0,0,0,0)).1,.int .i64 (h0.getD st1.2.toNat (0,0,0,0,0,0)).2.1,.int .i64 (h0.getD st1.2.toNat (0,0,0,0,0,0)).2.2.1,.int .i64 (h0.getD st1.2.toNat (0,0,0,0,0,0)).2.2.2.1,.int .i64 (h0.getD st1.2.toNat (0,0,0,0,0,0)).2.2.2.2.1,.int .i64 (h0.getD st1.2.toNat (0,0,0,0,0,0)).2.2.2.2.2])] [(7,.box 68 [.int .i64 (h0.getD st1.2.toNat (0,0,0,0,0,0)).1,.int .i64 (h0.getD st1.2.toNat (0,0,0,0,0,0)).2.1,.int .i64 (h0.getD st1.2.toNat (0,0,0,0,0,0)).2.2.1,.int .i64 (h0.getD st1.2.toNat (0,0,0,0,0,0)).2.2.2.1,.int .i64 (h0.getD st1.2.toNat (0,0,0,0,0,0)).2.2.2.2.1,.int .i64 (h0.getD st1.2.toNat (0,0,0,0,0,0)).2.2.2.2.2]),(20,.arr 68 (.pair (.int .i64) (.pair (.int .i64) (.pair (.int .i64) (.pair (.int .i64) (.pair (.int .i64) (.int .i64)))))) st1.1),(1000,.box 3 [.int .i64 c0])] ?_
    obtain ⟨v0,hv9,h⟩:=Option.bind_eq_some_iff.1 h
    refine zC [] [(1000,1000)] (hc_history_By_1_1 (h0.getD st1.2.toNat (0,0,0,0,0,0)) c0 hv9) [(1,.fn (.func 104) [] [.bp 1000 0]),(5,.own 20),(7,.bp 7 0),(8,.sl (.pair (.int .i64) (.pair (.int .i64) (.pair (.int .i64) (.pair (.int .i64) (.pair (.int .i64) (.int .i64)))))) h0),(9,.int .i64 (h0.length:Int)),(10,.int .i64 st1.2),(16,.bool (decide ((h0.getD st1.2.toNat (0,0,0,0,0,0)).1=c0)))] [(7,.box 68 [.int .i64 (h0.getD st1.2.toNat (0,0,0,0,0,0)).1,.int .i64 (h0.getD st1.2.toNat (0,0,0,0,0,0)).2.1,.int .i64 (h0.getD st1.2.toNat (0,0,0,0,0,0)).2.2.1,.int .i64 (h0.getD st1.2.toNat (0,0,0,0,0,0)).2.2.2.1,.int .i64 (h0.getD st1.2.toNat (0,0,0,0,0,0)).2.2.2.2.1,.int .i64 (h0.getD st1.2.toNat (0,0,0,0,0,0)).2.2.2.2.2]),(20,.arr 68 (.pair (.int .i64) (.pair (.int .i64) (.pair (.int .i64) (.pair (.int .i64) (.pair (.int .i64) (.int .i64)))))) st1.1),(1000,.box 3 [.int .i64 c0])] ?_
    refine zB [(1,.fn (.func 104) [] [.bp 1000 0]),(5,.own 20),(7,.bp 7 0),(8,.sl (.pair (.int .i64) (.pair (.int .i64) (.pair (.int .i64) (.pair (.int .i64) (.pair (.int .i64) (.int .i64)))))) h0),(9,.int .i64 (h0.length:Int)),(10,.int .i64 st1.2),(16,.bool (decide ((h0.getD st1.2.toNat (0,0,0,0,0,0)).1=c0)))] [(7,.box 68 [.int .i64 (h0.getD st1.2.toNat (0,0,0,0,0,0)).1,.int .i64 (h0.getD st1.2.toNat (0,0,0,0,0,0)).2.1,.int .i64 (h0.getD st1.2.toNat (0,0,0,0,0,0)).2.2.1,.int .i64 (h0.getD st1.2.toNat (0,0,0,0,0,0)).2.2.2.1,.int .i64 (h0.getD st1.2.toNat (0,0,0,0,0,0)).2.2.2.2.1,.int .i64 (h0.getD st1.2.toNat (0,0,0,0,0,0)).2.2.2.2.2]),(20,.arr 68 (.pair (.int .i64) (.pair (.int .i64) (.pair (.int .i64) (.pair (.int .i64) (.pair (.int .i64) (.int .i64)))))) st1.1),(1000,.box 3 [.int .i64 c0])] ?_
    refine zQ h (fun hb10 h=>?_) (fun hb10 h=>?_)
    ·refine AW.ops ?_
     obtain ⟨c11,h⟩:=ck_some.1 h
     refine zA [(1,.fn (.func 104) [] [.bp 1000 0]),(5,.own 20),(8,.sl (.pair (.int .i64) (.pair (.int .i64) (.pair (.int .i64) (.pair (.int .i64) (.pair (.int .i64) (.int .i64)))))) h0),(9,.int .i64 (h0.length:Int)),(10,.int .i64 st1.2)] [(20,.arr 68 (.pair (.int .i64) (.pair (.int .i64) (.pair (.int .i64) (.pair (.int .i64) (.pair (.int .i64) (.int .i64)))))) (st1.1++[(h0.getD st1.2.toNat (0,0,0,0,0,0))])),(1000,.box 3 [.int .i64 c0])] ?_
     refine ablock_n ?_
     refine athen_n ?_
     refine AW.ops ?_
     obtain ⟨c12,h⟩:=ck_some.1 h
     refine zA [(1,.fn (.func 104) [] [.bp 1000 0]),(5,.own 20),(8,.sl (.pair (.int .i64) (.pair (.int .i64) (.pair (.int .i64) (.pair (.int .i64) (.pair (.int .i64) (.int .i64)))))) h0),(9,.int .i64 (h0.length:Int)),(10,.int .i64 (st1.2+1))] [(20,.arr 68 (.pair (.int .i64) (.pair (.int .i64) (.pair (.int .i64) (.pair (.int .i64) (.pair (.int .i64) (.int .i64)))))) (st1.1++[(h0.getD st1.2.toNat (0,0,0,0,0,0))])),(1000,.box 3 [.int .i64 c0])] ?_
     obtain rfl:=Option.some.inj h
     exact ⟨_,rfl,zL [] [] []⟩
    ·refine zm ?_
     refine athen_n ?_
     refine AW.ops ?_
     obtain ⟨c13,h⟩:=ck_some.1 h
     refine zA [(1,.fn (.func 104) [] [.bp 1000 0]),(5,.own 20),(8,.sl (.pair (.int .i64) (.pair (.int .i64) (.pair (.int .i64) (.pair (.int .i64) (.pair (.int .i64) (.int .i64)))))) h0),(9,.int .i64 (h0.length:Int)),(10,.int .i64 (st1.2+1))] [(20,.arr 68 (.pair (.int .i64) (.pair (.int .i64) (.pair (.int .i64) (.pair (.int .i64) (.pair (.int .i64) (.int .i64)))))) st1.1),(1000,.box 3 [.int .i64 c0])] ?_
     obtain rfl:=Option.some.inj h
     exact ⟨_,rfl,zL [] [] []⟩
   ·refine AW.exit ?_
    refine athen_e ?_
    obtain rfl:=Option.some.inj h
    rw [← hd3 _ rfl] at ho2
    have h:=ho2
    refine athen_e ?_
    refine ablock_s ?_
    refine athen_n ?_
    exact AW.weaken (zL [] [] []) (hk_history_those_2_k1 _ h)
theorem hc_history_By_1 (a0:ZH) (a1:Int) {r:ZH} (h:history_By_1 a0 a1=some r):HC Try.prog 103 [(1000,.box 34 [.sl (.pair (.int .i64) (.pair (.int .i64) (.pair (.int .i64) (.pair (.int .i64) (.pair (.int .i64) (.int .i64)))))) a0]),(1001,.box 3 [.int .i64 a1])] [.bp 1000 0,.bp 1001 0] [(1000,.box 34 [.sl (.pair (.int .i64) (.pair (.int .i64) (.pair (.int .i64) (.pair (.int .i64) (.pair (.int .i64) (.int .i64)))))) a0]),(1001,.box 3 [.int .i64 a1]),(2000,.arr 68 (.pair (.int .i64) (.pair (.int .i64) (.pair (.int .i64) (.pair (.int .i64) (.pair (.int .i64) (.int .i64)))))) r)] (.own 2000):=by
 unfold history_By_1 at h
 refine zH Try.func103 [.tmp 2] 6 ?_
 refine zo ?_
 refine zB [(0,.bp 1000 0),(1,.bp 1001 0)] [(1000,.box 34 [.sl (.pair (.int .i64) (.pair (.int .i64) (.pair (.int .i64) (.pair (.int .i64) (.pair (.int .i64) (.int .i64)))))) a0]),(1001,.box 3 [.int .i64 a1])] ?_
 refine zo ?_
 refine zS 2 [(3,.sl (.pair (.int .i64) (.pair (.int .i64) (.pair (.int .i64) (.pair (.int .i64) (.pair (.int .i64) (.int .i64)))))) a0),(4,.fn (.func 104) [] [.bp 1001 0])] [(1000,.box 34 [.sl (.pair (.int .i64) (.pair (.int .i64) (.pair (.int .i64) (.pair (.int .i64) (.pair (.int .i64) (.int .i64)))))) a0]),(1001,.box 3 [.int .i64 a1])] ?_
 obtain ⟨v0,hv1,h⟩:=Option.bind_eq_some_iff.1 h
 refine zC [] [(1000,1001)] (hc_history_those_2 a0 a1 hv1) [(5,.own 15000)] [(1000,.box 34 [.sl (.pair (.int .i64) (.pair (.int .i64) (.pair (.int .i64) (.pair (.int .i64) (.pair (.int .i64) (.int .i64)))))) a0]),(1001,.box 3 [.int .i64 a1]),(15000,.arr 68 (.pair (.int .i64) (.pair (.int .i64) (.pair (.int .i64) (.pair (.int .i64) (.pair (.int .i64) (.int .i64)))))) v0)] ?_
 refine zB [(2,.own 15000)] [(1000,.box 34 [.sl (.pair (.int .i64) (.pair (.int .i64) (.pair (.int .i64) (.pair (.int .i64) (.pair (.int .i64) (.int .i64)))))) a0]),(1001,.box 3 [.int .i64 a1]),(15000,.arr 68 (.pair (.int .i64) (.pair (.int .i64) (.pair (.int .i64) (.pair (.int .i64) (.pair (.int .i64) (.int .i64)))))) v0)] ?_
 refine AW.ret ?_
 obtain rfl:=Option.some.inj h
 exact zR [] [] [(2000,15000)]
theorem hc_history_told_2 (err:Int) (c0:ZH) (c1:Int) {r:ZH×Int} (h:history_told_2 err c0 c1=some r):HC Try.prog 97 [(1000,.box 34 [.sl (.pair (.int .i64) (.pair (.int .i64) (.pair (.int .i64) (.pair (.int .i64) (.pair (.int .i64) (.int .i64)))))) c0]),(1001,.box 3 [.int .i64 c1])] [.int .i64 err,.fn (.func 103) [] [.bp 1000 0,.bp 1001 0]] [(2000,.arr 68 (.pair (.int .i64) (.pair (.int .i64) (.pair (.int .i64) (.pair (.int .i64) (.pair (.int .i64) (.int .i64)))))) r.1)] (.tup [.own 2000,.int .i64 r.2]):=by
 unfold history_told_2 at h
 refine zH Try.func97 [.tmp 4,.tmp 5] 13 ?_
 refine zo ?_
 refine zB [(0,.int .i64 err),(1,.fn (.func 103) [] [.bp 1000 0,.bp 1001 0])] [(1000,.box 34 [.sl (.pair (.int .i64) (.pair (.int .i64) (.pair (.int .i64) (.pair (.int .i64) (.pair (.int .i64) (.int .i64)))))) c0]),(1001,.box 3 [.int .i64 c1])] ?_
 refine AW.seq ?_
 refine zo ?_
 refine zB [(0,.int .i64 err),(1,.fn (.func 103) [] [.bp 1000 0,.bp 1001 0]),(8,.bool (!(decide (err=0))))] [(1000,.box 34 [.sl (.pair (.int .i64) (.pair (.int .i64) (.pair (.int .i64) (.pair (.int .i64) (.pair (.int .i64) (.int .i64)))))) c0]),(1001,.box 3 [.int .i64 c1])] ?_
 refine zQ h (fun hb1 h=>?_) (fun hb1 h=>?_)
 ·refine zo ?_
  refine zB [(0,.int .i64 err),(6,.cv (.slice none 0 0))] [(1000,.box 34 [.sl (.pair (.int .i64) (.pair (.int .i64) (.pair (.int .i64) (.pair (.int .i64) (.pair (.int .i64) (.int .i64)))))) c0]),(1001,.box 3 [.int .i64 c1])] ?_
  refine zo ?_
  refine zB [(4,.cv (.slice none 0 0)),(5,.int .i64 err)] [(1000,.box 34 [.sl (.pair (.int .i64) (.pair (.int .i64) (.pair (.int .i64) (.pair (.int .i64) (.pair (.int .i64) (.int .i64)))))) c0]),(1001,.box 3 [.int .i64 c1])] ?_
  refine zr ?_
  obtain rfl:=Option.some.inj h
  exact zR [] [2000] []
 ·refine zk ?_
  refine zo ?_
  refine zS 1 [(11,.fn (.func 103) [] [.bp 1000 0,.bp 1001 0])] [(1000,.box 34 [.sl (.pair (.int .i64) (.pair (.int .i64) (.pair (.int .i64) (.pair (.int .i64) (.pair (.int .i64) (.int .i64)))))) c0]),(1001,.box 3 [.int .i64 c1])] ?_
  obtain ⟨v0,hv2,h⟩:=Option.bind_eq_some_iff.1 h
  refine zC [] [(1000,1000),(1001,1001)] (hc_history_By_1 c0 c1 hv2) [(12,.own 22000)] [(1000,.box 34 [.sl (.pair (.int .i64) (.pair (.int .i64) (.pair (.int .i64) (.pair (.int .i64) (.pair (.int .i64) (.int .i64)))))) c0]),(1001,.box 3 [.int .i64 c1]),(22000,.arr 68 (.pair (.int .i64) (.pair (.int .i64) (.pair (.int .i64) (.pair (.int .i64) (.pair (.int .i64) (.int .i64)))))) v0)] ?_
  refine zB [(4,.own 22000),(5,.int .i64 0)] [(1000,.box 34 [.sl (.pair (.int .i64) (.pair (.int .i64) (.pair (.int .i64) (.pair (.int .i64) (.pair (.int .i64) (.int .i64)))))) c0]),(1001,.box 3 [.int .i64 c1]),(22000,.arr 68 (.pair (.int .i64) (.pair (.int .i64) (.pair (.int .i64) (.pair (.int .i64) (.pair (.int .i64) (.int .i64)))))) v0)] ?_
  refine AW.ret ?_
  obtain rfl:=Option.some.inj h
  exact zR [] [] [(2000,22000)]
theorem hc_history_By (h0:ZH) (thread:Int) {r:ZH×Int} (h:history_By h0 thread=some r):HC Try.prog 45 [] [.sl (.pair (.int .i64) (.pair (.int .i64) (.pair (.int .i64) (.pair (.int .i64) (.pair (.int .i64) (.int .i64)))))) h0,.int .i64 thread] [(2000,.arr 68 (.pair (.int .i64) (.pair (.int .i64) (.pair (.int .i64) (.pair (.int .i64) (.pair (.int .i64) (.int .i64)))))) r.1)] (.tup [.own 2000,.int .i64 r.2]):=by
 unfold history_By at h
 refine zH Try.func45 [.tmp 4,.tmp 5] 14 ?_
 refine zo ?_
 refine zB [(2,.bp 2 0),(3,.bp 3 0)] [(2,.box 34 [.sl (.pair (.int .i64) (.pair (.int .i64) (.pair (.int .i64) (.pair (.int .i64) (.pair (.int .i64) (.int .i64)))))) h0]),(3,.box 3 [.int .i64 thread])] ?_
 refine AW.seq ?_
 refine AW.draw tab_ok mixed_ok [(5,[2,3,21000])] [] (by decide) (lex_fast (by kernel_rfl)) ?_
 as_aux_lemma =>
  refine adops_cut 2 (fun K' hK1=>?_)
  try dsimp only [List.drop_succ_cons,List.drop_zero,List.take_succ_cons,List.take_zero]
  simp only [go_sem]
  repeat with_reducible refine zN ?_
  refine hK1 _ ?_
  as_aux_lemma =>
   obtain ⟨v0,hv2,h⟩:=Option.bind_eq_some_iff.1 h
   refine adops.call (by first|trivial|rfl) rfl rfl rfl (fun _ h=>h) [] [] (hc_history_within thread 0 3 hv2) rfl (by (simp only [go_sem])<;>(with_reducible and_intros)<;>first|assumption|rfl|omega|(unfold maxLen; omega)) (by (simp only [go_sem])<;>(with_reducible and_intros)<;>first|assumption|rfl|omega|(unfold maxLen; omega)) rfl ?_
   obtain ⟨v0_2,hv3,h⟩:=Option.bind_eq_some_iff.1 h
   refine adops.call (by first|trivial|rfl) rfl rfl rfl (fun _ h=>h) [] [] (hc_history_check h0 v0 hv3) rfl (by (simp only [go_sem])<;>(with_reducible and_intros)<;>first|assumption|rfl|omega|(unfold maxLen; omega)) (by (simp only [go_sem])<;>(with_reducible and_intros)<;>first|assumption|rfl|omega|(unfold maxLen; omega)) rfl ?_
   refine adops_cut 1 (fun K' hK4=>?_)
   try dsimp only [List.drop_succ_cons,List.drop_zero,List.take_succ_cons,List.take_zero]
   simp only [go_sem]
   repeat with_reducible refine zN ?_
   refine hK4 _ ?_
   as_aux_lemma =>
    obtain ⟨v0_3,hv5,h⟩:=Option.bind_eq_some_iff.1 h
    refine adops.call (by first|trivial|rfl) rfl rfl rfl (fun _ h=>h) [] [(1000,2),(1001,3)] (hc_history_told_2 v0_2 h0 thread hv5) rfl (by (simp only [go_sem])<;>(with_reducible and_intros)<;>first|assumption|rfl|omega|(unfold maxLen; omega)) (by (simp only [go_sem])<;>(with_reducible and_intros)<;>first|assumption|rfl|omega|(unfold maxLen; omega)) rfl ?_
    refine adops_cut 4 (fun K' hK6=>?_)
    try dsimp only [List.drop_succ_cons,List.drop_zero,List.take_succ_cons,List.take_zero]
    simp only [go_sem]
    repeat with_reducible refine zN ?_
    refine hK6 _ ?_
    refine adops_nil ?_
    refine athen_n ?_
    refine zV [(4,.own 21000),(5,.int .i64 v0_3.2)] [(21000,.arr 68 (.pair (.int .i64) (.pair (.int .i64) (.pair (.int .i64) (.pair (.int .i64) (.pair (.int .i64) (.int .i64)))))) v0_3.1)] gt ?_
    as_aux_lemma =>
     refine AW.ret ?_
     obtain rfl:=Option.some.inj h
     exact zR [] [] [(2000,21000)]
end Go.Proofs.Ytenchhmcjmjlbaa
