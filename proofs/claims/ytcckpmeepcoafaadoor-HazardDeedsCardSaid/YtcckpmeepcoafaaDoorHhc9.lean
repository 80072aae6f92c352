import Derived.Test.YtcckpmeepcoafaaDoorHzp
import Derived.Test.YtcckpmeepcoafaaDoorShz
import Derived.Test.YtcckpmeepcoafaaDoorAvd
import Derived.Test.YtcckpmeepcoafaaDoorHhc8
namespace Go.Proofs.YtcckpmeepcoafaaDoor
open Go.RowKit
set_option linter.unusedSimpArgs false
set_option linter.unusedVariables false
set_option linter.constructorNameAsVariable false
set_option maxRecDepth 100000
set_option maxHeartbeats 40000000
theorem hc_linealref06_Yard_Clear (thread:Int) (slot:Int) (y:Int) (y_2:Int) (y_3:(El T66)) (y_4:List (Int×Int)) (y_5:List (List Int)) {r:Int×(List (Int×Int))} (h:linealref06_Yard_Clear thread slot y y_2 y_3 y_4 y_5=some r):HC Tryd.prog 34 [(1000,.box 77 (.int .i64 y::(.int .i64 y_2::(cellsX T66 y_3++(.own 1001::(.own 1002::[])))))),(1001,.arr 64 (.pair (.int .i64) (.int .i64)) y_4),(1002,.arr 45 (.sl (.int .i64)) y_5)] [.bp 1000 0,.int .i64 thread,.int .i64 slot] [(1000,.box 77 (.int .i64 y::(.int .i64 y_2::(cellsX T66 y_3++(.own 1001::(.own 1002::[])))))),(1001,.arr 64 (.pair (.int .i64) (.int .i64)) r.2),(1002,.arr 45 (.sl (.int .i64)) y_5)] (.int .i64 r.1):=by
 unfold linealref06_Yard_Clear at h
 refine zH Tryd.func34 [.tmp 6] 24 ?_
 refine zo ?_
 refine zB [(0,.bp 1000 0),(1,.int .i64 thread),(2,.int .i64 slot)] [(1000,.box 77 (.int .i64 y::(.int .i64 y_2::(cellsX T66 y_3++(.own 1001::(.own 1002::[])))))),(1001,.arr 64 (.pair (.int .i64) (.int .i64)) y_4),(1002,.arr 45 (.sl (.int .i64)) y_5)] ?_
 refine AW.seq ?_
 refine zo ?_
 refine zS 2 [(0,.bp 1000 0),(1,.int .i64 thread),(2,.int .i64 slot),(7,.bp 1000 0),(8,.int .i64 thread)] [(1000,.box 77 (.int .i64 y::(.int .i64 y_2::(cellsX T66 y_3++(.own 1001::(.own 1002::[])))))),(1001,.arr 64 (.pair (.int .i64) (.int .i64)) y_4),(1002,.arr 45 (.sl (.int .i64)) y_5)] ?_
 obtain ⟨v0,hv1,h⟩:=Option.bind_eq_some_iff.1 h
 refine zC [] [(1000,1000),(1001,1001),(1002,1002)] (hc_linealref06_Yard_isThread thread y y_2 y_3 y_4 y_5 hv1) [(0,.bp 1000 0),(1,.int .i64 thread),(2,.int .i64 slot),(9,.bool v0)] [(1000,.box 77 (.int .i64 y::(.int .i64 y_2::(cellsX T66 y_3++(.own 1001::(.own 1002::[])))))),(1001,.arr 64 (.pair (.int .i64) (.int .i64)) y_4),(1002,.arr 45 (.sl (.int .i64)) y_5)] ?_
 refine zS 2 [(0,.bp 1000 0),(1,.int .i64 thread),(2,.int .i64 slot),(11,.bool (!v0))] [(1000,.box 77 (.int .i64 y::(.int .i64 y_2::(cellsX T66 y_3++(.own 1001::(.own 1002::[])))))),(1001,.arr 64 (.pair (.int .i64) (.int .i64)) y_4),(1002,.arr 45 (.sl (.int .i64)) y_5)] ?_
 rcases zI h with ⟨hb2,h⟩|⟨hb2,h⟩
 ·refine zB [(0,.bp 1000 0),(1,.int .i64 thread),(2,.int .i64 slot),(15,.bool true)] [(1000,.box 77 (.int .i64 y::(.int .i64 y_2::(cellsX T66 y_3++(.own 1001::(.own 1002::[])))))),(1001,.arr 64 (.pair (.int .i64) (.int .i64)) y_4),(1002,.arr 45 (.sl (.int .i64)) y_5)] ?_
  refine AW.cond (b:=true) rfl (fun _=>?_) (fun hb3=>by cases hb3)
  refine zo ?_
  refine zB [(6,.int .i64 2)] [(1000,.box 77 (.int .i64 y::(.int .i64 y_2::(cellsX T66 y_3++(.own 1001::(.own 1002::[])))))),(1001,.arr 64 (.pair (.int .i64) (.int .i64)) y_4),(1002,.arr 45 (.sl (.int .i64)) y_5)] ?_
  refine zr ?_
  obtain rfl:=Option.some.inj h
  exact zR [] [] []
 ·refine zS 1 [(0,.bp 1000 0),(1,.int .i64 thread),(2,.int .i64 slot),(11,.bool false),(12,.int .i64 slot)] [(1000,.box 77 (.int .i64 y::(.int .i64 y_2::(cellsX T66 y_3++(.own 1001::(.own 1002::[])))))),(1001,.arr 64 (.pair (.int .i64) (.int .i64)) y_4),(1002,.arr 45 (.sl (.int .i64)) y_5)] ?_
  obtain ⟨v0_2,hv4,h⟩:=Option.bind_eq_some_iff.1 h
  refine zG [] [] (hc_linealref06_isSlot slot hv4) [(0,.bp 1000 0),(1,.int .i64 thread),(2,.int .i64 slot),(11,.bool false),(13,.bool v0_2)] [(1000,.box 77 (.int .i64 y::(.int .i64 y_2::(cellsX T66 y_3++(.own 1001::(.own 1002::[])))))),(1001,.arr 64 (.pair (.int .i64) (.int .i64)) y_4),(1002,.arr 45 (.sl (.int .i64)) y_5)] ?_
  refine zB [(0,.bp 1000 0),(1,.int .i64 thread),(2,.int .i64 slot),(15,.bool (!v0_2))] [(1000,.box 77 (.int .i64 y::(.int .i64 y_2::(cellsX T66 y_3++(.own 1001::(.own 1002::[])))))),(1001,.arr 64 (.pair (.int .i64) (.int .i64)) y_4),(1002,.arr 45 (.sl (.int .i64)) y_5)] ?_
  refine zQ h (fun hb5 h=>?_) (fun hb5 h=>?_)
  ·refine zo ?_
   refine zB [(6,.int .i64 2)] [(1000,.box 77 (.int .i64 y::(.int .i64 y_2::(cellsX T66 y_3++(.own 1001::(.own 1002::[])))))),(1001,.arr 64 (.pair (.int .i64) (.int .i64)) y_4),(1002,.arr 45 (.sl (.int .i64)) y_5)] ?_
   refine zr ?_
   obtain rfl:=Option.some.inj h
   exact zR [] [] []
  ·refine zk ?_
   refine zo ?_
   refine zS 5 [(2,.int .i64 slot),(19,.own 1001),(20,.int .i64 thread)] [(1000,.box 77 (.int .i64 y::(.int .i64 y_2::(cellsX T66 y_3++(.own 1001::(.own 1002::[])))))),(1001,.arr 64 (.pair (.int .i64) (.int .i64)) y_4),(1002,.arr 45 (.sl (.int .i64)) y_5)] ?_
   obtain ⟨c6,h⟩:=ck_some.1 h
   obtain ⟨c7,h⟩:=ck_some.1 h
   obtain ⟨c8,h⟩:=ck_some.1 h
   obtain ⟨c9,h⟩:=ck_some.1 h
   refine zS 2 [(21,.int .i64 slot),(22,.ap 1001 2 thread.toNat 0)] [(1000,.box 77 (.int .i64 y::(.int .i64 y_2::(cellsX T66 y_3++(.own 1001::(.own 1002::[])))))),(1001,.arr 64 (.pair (.int .i64) (.int .i64)) y_4),(1002,.arr 45 (.sl (.int .i64)) y_5)] ?_
   rcases Bool.eq_false_or_eq_true (decide (slot=0)) with hb10|hb10
   ·rw [if_pos hb10] at h
    have hz11:slot=0:=by simpa using hb10
    refine zT [(21,.int .i64 0),(22,.ap 1001 2 thread.toNat 0)] [(1000,.box 77 (.int .i64 y::(.int .i64 y_2::(cellsX T66 y_3++(.own 1001::(.own 1002::[])))))),(1001,.arr 64 (.pair (.int .i64) (.int .i64)) y_4),(1002,.arr 45 (.sl (.int .i64)) y_5)] gt ?_
    refine zB [] [(1000,.box 77 (.int .i64 y::(.int .i64 y_2::(cellsX T66 y_3++(.own 1001::(.own 1002::[])))))),(1001,.arr 64 (.pair (.int .i64) (.int .i64)) (y_4.set thread.toNat ((-1),(y_4.getD thread.toNat (0,0)).2))),(1002,.arr 45 (.sl (.int .i64)) y_5)] ?_
    refine zo ?_
    refine zB [(6,.int .i64 0)] [(1000,.box 77 (.int .i64 y::(.int .i64 y_2::(cellsX T66 y_3++(.own 1001::(.own 1002::[])))))),(1001,.arr 64 (.pair (.int .i64) (.int .i64)) (y_4.set thread.toNat ((-1),(y_4.getD thread.toNat (0,0)).2))),(1002,.arr 45 (.sl (.int .i64)) y_5)] ?_
    refine AW.ret ?_
    obtain rfl:=Option.some.inj h
    exact zR [] [] []
   ·rw [if_neg (Bool.eq_false_iff.1 hb10)] at h
    have hz11:slot=1:=by have:=of_decide_eq_false hb10; omega
    refine zT [(21,.int .i64 1),(22,.ap 1001 2 thread.toNat 0)] [(1000,.box 77 (.int .i64 y::(.int .i64 y_2::(cellsX T66 y_3++(.own 1001::(.own 1002::[])))))),(1001,.arr 64 (.pair (.int .i64) (.int .i64)) y_4),(1002,.arr 45 (.sl (.int .i64)) y_5)] gt ?_
    refine zB [] [(1000,.box 77 (.int .i64 y::(.int .i64 y_2::(cellsX T66 y_3++(.own 1001::(.own 1002::[])))))),(1001,.arr 64 (.pair (.int .i64) (.int .i64)) (y_4.set thread.toNat ((y_4.getD thread.toNat (0,0)).1,(-1)))),(1002,.arr 45 (.sl (.int .i64)) y_5)] ?_
    refine zo ?_
    refine zB [(6,.int .i64 0)] [(1000,.box 77 (.int .i64 y::(.int .i64 y_2::(cellsX T66 y_3++(.own 1001::(.own 1002::[])))))),(1001,.arr 64 (.pair (.int .i64) (.int .i64)) (y_4.set thread.toNat ((y_4.getD thread.toNat (0,0)).1,(-1)))),(1002,.arr 45 (.sl (.int .i64)) y_5)] ?_
    refine AW.ret ?_
    obtain rfl:=Option.some.inj h
    exact zR [] [] []
theorem hc_linealref06_Yard_IsHeld (node:Int) (y:Int) (y_2:Int) (y_3:(El T66)) (y_4:List (Int×Int)) (y_5:List (List Int)) {r:Bool} (h:linealref06_Yard_IsHeld node y y_2 y_3 y_4 y_5=some r):HC Tryd.prog 65 [(1000,.box 77 (.int .i64 y::(.int .i64 y_2::(cellsX T66 y_3++(.own 1001::(.own 1002::[])))))),(1001,.arr 64 (.pair (.int .i64) (.int .i64)) y_4),(1002,.arr 45 (.sl (.int .i64)) y_5)] [.bp 1000 0,.int .i64 node] [(1000,.box 77 (.int .i64 y::(.int .i64 y_2::(cellsX T66 y_3++(.own 1001::(.own 1002::[])))))),(1001,.arr 64 (.pair (.int .i64) (.int .i64)) y_4),(1002,.arr 45 (.sl (.int .i64)) y_5)] (.bool r):=by
 unfold linealref06_Yard_IsHeld at h
 refine zH Tryd.func65 [.tmp 4] 30 ?_
 refine zo ?_
 refine zB [(0,.bp 1000 0),(1,.int .i64 node)] [(1000,.box 77 (.int .i64 y::(.int .i64 y_2::(cellsX T66 y_3++(.own 1001::(.own 1002::[])))))),(1001,.arr 64 (.pair (.int .i64) (.int .i64)) y_4),(1002,.arr 45 (.sl (.int .i64)) y_5)] ?_
 refine AW.have1 (fun _:Unit=>linealref06_Yard_IsHeld_k1=some r) (fun _=>⟨fr [],hpGet [(1000,.box 77 (.int .i64 y::(.int .i64 y_2::(cellsX T66 y_3++(.own 1001::(.own 1002::[])))))),(1001,.arr 64 (.pair (.int .i64) (.int .i64)) y_4),(1002,.arr 45 (.sl (.int .i64)) y_5)],gt⟩) (fun _ h=>?_) (fun hk_linealref06_Yard_IsHeld_k1=>?_)
 ·as_aux_lemma =>
   unfold linealref06_Yard_IsHeld_k1 at h
   refine zo ?_
   refine zB [(4,.bool false)] [(1000,.box 77 (.int .i64 y::(.int .i64 y_2::(cellsX T66 y_3++(.own 1001::(.own 1002::[])))))),(1001,.arr 64 (.pair (.int .i64) (.int .i64)) y_4),(1002,.arr 45 (.sl (.int .i64)) y_5)] ?_
   refine AW.ret ?_
   obtain rfl:=Option.some.inj h
   exact zR [] [] []
 ·refine AW.seq ?_
  refine zo ?_
  refine zB [(0,.bp 1000 0),(1,.int .i64 node),(5,.int .i64 0)] [(1000,.box 77 (.int .i64 y::(.int .i64 y_2::(cellsX T66 y_3++(.own 1001::(.own 1002::[])))))),(1001,.arr 64 (.pair (.int .i64) (.int .i64)) y_4),(1002,.arr 45 (.sl (.int .i64)) y_5)] ?_
  refine AW.block ?_
  obtain ⟨rv5,hw1,ho2⟩:=Option.bind_eq_some_iff.1 h
  refine AW.loopO (linealref06_Yard_IsHeld_b1 node y y_4) (fun st1=>⟨fr [(0,.bp 1000 0),(1,.int .i64 node),(5,.int .i64 st1)],hpGet [(1000,.box 77 (.int .i64 y::(.int .i64 y_2::(cellsX T66 y_3++(.own 1001::(.own 1002::[])))))),(1001,.arr 64 (.pair (.int .i64) (.int .i64)) y_4),(1002,.arr 45 (.sl (.int .i64)) y_5)],gt⟩) 0 hw1 (zL [] [] []) ?_
  as_aux_lemma =>
   intro st1 x4 h hd3
   unfold linealref06_Yard_IsHeld_b1 at h
   refine AW.seq ?_
   refine zo ?_
   refine zS 5 [(0,.bp 1000 0),(1,.int .i64 node),(5,.int .i64 st1),(7,.int .i64 st1),(11,.int .i64 y)] [(1000,.box 77 (.int .i64 y::(.int .i64 y_2::(cellsX T66 y_3++(.own 1001::(.own 1002::[])))))),(1001,.arr 64 (.pair (.int .i64) (.int .i64)) y_4),(1002,.arr 45 (.sl (.int .i64)) y_5)] ?_
   refine zB [(0,.bp 1000 0),(1,.int .i64 node),(5,.int .i64 st1),(12,.bool (decide (st1<y)))] [(1000,.box 77 (.int .i64 y::(.int .i64 y_2::(cellsX T66 y_3++(.own 1001::(.own 1002::[])))))),(1001,.arr 64 (.pair (.int .i64) (.int .i64)) y_4),(1002,.arr 45 (.sl (.int .i64)) y_5)] ?_
   refine zQ h (fun hb6 h=>?_) (fun hb6 h=>?_)
   ·refine zk ?_
    refine AW.have1 (fun _:Unit=>linealref06_Yard_IsHeld_k2 st1=some x4) (fun _=>⟨fr [(0,.bp 1000 0),(1,.int .i64 node),(5,.int .i64 st1)],hpGet [(1000,.box 77 (.int .i64 y::(.int .i64 y_2::(cellsX T66 y_3++(.own 1001::(.own 1002::[])))))),(1001,.arr 64 (.pair (.int .i64) (.int .i64)) y_4),(1002,.arr 45 (.sl (.int .i64)) y_5)],gt⟩) (fun _ h=>?_) (fun hk_linealref06_Yard_IsHeld_k2=>?_)
    ·as_aux_lemma =>
      unfold linealref06_Yard_IsHeld_k2 at h
      refine AW.ops ?_
      obtain ⟨c7,h⟩:=ck_some.1 h
      refine zA [(0,.bp 1000 0),(1,.int .i64 node),(5,.int .i64 (st1+1))] [(1000,.box 77 (.int .i64 y::(.int .i64 y_2::(cellsX T66 y_3++(.own 1001::(.own 1002::[])))))),(1001,.arr 64 (.pair (.int .i64) (.int .i64)) y_4),(1002,.arr 45 (.sl (.int .i64)) y_5)] ?_
      obtain rfl:=Option.some.inj h
      exact ⟨_,rfl,zL [] [] []⟩
    ·refine AW.seq ?_
     refine AW.block ?_
     refine zo ?_
     refine zB [(0,.bp 1000 0),(1,.int .i64 node),(5,.int .i64 st1),(6,.int .i64 0)] [(1000,.box 77 (.int .i64 y::(.int .i64 y_2::(cellsX T66 y_3++(.own 1001::(.own 1002::[])))))),(1001,.arr 64 (.pair (.int .i64) (.int .i64)) y_4),(1002,.arr 45 (.sl (.int .i64)) y_5)] ?_
     refine AW.block ?_
     obtain ⟨rv12,hw8,ho9⟩:=Option.bind_eq_some_iff.1 h
     refine AW.loopO (linealref06_Yard_IsHeld_b2 node y_4 st1) (fun st2=>⟨fr [(0,.bp 1000 0),(1,.int .i64 node),(5,.int .i64 st1),(6,.int .i64 st2)],hpGet [(1000,.box 77 (.int .i64 y::(.int .i64 y_2::(cellsX T66 y_3++(.own 1001::(.own 1002::[])))))),(1001,.arr 64 (.pair (.int .i64) (.int .i64)) y_4),(1002,.arr 45 (.sl (.int .i64)) y_5)],gt⟩) 0 hw8 (zL [] [] []) ?_
     as_aux_lemma =>
      intro st2 x11 h hd10
      unfold linealref06_Yard_IsHeld_b2 at h
      refine AW.seq ?_
      refine zo ?_
      refine zB [(0,.bp 1000 0),(1,.int .i64 node),(5,.int .i64 st1),(6,.int .i64 st2),(16,.bool (decide (st2<2)))] [(1000,.box 77 (.int .i64 y::(.int .i64 y_2::(cellsX T66 y_3++(.own 1001::(.own 1002::[])))))),(1001,.arr 64 (.pair (.int .i64) (.int .i64)) y_4),(1002,.arr 45 (.sl (.int .i64)) y_5)] ?_
      refine zQ h (fun hb13 h=>?_) (fun hb13 h=>?_)
      ·refine zk ?_
       refine AW.seq ?_
       refine AW.block ?_
       refine zo ?_
       refine zS 5 [(0,.bp 1000 0),(1,.int .i64 node),(5,.int .i64 st1),(6,.int .i64 st2),(22,.own 1001),(23,.int .i64 st1)] [(1000,.box 77 (.int .i64 y::(.int .i64 y_2::(cellsX T66 y_3++(.own 1001::(.own 1002::[])))))),(1001,.arr 64 (.pair (.int .i64) (.int .i64)) y_4),(1002,.arr 45 (.sl (.int .i64)) y_5)] ?_
       obtain ⟨c14,h⟩:=ck_some.1 h
       obtain ⟨c15,h⟩:=ck_some.1 h
       obtain ⟨c16,h⟩:=ck_some.1 h
       obtain ⟨c17,h⟩:=ck_some.1 h
       refine zS 2 [(0,.bp 1000 0),(1,.int .i64 node),(5,.int .i64 st1),(6,.int .i64 st2),(24,.int .i64 st2),(25,.ap 1001 2 st1.toNat 0)] [(1000,.box 77 (.int .i64 y::(.int .i64 y_2::(cellsX T66 y_3++(.own 1001::(.own 1002::[])))))),(1001,.arr 64 (.pair (.int .i64) (.int .i64)) y_4),(1002,.arr 45 (.sl (.int .i64)) y_5)] ?_
       rcases Bool.eq_false_or_eq_true (decide (st2=0)) with hb18|hb18
       ·rw [if_pos hb18] at h
        have hz19:st2=0:=by simpa using hb18
        refine zT [(0,.bp 1000 0),(1,.int .i64 node),(5,.int .i64 st1),(6,.int .i64 0),(24,.int .i64 0),(25,.ap 1001 2 st1.toNat 0)] [(1000,.box 77 (.int .i64 y::(.int .i64 y_2::(cellsX T66 y_3++(.own 1001::(.own 1002::[])))))),(1001,.arr 64 (.pair (.int .i64) (.int .i64)) y_4),(1002,.arr 45 (.sl (.int .i64)) y_5)] gt ?_
        refine zB [(0,.bp 1000 0),(1,.int .i64 node),(5,.int .i64 st1),(6,.int .i64 0),(29,.bool (decide ((y_4.getD st1.toNat (0,0)).1=node)))] [(1000,.box 77 (.int .i64 y::(.int .i64 y_2::(cellsX T66 y_3++(.own 1001::(.own 1002::[])))))),(1001,.arr 64 (.pair (.int .i64) (.int .i64)) y_4),(1002,.arr 45 (.sl (.int .i64)) y_5)] ?_
        refine zQ h (fun hb20 h=>?_) (fun hb20 h=>?_)
        ·refine zo ?_
         refine zB [(4,.bool true)] [(1000,.box 77 (.int .i64 y::(.int .i64 y_2::(cellsX T66 y_3++(.own 1001::(.own 1002::[])))))),(1001,.arr 64 (.pair (.int .i64) (.int .i64)) y_4),(1002,.arr 45 (.sl (.int .i64)) y_5)] ?_
         refine AW.ret ?_
         refine ablock_r ?_
         refine athen_r ?_
         obtain rfl:=Option.some.inj h
         try rw [← hd10 _ rfl] at ho9
         have h:=ho9
         try simp only at h
         refine athen_r ?_
         refine ablock_r ?_
         refine ablock_r ?_
         refine athen_r ?_
         obtain rfl:=Option.some.inj h
         try rw [← hd3 _ rfl] at ho2
         have h:=ho2
         try simp only at h
         refine athen_r ?_
         refine ablock_r ?_
         refine athen_r ?_
         obtain rfl:=Option.some.inj h
         exact zR [] [] []
        ·refine zm ?_
         refine athen_n ?_
         refine AW.ops ?_
         obtain ⟨c21,h⟩:=ck_some.1 h
         refine zA [(0,.bp 1000 0),(1,.int .i64 node),(5,.int .i64 st1),(6,.int .i64 (0+1))] [(1000,.box 77 (.int .i64 y::(.int .i64 y_2::(cellsX T66 y_3++(.own 1001::(.own 1002::[])))))),(1001,.arr 64 (.pair (.int .i64) (.int .i64)) y_4),(1002,.arr 45 (.sl (.int .i64)) y_5)] ?_
         obtain rfl:=Option.some.inj h
         exact ⟨_,rfl,zL [] [] []⟩
       ·rw [if_neg (Bool.eq_false_iff.1 hb18)] at h
        have hz19:st2=1:=by have:=of_decide_eq_false hb18; omega
        refine zT [(0,.bp 1000 0),(1,.int .i64 node),(5,.int .i64 st1),(6,.int .i64 1),(24,.int .i64 1),(25,.ap 1001 2 st1.toNat 0)] [(1000,.box 77 (.int .i64 y::(.int .i64 y_2::(cellsX T66 y_3++(.own 1001::(.own 1002::[])))))),(1001,.arr 64 (.pair (.int .i64) (.int .i64)) y_4),(1002,.arr 45 (.sl (.int .i64)) y_5)] gt ?_
        refine zB [(0,.bp 1000 0),(1,.int .i64 node),(5,.int .i64 st1),(6,.int .i64 1),(29,.bool (decide ((y_4.getD st1.toNat (0,0)).2=node)))] [(1000,.box 77 (.int .i64 y::(.int .i64 y_2::(cellsX T66 y_3++(.own 1001::(.own 1002::[])))))),(1001,.arr 64 (.pair (.int .i64) (.int .i64)) y_4),(1002,.arr 45 (.sl (.int .i64)) y_5)] ?_
        refine zQ h (fun hb22 h=>?_) (fun hb22 h=>?_)
        ·refine zo ?_
         refine zB [(4,.bool true)] [(1000,.box 77 (.int .i64 y::(.int .i64 y_2::(cellsX T66 y_3++(.own 1001::(.own 1002::[])))))),(1001,.arr 64 (.pair (.int .i64) (.int .i64)) y_4),(1002,.arr 45 (.sl (.int .i64)) y_5)] ?_
         refine AW.ret ?_
         refine ablock_r ?_
         refine athen_r ?_
         obtain rfl:=Option.some.inj h
         try rw [← hd10 _ rfl] at ho9
         have h:=ho9
         try simp only at h
         refine athen_r ?_
         refine ablock_r ?_
         refine ablock_r ?_
         refine athen_r ?_
         obtain rfl:=Option.some.inj h
         try rw [← hd3 _ rfl] at ho2
         have h:=ho2
         try simp only at h
         refine athen_r ?_
         refine ablock_r ?_
         refine athen_r ?_
         obtain rfl:=Option.some.inj h
         exact zR [] [] []
        ·refine zm ?_
         refine athen_n ?_
         refine AW.ops ?_
         obtain ⟨c23,h⟩:=ck_some.1 h
         refine zA [(0,.bp 1000 0),(1,.int .i64 node),(5,.int .i64 st1),(6,.int .i64 (1+1))] [(1000,.box 77 (.int .i64 y::(.int .i64 y_2::(cellsX T66 y_3++(.own 1001::(.own 1002::[])))))),(1001,.arr 64 (.pair (.int .i64) (.int .i64)) y_4),(1002,.arr 45 (.sl (.int .i64)) y_5)] ?_
         obtain rfl:=Option.some.inj h
         exact ⟨_,rfl,zL [] [] []⟩
      ·refine AW.exit ?_
       refine athen_e ?_
       obtain rfl:=Option.some.inj h
       try rw [← hd10 _ rfl] at ho9
       have h:=ho9
       try simp only at h
       refine athen_e ?_
       refine ablock_s ?_
       refine ablock_n ?_
       refine athen_n ?_
       exact AW.weaken (zL [] [] []) (hk_linealref06_Yard_IsHeld_k2 () h)
   ·refine AW.exit ?_
    refine athen_e ?_
    obtain rfl:=Option.some.inj h
    try rw [← hd3 _ rfl] at ho2
    have h:=ho2
    try simp only at h
    refine athen_e ?_
    refine ablock_s ?_
    refine athen_n ?_
    exact AW.weaken (zL [] [] []) (hk_linealref06_Yard_IsHeld_k1 () h)
theorem hc_linealref06_Yard_Sweep (thread:Int) (y:Int) (y_2:Int) (y_3:(El T66)) (y_4:List (Int×Int)) (y_5:List (List Int)) {r:Int×Int×(El T66)×(List (List Int))} (h:linealref06_Yard_Sweep thread y y_2 y_3 y_4 y_5=some r):HC Tryd.prog 40 [(1000,.box 77 (.int .i64 y::(.int .i64 y_2::(cellsX T66 y_3++(.own 1001::(.own 1002::[])))))),(1001,.arr 64 (.pair (.int .i64) (.int .i64)) y_4),(1002,.arr 45 (.sl (.int .i64)) y_5)] [.bp 1000 0,.int .i64 thread] [(1000,.box 77 (.int .i64 y::(.int .i64 y_2::(cellsX T66 r.2.2.1++(.own 1001::(.own 1002::[])))))),(1001,.arr 64 (.pair (.int .i64) (.int .i64)) y_4),(1002,.arr 45 (.sl (.int .i64)) r.2.2.2)] (.tup [.int .i64 r.1,.int .i64 r.2.1]):=by
 unfold linealref06_Yard_Sweep at h
 refine zH Tryd.func40 [.tmp 4,.tmp 5] 58 ?_
 refine zo ?_
 refine zB [(0,.bp 1000 0),(1,.int .i64 thread)] [(1000,.box 77 (.int .i64 y::(.int .i64 y_2::(cellsX T66 y_3++(.own 1001::(.own 1002::[])))))),(1001,.arr 64 (.pair (.int .i64) (.int .i64)) y_4),(1002,.arr 45 (.sl (.int .i64)) y_5)] ?_
 refine AW.seq ?_
 refine zo ?_
 refine zS 2 [(0,.bp 1000 0),(1,.int .i64 thread),(10,.bp 1000 0),(11,.int .i64 thread)] [(1000,.box 77 (.int .i64 y::(.int .i64 y_2::(cellsX T66 y_3++(.own 1001::(.own 1002::[])))))),(1001,.arr 64 (.pair (.int .i64) (.int .i64)) y_4),(1002,.arr 45 (.sl (.int .i64)) y_5)] ?_
 obtain ⟨v0,hv1,h⟩:=Option.bind_eq_some_iff.1 h
 refine zC [] [(1000,1000),(1001,1001),(1002,1002)] (hc_linealref06_Yard_isThread thread y y_2 y_3 y_4 y_5 hv1) [(0,.bp 1000 0),(1,.int .i64 thread),(12,.bool v0)] [(1000,.box 77 (.int .i64 y::(.int .i64 y_2::(cellsX T66 y_3++(.own 1001::(.own 1002::[])))))),(1001,.arr 64 (.pair (.int .i64) (.int .i64)) y_4),(1002,.arr 45 (.sl (.int .i64)) y_5)] ?_
 refine zB [(0,.bp 1000 0),(1,.int .i64 thread),(13,.bool (!v0))] [(1000,.box 77 (.int .i64 y::(.int .i64 y_2::(cellsX T66 y_3++(.own 1001::(.own 1002::[])))))),(1001,.arr 64 (.pair (.int .i64) (.int .i64)) y_4),(1002,.arr 45 (.sl (.int .i64)) y_5)] ?_
 refine zQ h (fun hb2 h=>?_) (fun hb2 h=>?_)
 ·refine zo ?_
  refine zB [(4,.int .i64 0),(5,.int .i64 2)] [(1000,.box 77 (.int .i64 y::(.int .i64 y_2::(cellsX T66 y_3++(.own 1001::(.own 1002::[])))))),(1001,.arr 64 (.pair (.int .i64) (.int .i64)) y_4),(1002,.arr 45 (.sl (.int .i64)) y_5)] ?_
  refine zr ?_
  obtain rfl:=Option.some.inj h
  exact zR [] [] []
 ·refine zk ?_
  refine zo ?_
  refine zB [(0,.bp 1000 0),(1,.int .i64 thread),(6,.cv (.slice none 0 0))] [(1000,.box 77 (.int .i64 y::(.int .i64 y_2::(cellsX T66 y_3++(.own 1001::(.own 1002::[])))))),(1001,.arr 64 (.pair (.int .i64) (.int .i64)) y_4),(1002,.arr 45 (.sl (.int .i64)) y_5)] ?_
  refine zo ?_
  refine zB [(0,.bp 1000 0),(1,.int .i64 thread),(6,.cv (.slice none 0 0)),(7,.int .i64 0)] [(1000,.box 77 (.int .i64 y::(.int .i64 y_2::(cellsX T66 y_3++(.own 1001::(.own 1002::[])))))),(1001,.arr 64 (.pair (.int .i64) (.int .i64)) y_4),(1002,.arr 45 (.sl (.int .i64)) y_5)] ?_
  refine AW.have1 (fun b1:(El T66)×(List Int)×Int=>linealref06_Yard_Sweep_k1 thread y_5 b1=some r) (fun b1=>⟨fr [(0,.bp 1000 0),(1,.int .i64 thread),(6,.own 42),(7,.int .i64 b1.2.2)],hpGet [(42,.arr 3 (.int .i64) b1.2.1),(1000,.box 77 (.int .i64 y::(.int .i64 y_2::(cellsX T66 b1.1++(.own 1001::(.own 1002::[])))))),(1001,.arr 64 (.pair (.int .i64) (.int .i64)) y_4),(1002,.arr 45 (.sl (.int .i64)) y_5)],gt⟩) (fun b1 h=>?_) (fun hk_linealref06_Yard_Sweep_k1=>?_)
  ·as_aux_lemma =>
    unfold linealref06_Yard_Sweep_k1 at h
    refine zo ?_
    refine zS 5 [(6,.own 42),(7,.int .i64 b1.2.2),(53,.own 1002),(54,.int .i64 thread)] [(42,.arr 3 (.int .i64) b1.2.1),(1000,.box 77 (.int .i64 y::(.int .i64 y_2::(cellsX T66 b1.1++(.own 1001::(.own 1002::[])))))),(1001,.arr 64 (.pair (.int .i64) (.int .i64)) y_4),(1002,.arr 45 (.sl (.int .i64)) y_5)] ?_
    obtain ⟨c3,h⟩:=ck_some.1 h
    obtain ⟨c4,h⟩:=ck_some.1 h
    refine zB [(7,.int .i64 b1.2.2)] [(1000,.box 77 (.int .i64 y::(.int .i64 y_2::(cellsX T66 b1.1++(.own 1001::(.own 1002::[])))))),(1001,.arr 64 (.pair (.int .i64) (.int .i64)) y_4),(1002,.arr 45 (.sl (.int .i64)) (y_5.set thread.toNat b1.2.1))] ?_
    refine zo ?_
    refine zB [(4,.int .i64 b1.2.2),(5,.int .i64 0)] [(1000,.box 77 (.int .i64 y::(.int .i64 y_2::(cellsX T66 b1.1++(.own 1001::(.own 1002::[])))))),(1001,.arr 64 (.pair (.int .i64) (.int .i64)) y_4),(1002,.arr 45 (.sl (.int .i64)) (y_5.set thread.toNat b1.2.1))] ?_
    refine AW.ret ?_
    obtain rfl:=Option.some.inj h
    exact zR [] [] []
  ·refine AW.seq ?_
   refine zo ?_
   refine zB [(0,.bp 1000 0),(1,.int .i64 thread),(6,.cv (.slice none 0 0)),(7,.int .i64 0),(8,.int .i64 0)] [(1000,.box 77 (.int .i64 y::(.int .i64 y_2::(cellsX T66 y_3++(.own 1001::(.own 1002::[])))))),(1001,.arr 64 (.pair (.int .i64) (.int .i64)) y_4),(1002,.arr 45 (.sl (.int .i64)) y_5)] ?_
   refine AW.block ?_
   obtain ⟨rv9,hw5,ho6⟩:=Option.bind_eq_some_iff.1 h
   refine AW.loopO (linealref06_Yard_Sweep_b1 thread y y_2 y_4 y_5) (fun st1=>⟨fr [(0,.bp 1000 0),(1,.int .i64 thread),(6,.own 42),(7,.int .i64 st1.2.2.1),(8,.int .i64 st1.2.2.2)],hpGet [(42,.arr 3 (.int .i64) st1.2.1),(1000,.box 77 (.int .i64 y::(.int .i64 y_2::(cellsX T66 st1.1++(.own 1001::(.own 1002::[])))))),(1001,.arr 64 (.pair (.int .i64) (.int .i64)) y_4),(1002,.arr 45 (.sl (.int .i64)) y_5)],gt⟩) (y_3,[],0,0) hw5 (zL [] [42] []) ?_
   as_aux_lemma =>
    intro st1 x8 h hd7
    unfold linealref06_Yard_Sweep_b1 at h
    refine AW.seq ?_
    refine zo ?_
    refine zS 5 [(0,.bp 1000 0),(1,.int .i64 thread),(6,.own 42),(7,.int .i64 st1.2.2.1),(8,.int .i64 st1.2.2.2),(14,.int .i64 st1.2.2.2),(18,.own 1002)] [(42,.arr 3 (.int .i64) st1.2.1),(1000,.box 77 (.int .i64 y::(.int .i64 y_2::(cellsX T66 st1.1++(.own 1001::(.own 1002::[])))))),(1001,.arr 64 (.pair (.int .i64) (.int .i64)) y_4),(1002,.arr 45 (.sl (.int .i64)) y_5)] ?_
    obtain ⟨c10,h⟩:=ck_some.1 h
    obtain ⟨c11,h⟩:=ck_some.1 h
    refine zB [(0,.bp 1000 0),(1,.int .i64 thread),(6,.own 42),(7,.int .i64 st1.2.2.1),(8,.int .i64 st1.2.2.2),(23,.bool (decide (st1.2.2.2<((y_5.getD thread.toNat []).length:Int))))] [(42,.arr 3 (.int .i64) st1.2.1),(1000,.box 77 (.int .i64 y::(.int .i64 y_2::(cellsX T66 st1.1++(.own 1001::(.own 1002::[])))))),(1001,.arr 64 (.pair (.int .i64) (.int .i64)) y_4),(1002,.arr 45 (.sl (.int .i64)) y_5)] ?_
    refine zQ h (fun hb12 h=>?_) (fun hb12 h=>?_)
    ·refine zk ?_
     refine AW.seq ?_
     refine AW.block ?_
     refine zo ?_
     refine zS 5 [(0,.bp 1000 0),(1,.int .i64 thread),(6,.own 42),(7,.int .i64 st1.2.2.1),(8,.int .i64 st1.2.2.2),(29,.own 1002),(30,.int .i64 thread)] [(42,.arr 3 (.int .i64) st1.2.1),(1000,.box 77 (.int .i64 y::(.int .i64 y_2::(cellsX T66 st1.1++(.own 1001::(.own 1002::[])))))),(1001,.arr 64 (.pair (.int .i64) (.int .i64)) y_4),(1002,.arr 45 (.sl (.int .i64)) y_5)] ?_
     obtain ⟨c13,h⟩:=ck_some.1 h
     obtain ⟨c14,h⟩:=ck_some.1 h
     obtain ⟨c15,h⟩:=ck_some.1 h
     obtain ⟨c16,h⟩:=ck_some.1 h
     refine zS 5 [(0,.bp 1000 0),(1,.int .i64 thread),(6,.own 42),(7,.int .i64 st1.2.2.1),(8,.int .i64 st1.2.2.2),(35,.int .i64 ((y_5.getD thread.toNat []).getD st1.2.2.2.toNat 0))] [(42,.arr 3 (.int .i64) st1.2.1),(1000,.box 77 (.int .i64 y::(.int .i64 y_2::(cellsX T66 st1.1++(.own 1001::(.own 1002::[])))))),(1001,.arr 64 (.pair (.int .i64) (.int .i64)) y_4),(1002,.arr 45 (.sl (.int .i64)) y_5)] ?_
     refine zB [(0,.bp 1000 0),(1,.int .i64 thread),(6,.own 42),(7,.int .i64 st1.2.2.1),(8,.int .i64 st1.2.2.2),(9,.int .i64 ((y_5.getD thread.toNat []).getD st1.2.2.2.toNat 0))] [(42,.arr 3 (.int .i64) st1.2.1),(1000,.box 77 (.int .i64 y::(.int .i64 y_2::(cellsX T66 st1.1++(.own 1001::(.own 1002::[])))))),(1001,.arr 64 (.pair (.int .i64) (.int .i64)) y_4),(1002,.arr 45 (.sl (.int .i64)) y_5)] ?_
     refine zo ?_
     refine zS 2 [(0,.bp 1000 0),(1,.int .i64 thread),(6,.own 42),(7,.int .i64 st1.2.2.1),(8,.int .i64 st1.2.2.2),(9,.int .i64 ((y_5.getD thread.toNat []).getD st1.2.2.2.toNat 0)),(36,.bp 1000 0),(37,.int .i64 ((y_5.getD thread.toNat []).getD st1.2.2.2.toNat 0))] [(42,.arr 3 (.int .i64) st1.2.1),(1000,.box 77 (.int .i64 y::(.int .i64 y_2::(cellsX T66 st1.1++(.own 1001::(.own 1002::[])))))),(1001,.arr 64 (.pair (.int .i64) (.int .i64)) y_4),(1002,.arr 45 (.sl (.int .i64)) y_5)] ?_
     obtain ⟨v0_2,hv17,h⟩:=Option.bind_eq_some_iff.1 h
     refine zC [] [(1000,1000),(1001,1001),(1002,1002)] (hc_linealref06_Yard_IsHeld ((y_5.getD thread.toNat []).getD st1.2.2.2.toNat 0) y y_2 st1.1 y_4 y_5 hv17) [(0,.bp 1000 0),(1,.int .i64 thread),(6,.own 42),(7,.int .i64 st1.2.2.1),(8,.int .i64 st1.2.2.2),(9,.int .i64 ((y_5.getD thread.toNat []).getD st1.2.2.2.toNat 0)),(38,.bool v0_2)] [(42,.arr 3 (.int .i64) st1.2.1),(1000,.box 77 (.int .i64 y::(.int .i64 y_2::(cellsX T66 st1.1++(.own 1001::(.own 1002::[])))))),(1001,.arr 64 (.pair (.int .i64) (.int .i64)) y_4),(1002,.arr 45 (.sl (.int .i64)) y_5)] ?_
     refine zB [(0,.bp 1000 0),(1,.int .i64 thread),(6,.own 42),(7,.int .i64 st1.2.2.1),(8,.int .i64 st1.2.2.2),(9,.int .i64 ((y_5.getD thread.toNat []).getD st1.2.2.2.toNat 0)),(38,.bool v0_2)] [(42,.arr 3 (.int .i64) st1.2.1),(1000,.box 77 (.int .i64 y::(.int .i64 y_2::(cellsX T66 st1.1++(.own 1001::(.own 1002::[])))))),(1001,.arr 64 (.pair (.int .i64) (.int .i64)) y_4),(1002,.arr 45 (.sl (.int .i64)) y_5)] ?_
     refine zQ h (fun hb18 h=>?_) (fun hb18 h=>?_)
     ·refine AW.ops ?_
      obtain ⟨c19,h⟩:=ck_some.1 h
      refine zA [(0,.bp 1000 0),(1,.int .i64 thread),(6,.own 42),(7,.int .i64 st1.2.2.1),(8,.int .i64 st1.2.2.2)] [(42,.arr 3 (.int .i64) (st1.2.1++[((y_5.getD thread.toNat []).getD st1.2.2.2.toNat 0)])),(1000,.box 77 (.int .i64 y::(.int .i64 y_2::(cellsX T66 st1.1++(.own 1001::(.own 1002::[])))))),(1001,.arr 64 (.pair (.int .i64) (.int .i64)) y_4),(1002,.arr 45 (.sl (.int .i64)) y_5)] ?_
      refine ablock_n ?_
      refine athen_n ?_
      refine AW.ops ?_
      obtain ⟨c20,h⟩:=ck_some.1 h
      refine zA [(0,.bp 1000 0),(1,.int .i64 thread),(6,.own 42),(7,.int .i64 st1.2.2.1),(8,.int .i64 (st1.2.2.2+1))] [(42,.arr 3 (.int .i64) (st1.2.1++[((y_5.getD thread.toNat []).getD st1.2.2.2.toNat 0)])),(1000,.box 77 (.int .i64 y::(.int .i64 y_2::(cellsX T66 st1.1++(.own 1001::(.own 1002::[])))))),(1001,.arr 64 (.pair (.int .i64) (.int .i64)) y_4),(1002,.arr 45 (.sl (.int .i64)) y_5)] ?_
      obtain rfl:=Option.some.inj h
      exact ⟨_,rfl,zL [] [] []⟩
     ·refine zo ?_
      obtain ⟨c21,h⟩:=ck_some.1 h
      obtain ⟨c22,h⟩:=ck_some.1 h
      refine zS 5 [(0,.bp 1000 0),(1,.int .i64 thread),(6,.own 42),(7,.int .i64 st1.2.2.1),(8,.int .i64 st1.2.2.2),(47,.bp 1000 (2+((y_5.getD thread.toNat []).getD st1.2.2.2.toNat 0).toNat*1))] [(42,.arr 3 (.int .i64) st1.2.1),(1000,.box 77 (.int .i64 y::(.int .i64 y_2::(cellsX T66 st1.1++(.own 1001::(.own 1002::[])))))),(1001,.arr 64 (.pair (.int .i64) (.int .i64)) y_4),(1002,.arr 45 (.sl (.int .i64)) y_5)] ?_
      have hx23:(((y_5.getD thread.toNat []).getD st1.2.2.2.toNat 0).toNat*1)<8:=by omega
      refine zB [(0,.bp 1000 0),(1,.int .i64 thread),(6,.own 42),(7,.int .i64 st1.2.2.1),(8,.int .i64 st1.2.2.2)] [(42,.arr 3 (.int .i64) st1.2.1),(1000,.box 77 (.int .i64 y::(.int .i64 y_2::(cellsX T66 (setInt T66 st1.1 (((y_5.getD thread.toNat []).getD st1.2.2.2.toNat 0).toNat*1) 0)++(.own 1001::(.own 1002::[])))))),(1001,.arr 64 (.pair (.int .i64) (.int .i64)) y_4),(1002,.arr 45 (.sl (.int .i64)) y_5)] ?_
      refine AW.ops ?_
      obtain ⟨c24,h⟩:=ck_some.1 h
      refine zA [(0,.bp 1000 0),(1,.int .i64 thread),(6,.own 42),(7,.int .i64 (st1.2.2.1+1)),(8,.int .i64 st1.2.2.2)] [(42,.arr 3 (.int .i64) st1.2.1),(1000,.box 77 (.int .i64 y::(.int .i64 y_2::(cellsX T66 (setInt T66 st1.1 (((y_5.getD thread.toNat []).getD st1.2.2.2.toNat 0).toNat*1) 0)++(.own 1001::(.own 1002::[])))))),(1001,.arr 64 (.pair (.int .i64) (.int .i64)) y_4),(1002,.arr 45 (.sl (.int .i64)) y_5)] ?_
      refine ablock_n ?_
      refine athen_n ?_
      refine AW.ops ?_
      obtain ⟨c25,h⟩:=ck_some.1 h
      refine zA [(0,.bp 1000 0),(1,.int .i64 thread),(6,.own 42),(7,.int .i64 (st1.2.2.1+1)),(8,.int .i64 (st1.2.2.2+1))] [(42,.arr 3 (.int .i64) st1.2.1),(1000,.box 77 (.int .i64 y::(.int .i64 y_2::(cellsX T66 (setInt T66 st1.1 (((y_5.getD thread.toNat []).getD st1.2.2.2.toNat 0).toNat*1) 0)++(.own 1001::(.own 1002::[])))))),(1001,.arr 64 (.pair (.int .i64) (.int .i64)) y_4),(1002,.arr 45 (.sl (.int .i64)) y_5)] ?_
      obtain rfl:=Option.some.inj h
      exact ⟨_,rfl,zL [] [] []⟩
    ·refine AW.exit ?_
     refine athen_e ?_
     obtain rfl:=Option.some.inj h
     rw [← hd7 _ rfl] at ho6
     have h:=ho6
     refine athen_e ?_
     refine ablock_s ?_
     refine athen_n ?_
     exact AW.weaken (zL [] [] []) (hk_linealref06_Yard_Sweep_k1 _ h)
theorem hc_linealref06_Yard_PutBy (thread:Int) (node:Int) (y:Int) (y_2:Int) (y_3:(El T66)) (y_4:List (Int×Int)) (y_5:List (List Int)) {r:Int×Int×(El T66)×(List (List Int))} (h:linealref06_Yard_PutBy thread node y y_2 y_3 y_4 y_5=some r):HC Tryd.prog 36 [(1000,.box 77 (.int .i64 y::(.int .i64 y_2::(cellsX T66 y_3++(.own 1001::(.own 1002::[])))))),(1001,.arr 64 (.pair (.int .i64) (.int .i64)) y_4),(1002,.arr 45 (.sl (.int .i64)) y_5)] [.bp 1000 0,.int .i64 thread,.int .i64 node] [(1000,.box 77 (.int .i64 y::(.int .i64 y_2::(cellsX T66 r.2.2.1++(.own 1001::(.own 1002::[])))))),(1001,.arr 64 (.pair (.int .i64) (.int .i64)) y_4),(1002,.arr 45 (.sl (.int .i64)) r.2.2.2)] (.tup [.int .i64 r.1,.int .i64 r.2.1]):=by
 unfold linealref06_Yard_PutBy at h
 refine zH Tryd.func36 [.tmp 6,.tmp 7] 65 ?_
 refine zo ?_
 refine zB [(0,.bp 1000 0),(1,.int .i64 thread),(2,.int .i64 node)] [(1000,.box 77 (.int .i64 y::(.int .i64 y_2::(cellsX T66 y_3++(.own 1001::(.own 1002::[])))))),(1001,.arr 64 (.pair (.int .i64) (.int .i64)) y_4),(1002,.arr 45 (.sl (.int .i64)) y_5)] ?_
 refine AW.seq ?_
 refine zo ?_
 refine zS 2 [(0,.bp 1000 0),(1,.int .i64 thread),(2,.int .i64 node),(8,.bp 1000 0),(9,.int .i64 thread)] [(1000,.box 77 (.int .i64 y::(.int .i64 y_2::(cellsX T66 y_3++(.own 1001::(.own 1002::[])))))),(1001,.arr 64 (.pair (.int .i64) (.int .i64)) y_4),(1002,.arr 45 (.sl (.int .i64)) y_5)] ?_
 obtain ⟨v0,hv1,h⟩:=Option.bind_eq_some_iff.1 h
 refine zC [] [(1000,1000),(1001,1001),(1002,1002)] (hc_linealref06_Yard_isThread thread y y_2 y_3 y_4 y_5 hv1) [(0,.bp 1000 0),(1,.int .i64 thread),(2,.int .i64 node),(10,.bool v0)] [(1000,.box 77 (.int .i64 y::(.int .i64 y_2::(cellsX T66 y_3++(.own 1001::(.own 1002::[])))))),(1001,.arr 64 (.pair (.int .i64) (.int .i64)) y_4),(1002,.arr 45 (.sl (.int .i64)) y_5)] ?_
 refine zS 2 [(0,.bp 1000 0),(1,.int .i64 thread),(2,.int .i64 node),(12,.bool (!v0))] [(1000,.box 77 (.int .i64 y::(.int .i64 y_2::(cellsX T66 y_3++(.own 1001::(.own 1002::[])))))),(1001,.arr 64 (.pair (.int .i64) (.int .i64)) y_4),(1002,.arr 45 (.sl (.int .i64)) y_5)] ?_
 rcases zI h with ⟨hb2,h⟩|⟨hb2,h⟩
 ·refine zB [(0,.bp 1000 0),(1,.int .i64 thread),(2,.int .i64 node),(16,.bool true)] [(1000,.box 77 (.int .i64 y::(.int .i64 y_2::(cellsX T66 y_3++(.own 1001::(.own 1002::[])))))),(1001,.arr 64 (.pair (.int .i64) (.int .i64)) y_4),(1002,.arr 45 (.sl (.int .i64)) y_5)] ?_
  refine AW.cond (b:=true) rfl (fun _=>?_) (fun hb3=>by cases hb3)
  refine zo ?_
  refine zB [(6,.int .i64 0),(7,.int .i64 2)] [(1000,.box 77 (.int .i64 y::(.int .i64 y_2::(cellsX T66 y_3++(.own 1001::(.own 1002::[])))))),(1001,.arr 64 (.pair (.int .i64) (.int .i64)) y_4),(1002,.arr 45 (.sl (.int .i64)) y_5)] ?_
  refine zr ?_
  obtain rfl:=Option.some.inj h
  exact zR [] [] []
 ·refine zS 1 [(0,.bp 1000 0),(1,.int .i64 thread),(2,.int .i64 node),(12,.bool false),(13,.int .i64 node)] [(1000,.box 77 (.int .i64 y::(.int .i64 y_2::(cellsX T66 y_3++(.own 1001::(.own 1002::[])))))),(1001,.arr 64 (.pair (.int .i64) (.int .i64)) y_4),(1002,.arr 45 (.sl (.int .i64)) y_5)] ?_
  obtain ⟨v0_2,hv4,h⟩:=Option.bind_eq_some_iff.1 h
  refine zG [] [] (hc_linealref06_isNode node hv4) [(0,.bp 1000 0),(1,.int .i64 thread),(2,.int .i64 node),(12,.bool false),(14,.bool v0_2)] [(1000,.box 77 (.int .i64 y::(.int .i64 y_2::(cellsX T66 y_3++(.own 1001::(.own 1002::[])))))),(1001,.arr 64 (.pair (.int .i64) (.int .i64)) y_4),(1002,.arr 45 (.sl (.int .i64)) y_5)] ?_
  refine zB [(0,.bp 1000 0),(1,.int .i64 thread),(2,.int .i64 node),(16,.bool (!v0_2))] [(1000,.box 77 (.int .i64 y::(.int .i64 y_2::(cellsX T66 y_3++(.own 1001::(.own 1002::[])))))),(1001,.arr 64 (.pair (.int .i64) (.int .i64)) y_4),(1002,.arr 45 (.sl (.int .i64)) y_5)] ?_
  refine zQ h (fun hb5 h=>?_) (fun hb5 h=>?_)
  ·refine zo ?_
   refine zB [(6,.int .i64 0),(7,.int .i64 2)] [(1000,.box 77 (.int .i64 y::(.int .i64 y_2::(cellsX T66 y_3++(.own 1001::(.own 1002::[])))))),(1001,.arr 64 (.pair (.int .i64) (.int .i64)) y_4),(1002,.arr 45 (.sl (.int .i64)) y_5)] ?_
   refine zr ?_
   obtain rfl:=Option.some.inj h
   exact zR [] [] []
  ·refine zk ?_
   refine AW.seq ?_
   refine zo ?_
   obtain ⟨c6,h⟩:=ck_some.1 h
   obtain ⟨c7,h⟩:=ck_some.1 h
   refine zS 5 [(0,.bp 1000 0),(1,.int .i64 thread),(2,.int .i64 node),(21,.bp 1000 (2+node.toNat*1))] [(1000,.box 77 (.int .i64 y::(.int .i64 y_2::(cellsX T66 y_3++(.own 1001::(.own 1002::[])))))),(1001,.arr 64 (.pair (.int .i64) (.int .i64)) y_4),(1002,.arr 45 (.sl (.int .i64)) y_5)] ?_
   have hx8:(node.toNat*1)<8:=by omega
   refine zB [(0,.bp 1000 0),(1,.int .i64 thread),(2,.int .i64 node),(23,.bool (!(decide ((intAt T66 y_3 (node.toNat*1))=1))))] [(1000,.box 77 (.int .i64 y::(.int .i64 y_2::(cellsX T66 y_3++(.own 1001::(.own 1002::[])))))),(1001,.arr 64 (.pair (.int .i64) (.int .i64)) y_4),(1002,.arr 45 (.sl (.int .i64)) y_5)] ?_
   refine zQ h (fun hb9 h=>?_) (fun hb9 h=>?_)
   ·refine zo ?_
    refine zB [(6,.int .i64 0),(7,.int .i64 5)] [(1000,.box 77 (.int .i64 y::(.int .i64 y_2::(cellsX T66 y_3++(.own 1001::(.own 1002::[])))))),(1001,.arr 64 (.pair (.int .i64) (.int .i64)) y_4),(1002,.arr 45 (.sl (.int .i64)) y_5)] ?_
    refine zr ?_
    obtain rfl:=Option.some.inj h
    exact zR [] [] []
   ·refine zk ?_
    refine zo ?_
    obtain ⟨c10,h⟩:=ck_some.1 h
    obtain ⟨c11,h⟩:=ck_some.1 h
    refine zS 5 [(0,.bp 1000 0),(1,.int .i64 thread),(2,.int .i64 node),(28,.bp 1000 (2+node.toNat*1))] [(1000,.box 77 (.int .i64 y::(.int .i64 y_2::(cellsX T66 y_3++(.own 1001::(.own 1002::[])))))),(1001,.arr 64 (.pair (.int .i64) (.int .i64)) y_4),(1002,.arr 45 (.sl (.int .i64)) y_5)] ?_
    have hx12:(node.toNat*1)<8:=by omega
    refine zB [(0,.bp 1000 0),(1,.int .i64 thread),(2,.int .i64 node)] [(1000,.box 77 (.int .i64 y::(.int .i64 y_2::(cellsX T66 (setInt T66 y_3 (node.toNat*1) 2)++(.own 1001::(.own 1002::[])))))),(1001,.arr 64 (.pair (.int .i64) (.int .i64)) y_4),(1002,.arr 45 (.sl (.int .i64)) y_5)] ?_
    refine AW.seq ?_
    refine AW.draw tab_ok mixed_ok [(5,[34]),(13,[34,42]),(15,[44]),(16,[42,45]),(18,[45,1002])] [(0,[1000,1001,1002]),(1,[1000,1001,1002]),(2,[1000,1001,1002]),(3,[1000,1001,1002,1000001001,1000001002]),(4,[]),(5,[34]),(6,[1000,1001,1002]),(7,[1000,1001,1002]),(8,[1000,1001,1002]),(9,[1000,1001,1002,1000001001,1000001002]),(10,[]),(11,[1002]),(12,[1002]),(13,[34,42]),(14,[]),(15,[44])] (by decide) (lex_fast (by kernel_rfl)) ?_
    as_aux_lemma =>
     refine adops_cut 6 (fun K' hK13=>?_)
     try dsimp only [List.drop_succ_cons,List.drop_zero,List.take_succ_cons,List.take_zero]
     simp only [go_sem,hb2,hb5,hx8,hb9,hx12]
     repeat with_reducible refine zN ?_
     refine hK13 _ ?_
     as_aux_lemma =>
      obtain ⟨c15,h⟩:=ck_some.1 h
      obtain ⟨c16,h⟩:=ck_some.1 h
      refine adops_cut 6 (fun K' hK14=>?_)
      try dsimp only [List.drop_succ_cons,List.drop_zero,List.take_succ_cons,List.take_zero]
      simp only [go_sem,hb2,hb5,hx8,hb9,hx12]
      repeat with_reducible refine zN ?_
      refine hK14 _ ?_
      as_aux_lemma =>
       obtain ⟨c18,h⟩:=ck_some.1 h
       obtain ⟨c19,h⟩:=ck_some.1 h
       obtain ⟨c20,h⟩:=ck_some.1 h
       obtain ⟨c21,h⟩:=ck_some.1 h
       refine adops_cut 6 (fun K' hK17=>?_)
       try dsimp only [List.drop_succ_cons,List.drop_zero,List.take_succ_cons,List.take_zero]
       simp only [go_sem,hb2,hb5,hx8,hb9,hx12]
       repeat with_reducible refine zN ?_
       refine hK17 _ ?_
       as_aux_lemma =>
        refine adops_cut 1 (fun K' hK22=>?_)
        try dsimp only [List.drop_succ_cons,List.drop_zero,List.take_succ_cons,List.take_zero]
        simp only [go_sem,hb2,hb5,hx8,hb9,hx12]
        repeat with_reducible refine zN ?_
        refine hK22 _ ?_
        refine adops_nil ?_
        refine athen_n ?_
        refine zV [(0,.bp 1000 0),(1,.int .i64 thread)] [(1000,.box 77 (.int .i64 y::(.int .i64 y_2::(cellsX T66 (setInt T66 y_3 (node.toNat*1) 2)++(.own 1001::(.own 1002::[])))))),(1001,.arr 64 (.pair (.int .i64) (.int .i64)) y_4),(1002,.arr 45 (.sl (.int .i64)) (y_5.set thread.toNat ((y_5.getD thread.toNat [])++[node])))] gt ?_
        as_aux_lemma =>
         refine AW.seq ?_
         refine AW.seq ?_
         refine AW.draw tab_ok mixed_ok [] [] (by decide) (lex_fast (by kernel_rfl)) ?_
         as_aux_lemma =>
          obtain ⟨c24,h⟩:=ck_some.1 h
          obtain ⟨c25,h⟩:=ck_some.1 h
          refine adops_cut 6 (fun K' hK23=>?_)
          try dsimp only [List.drop_succ_cons,List.drop_zero,List.take_succ_cons,List.take_zero]
          simp only [go_sem,hb2,hb5,hx8,hb9,hx12]
          repeat with_reducible refine zN ?_
          refine hK23 _ ?_
          as_aux_lemma =>
           refine adops_cut 6 (fun K' hK26=>?_)
           try dsimp only [List.drop_succ_cons,List.drop_zero,List.take_succ_cons,List.take_zero]
           simp only [go_sem,hb2,hb5,hx8,hb9,hx12]
           repeat with_reducible refine zN ?_
           refine hK26 _ ?_
           as_aux_lemma =>
            refine adops_cut 1 (fun K' hK27=>?_)
            try dsimp only [List.drop_succ_cons,List.drop_zero,List.take_succ_cons,List.take_zero]
            simp only [go_sem,hb2,hb5,hx8,hb9,hx12]
            repeat with_reducible refine zN ?_
            refine hK27 _ ?_
            refine adops_nil ?_
            refine athen_n ?_
            refine zV [(0,.bp 1000 0),(1,.int .i64 thread),(59,.bool (decide ((((y_5.set thread.toNat ((y_5.getD thread.toNat [])++[node])).getD thread.toNat []).length:Int)<y_2)))] [(1000,.box 77 (.int .i64 y::(.int .i64 y_2::(cellsX T66 (setInt T66 y_3 (node.toNat*1) 2)++(.own 1001::(.own 1002::[])))))),(1001,.arr 64 (.pair (.int .i64) (.int .i64)) y_4),(1002,.arr 45 (.sl (.int .i64)) (y_5.set thread.toNat ((y_5.getD thread.toNat [])++[node])))] gt ?_
            as_aux_lemma =>
             refine zQ h (fun hb28 h=>?_) (fun hb28 h=>?_)
             ·refine zo ?_
              refine zB [(6,.int .i64 0),(7,.int .i64 0)] [(1000,.box 77 (.int .i64 y::(.int .i64 y_2::(cellsX T66 (setInt T66 y_3 (node.toNat*1) 2)++(.own 1001::(.own 1002::[])))))),(1001,.arr 64 (.pair (.int .i64) (.int .i64)) y_4),(1002,.arr 45 (.sl (.int .i64)) (y_5.set thread.toNat ((y_5.getD thread.toNat [])++[node])))] ?_
              refine zr ?_
              obtain rfl:=Option.some.inj h
              exact zR [] [] []
             ·refine zk ?_
              refine zo ?_
              refine zS 2 [(60,.bp 1000 0),(61,.int .i64 thread)] [(1000,.box 77 (.int .i64 y::(.int .i64 y_2::(cellsX T66 (setInt T66 y_3 (node.toNat*1) 2)++(.own 1001::(.own 1002::[])))))),(1001,.arr 64 (.pair (.int .i64) (.int .i64)) y_4),(1002,.arr 45 (.sl (.int .i64)) (y_5.set thread.toNat ((y_5.getD thread.toNat [])++[node])))] ?_
              obtain ⟨v0_3,hv29,h⟩:=Option.bind_eq_some_iff.1 h
              refine zC [] [(1000,1000),(1001,1001),(1002,1002)] (hc_linealref06_Yard_Sweep thread y y_2 (setInt T66 y_3 (node.toNat*1) 2) y_4 (y_5.set thread.toNat ((y_5.getD thread.toNat [])++[node])) hv29) [(62,.tup [.int .i64 v0_3.1,.int .i64 v0_3.2.1])] [(1000,.box 77 (.int .i64 y::(.int .i64 y_2::(cellsX T66 v0_3.2.2.1++(.own 1001::(.own 1002::[])))))),(1001,.arr 64 (.pair (.int .i64) (.int .i64)) y_4),(1002,.arr 45 (.sl (.int .i64)) v0_3.2.2.2)] ?_
              refine zB [(6,.int .i64 v0_3.1),(7,.int .i64 v0_3.2.1)] [(1000,.box 77 (.int .i64 y::(.int .i64 y_2::(cellsX T66 v0_3.2.2.1++(.own 1001::(.own 1002::[])))))),(1001,.arr 64 (.pair (.int .i64) (.int .i64)) y_4),(1002,.arr 45 (.sl (.int .i64)) v0_3.2.2.2)] ?_
              refine AW.ret ?_
              obtain rfl:=Option.some.inj h
              exact zR [] [] []
end Go.Proofs.YtcckpmeepcoafaaDoor
