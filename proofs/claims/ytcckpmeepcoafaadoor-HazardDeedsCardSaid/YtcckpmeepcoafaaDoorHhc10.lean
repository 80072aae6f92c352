import Derived.Test.YtcckpmeepcoafaaDoorHzp
import Derived.Test.YtcckpmeepcoafaaDoorShz
import Derived.Test.YtcckpmeepcoafaaDoorHhc8
import Derived.Test.YtcckpmeepcoafaaDoorHhc9
namespace Go.Proofs.YtcckpmeepcoafaaDoor
open Go.RowKit
set_option linter.unusedSimpArgs false
set_option linter.unusedVariables false
set_option linter.constructorNameAsVariable false
set_option maxRecDepth 100000
set_option maxHeartbeats 40000000
theorem hc_linealref06_Yard_Use (thread:Int) (slot:Int) (y:Int) (y_2:Int) (y_3:(El T66)) (y_4:List (Int×Int)) (y_5:List (List Int)) {r:Int×Int} (h:linealref06_Yard_Use thread slot y y_2 y_3 y_4 y_5=some r):HC Tryd.prog 30 [(1000,.box 77 (.int .i64 y::(.int .i64 y_2::(cellsX T66 y_3++(.own 1001::(.own 1002::[])))))),(1001,.arr 64 (.pair (.int .i64) (.int .i64)) y_4),(1002,.arr 45 (.sl (.int .i64)) y_5)] [.bp 1000 0,.int .i64 thread,.int .i64 slot] [(1000,.box 77 (.int .i64 y::(.int .i64 y_2::(cellsX T66 y_3++(.own 1001::(.own 1002::[])))))),(1001,.arr 64 (.pair (.int .i64) (.int .i64)) y_4),(1002,.arr 45 (.sl (.int .i64)) y_5)] (.tup [.int .i64 r.1,.int .i64 r.2]):=by
 unfold linealref06_Yard_Use at h
 refine zH Tryd.func30 [.tmp 6,.tmp 7] 36 ?_
 refine zo ?_
 refine zB [(0,.bp 1000 0),(1,.int .i64 thread),(2,.int .i64 slot)] [(1000,.box 77 (.int .i64 y::(.int .i64 y_2::(cellsX T66 y_3++(.own 1001::(.own 1002::[])))))),(1001,.arr 64 (.pair (.int .i64) (.int .i64)) y_4),(1002,.arr 45 (.sl (.int .i64)) y_5)] ?_
 refine AW.seq ?_
 refine zo ?_
 refine zS 2 [(0,.bp 1000 0),(1,.int .i64 thread),(2,.int .i64 slot),(8,.bp 1000 0),(9,.int .i64 thread)] [(1000,.box 77 (.int .i64 y::(.int .i64 y_2::(cellsX T66 y_3++(.own 1001::(.own 1002::[])))))),(1001,.arr 64 (.pair (.int .i64) (.int .i64)) y_4),(1002,.arr 45 (.sl (.int .i64)) y_5)] ?_
 obtain ⟨v0,hv1,h⟩:=Option.bind_eq_some_iff.1 h
 refine zC [] [(1000,1000),(1001,1001),(1002,1002)] (hc_linealref06_Yard_isThread thread y y_2 y_3 y_4 y_5 hv1) [(0,.bp 1000 0),(1,.int .i64 thread),(2,.int .i64 slot),(10,.bool v0)] [(1000,.box 77 (.int .i64 y::(.int .i64 y_2::(cellsX T66 y_3++(.own 1001::(.own 1002::[])))))),(1001,.arr 64 (.pair (.int .i64) (.int .i64)) y_4),(1002,.arr 45 (.sl (.int .i64)) y_5)] ?_
 refine zS 2 [(0,.bp 1000 0),(1,.int .i64 thread),(2,.int .i64 slot),(12,.bool (!v0))] [(1000,.box 77 (.int .i64 y::(.int .i64 y_2::(cellsX T66 y_3++(.own 1001::(.own 1002::[])))))),(1001,.arr 64 (.pair (.int .i64) (.int .i64)) y_4),(1002,.arr 45 (.sl (.int .i64)) y_5)] ?_
 rcases zI h with ⟨hb2,h⟩|⟨hb2,h⟩
 ·refine zB [(0,.bp 1000 0),(1,.int .i64 thread),(2,.int .i64 slot),(16,.bool true)] [(1000,.box 77 (.int .i64 y::(.int .i64 y_2::(cellsX T66 y_3++(.own 1001::(.own 1002::[])))))),(1001,.arr 64 (.pair (.int .i64) (.int .i64)) y_4),(1002,.arr 45 (.sl (.int .i64)) y_5)] ?_
  refine AW.cond (b:=true) rfl (fun _=>?_) (fun hb3=>by cases hb3)
  refine zo ?_
  refine zB [(6,.int .i64 0),(7,.int .i64 2)] [(1000,.box 77 (.int .i64 y::(.int .i64 y_2::(cellsX T66 y_3++(.own 1001::(.own 1002::[])))))),(1001,.arr 64 (.pair (.int .i64) (.int .i64)) y_4),(1002,.arr 45 (.sl (.int .i64)) y_5)] ?_
  refine zr ?_
  obtain rfl:=Option.some.inj h
  exact zR [] [] []
 ·refine zS 1 [(0,.bp 1000 0),(1,.int .i64 thread),(2,.int .i64 slot),(12,.bool false),(13,.int .i64 slot)] [(1000,.box 77 (.int .i64 y::(.int .i64 y_2::(cellsX T66 y_3++(.own 1001::(.own 1002::[])))))),(1001,.arr 64 (.pair (.int .i64) (.int .i64)) y_4),(1002,.arr 45 (.sl (.int .i64)) y_5)] ?_
  obtain ⟨v0_2,hv4,h⟩:=Option.bind_eq_some_iff.1 h
  refine zG [] [] (hc_linealref06_isSlot slot hv4) [(0,.bp 1000 0),(1,.int .i64 thread),(2,.int .i64 slot),(12,.bool false),(14,.bool v0_2)] [(1000,.box 77 (.int .i64 y::(.int .i64 y_2::(cellsX T66 y_3++(.own 1001::(.own 1002::[])))))),(1001,.arr 64 (.pair (.int .i64) (.int .i64)) y_4),(1002,.arr 45 (.sl (.int .i64)) y_5)] ?_
  refine zB [(0,.bp 1000 0),(1,.int .i64 thread),(2,.int .i64 slot),(16,.bool (!v0_2))] [(1000,.box 77 (.int .i64 y::(.int .i64 y_2::(cellsX T66 y_3++(.own 1001::(.own 1002::[])))))),(1001,.arr 64 (.pair (.int .i64) (.int .i64)) y_4),(1002,.arr 45 (.sl (.int .i64)) y_5)] ?_
  refine zQ h (fun hb5 h=>?_) (fun hb5 h=>?_)
  ·refine zo ?_
   refine zB [(6,.int .i64 0),(7,.int .i64 2)] [(1000,.box 77 (.int .i64 y::(.int .i64 y_2::(cellsX T66 y_3++(.own 1001::(.own 1002::[])))))),(1001,.arr 64 (.pair (.int .i64) (.int .i64)) y_4),(1002,.arr 45 (.sl (.int .i64)) y_5)] ?_
   refine zr ?_
   obtain rfl:=Option.some.inj h
   exact zR [] [] []
  ·refine zk ?_
   refine AW.have1 (fun b1:Int=>linealref06_Yard_Use_k1 thread y_4 b1=some r) (fun b1=>⟨fr [(0,.bp 1000 0),(1,.int .i64 thread),(2,.int .i64 b1)],hpGet [(1000,.box 77 (.int .i64 y::(.int .i64 y_2::(cellsX T66 y_3++(.own 1001::(.own 1002::[])))))),(1001,.arr 64 (.pair (.int .i64) (.int .i64)) y_4),(1002,.arr 45 (.sl (.int .i64)) y_5)],gt⟩) (fun b1 h=>?_) (fun hk_linealref06_Yard_Use_k1=>?_)
   ·as_aux_lemma =>
     unfold linealref06_Yard_Use_k1 at h
     refine zo ?_
     refine zS 5 [(2,.int .i64 b1),(30,.own 1001),(31,.int .i64 thread)] [(1000,.box 77 (.int .i64 y::(.int .i64 y_2::(cellsX T66 y_3++(.own 1001::(.own 1002::[])))))),(1001,.arr 64 (.pair (.int .i64) (.int .i64)) y_4),(1002,.arr 45 (.sl (.int .i64)) y_5)] ?_
     obtain ⟨c6,h⟩:=ck_some.1 h
     obtain ⟨c7,h⟩:=ck_some.1 h
     obtain ⟨c8,h⟩:=ck_some.1 h
     obtain ⟨c9,h⟩:=ck_some.1 h
     refine zS 2 [(32,.int .i64 b1),(33,.ap 1001 2 thread.toNat 0)] [(1000,.box 77 (.int .i64 y::(.int .i64 y_2::(cellsX T66 y_3++(.own 1001::(.own 1002::[])))))),(1001,.arr 64 (.pair (.int .i64) (.int .i64)) y_4),(1002,.arr 45 (.sl (.int .i64)) y_5)] ?_
     rcases Bool.eq_false_or_eq_true (decide (b1=0)) with hb10|hb10
     ·rw [if_pos hb10] at h
      have hz11:b1=0:=by simpa using hb10
      refine zT [(32,.int .i64 0),(33,.ap 1001 2 thread.toNat 0)] [(1000,.box 77 (.int .i64 y::(.int .i64 y_2::(cellsX T66 y_3++(.own 1001::(.own 1002::[])))))),(1001,.arr 64 (.pair (.int .i64) (.int .i64)) y_4),(1002,.arr 45 (.sl (.int .i64)) y_5)] gt ?_
      refine zB [(6,.int .i64 (y_4.getD thread.toNat (0,0)).1),(7,.int .i64 0)] [(1000,.box 77 (.int .i64 y::(.int .i64 y_2::(cellsX T66 y_3++(.own 1001::(.own 1002::[])))))),(1001,.arr 64 (.pair (.int .i64) (.int .i64)) y_4),(1002,.arr 45 (.sl (.int .i64)) y_5)] ?_
      refine AW.ret ?_
      obtain rfl:=Option.some.inj h
      exact zR [] [] []
     ·rw [if_neg (Bool.eq_false_iff.1 hb10)] at h
      have hz11:b1=1:=by have:=of_decide_eq_false hb10; omega
      refine zT [(32,.int .i64 1),(33,.ap 1001 2 thread.toNat 0)] [(1000,.box 77 (.int .i64 y::(.int .i64 y_2::(cellsX T66 y_3++(.own 1001::(.own 1002::[])))))),(1001,.arr 64 (.pair (.int .i64) (.int .i64)) y_4),(1002,.arr 45 (.sl (.int .i64)) y_5)] gt ?_
      refine zB [(6,.int .i64 (y_4.getD thread.toNat (0,0)).2),(7,.int .i64 0)] [(1000,.box 77 (.int .i64 y::(.int .i64 y_2::(cellsX T66 y_3++(.own 1001::(.own 1002::[])))))),(1001,.arr 64 (.pair (.int .i64) (.int .i64)) y_4),(1002,.arr 45 (.sl (.int .i64)) y_5)] ?_
      refine AW.ret ?_
      obtain rfl:=Option.some.inj h
      exact zR [] [] []
   ·refine AW.seq ?_
    refine zo ?_
    refine zS 5 [(0,.bp 1000 0),(1,.int .i64 thread),(2,.int .i64 slot),(20,.own 1001),(21,.int .i64 thread)] [(1000,.box 77 (.int .i64 y::(.int .i64 y_2::(cellsX T66 y_3++(.own 1001::(.own 1002::[])))))),(1001,.arr 64 (.pair (.int .i64) (.int .i64)) y_4),(1002,.arr 45 (.sl (.int .i64)) y_5)] ?_
    obtain ⟨c12,h⟩:=ck_some.1 h
    obtain ⟨c13,h⟩:=ck_some.1 h
    obtain ⟨c14,h⟩:=ck_some.1 h
    obtain ⟨c15,h⟩:=ck_some.1 h
    refine zS 2 [(0,.bp 1000 0),(1,.int .i64 thread),(2,.int .i64 slot),(22,.int .i64 slot),(23,.ap 1001 2 thread.toNat 0)] [(1000,.box 77 (.int .i64 y::(.int .i64 y_2::(cellsX T66 y_3++(.own 1001::(.own 1002::[])))))),(1001,.arr 64 (.pair (.int .i64) (.int .i64)) y_4),(1002,.arr 45 (.sl (.int .i64)) y_5)] ?_
    rcases Bool.eq_false_or_eq_true (decide (slot=0)) with hb16|hb16
    ·rw [if_pos hb16] at h
     have hz17:slot=0:=by simpa using hb16
     refine zT [(0,.bp 1000 0),(1,.int .i64 thread),(2,.int .i64 0),(22,.int .i64 0),(23,.ap 1001 2 thread.toNat 0)] [(1000,.box 77 (.int .i64 y::(.int .i64 y_2::(cellsX T66 y_3++(.own 1001::(.own 1002::[])))))),(1001,.arr 64 (.pair (.int .i64) (.int .i64)) y_4),(1002,.arr 45 (.sl (.int .i64)) y_5)] gt ?_
     refine zB [(0,.bp 1000 0),(1,.int .i64 thread),(2,.int .i64 0),(26,.bool (decide ((y_4.getD thread.toNat (0,0)).1<0)))] [(1000,.box 77 (.int .i64 y::(.int .i64 y_2::(cellsX T66 y_3++(.own 1001::(.own 1002::[])))))),(1001,.arr 64 (.pair (.int .i64) (.int .i64)) y_4),(1002,.arr 45 (.sl (.int .i64)) y_5)] ?_
     refine zQ h (fun hb18 h=>?_) (fun hb18 h=>?_)
     ·refine zo ?_
      refine zB [(6,.int .i64 0),(7,.int .i64 5)] [(1000,.box 77 (.int .i64 y::(.int .i64 y_2::(cellsX T66 y_3++(.own 1001::(.own 1002::[])))))),(1001,.arr 64 (.pair (.int .i64) (.int .i64)) y_4),(1002,.arr 45 (.sl (.int .i64)) y_5)] ?_
      refine zr ?_
      obtain rfl:=Option.some.inj h
      exact zR [] [] []
     ·refine zk ?_
      exact AW.weaken (zL [] [] []) (hk_linealref06_Yard_Use_k1 _ h)
    ·rw [if_neg (Bool.eq_false_iff.1 hb16)] at h
     have hz17:slot=1:=by have:=of_decide_eq_false hb16; omega
     refine zT [(0,.bp 1000 0),(1,.int .i64 thread),(2,.int .i64 1),(22,.int .i64 1),(23,.ap 1001 2 thread.toNat 0)] [(1000,.box 77 (.int .i64 y::(.int .i64 y_2::(cellsX T66 y_3++(.own 1001::(.own 1002::[])))))),(1001,.arr 64 (.pair (.int .i64) (.int .i64)) y_4),(1002,.arr 45 (.sl (.int .i64)) y_5)] gt ?_
     refine zB [(0,.bp 1000 0),(1,.int .i64 thread),(2,.int .i64 1),(26,.bool (decide ((y_4.getD thread.toNat (0,0)).2<0)))] [(1000,.box 77 (.int .i64 y::(.int .i64 y_2::(cellsX T66 y_3++(.own 1001::(.own 1002::[])))))),(1001,.arr 64 (.pair (.int .i64) (.int .i64)) y_4),(1002,.arr 45 (.sl (.int .i64)) y_5)] ?_
     refine zQ h (fun hb19 h=>?_) (fun hb19 h=>?_)
     ·refine zo ?_
      refine zB [(6,.int .i64 0),(7,.int .i64 5)] [(1000,.box 77 (.int .i64 y::(.int .i64 y_2::(cellsX T66 y_3++(.own 1001::(.own 1002::[])))))),(1001,.arr 64 (.pair (.int .i64) (.int .i64)) y_4),(1002,.arr 45 (.sl (.int .i64)) y_5)] ?_
      refine zr ?_
      obtain rfl:=Option.some.inj h
      exact zR [] [] []
     ·refine zk ?_
      exact AW.weaken (zL [] [] []) (hk_linealref06_Yard_Use_k1 _ h)
theorem hc_linealref06_Yard_Do (do0:Int) (a:Int) (b:Int) (c:Int) (y:Int) (y_2:Int) (y_3:(El T66)) (y_4:List (Int×Int)) (y_5:List (List Int)) {r:Int×Int×(El T66)×(List (Int×Int))×(List (List Int))} (h:linealref06_Yard_Do do0 a b c y y_2 y_3 y_4 y_5=some r):HC Tryd.prog 18 [(1000,.box 77 (.int .i64 y::(.int .i64 y_2::(cellsX T66 y_3++(.own 1001::(.own 1002::[])))))),(1001,.arr 64 (.pair (.int .i64) (.int .i64)) y_4),(1002,.arr 45 (.sl (.int .i64)) y_5)] [.bp 1000 0,.int .i64 do0,.int .i64 a,.int .i64 b,.int .i64 c] [(1000,.box 77 (.int .i64 y::(.int .i64 y_2::(cellsX T66 r.2.2.1++(.own 1001::(.own 1002::[])))))),(1001,.arr 64 (.pair (.int .i64) (.int .i64)) r.2.2.2.1),(1002,.arr 45 (.sl (.int .i64)) r.2.2.2.2)] (.tup [.int .i64 r.1,.int .i64 r.2.1]):=by
 unfold linealref06_Yard_Do at h
 refine zH Tryd.func18 [.tmp 10,.tmp 11] 74 ?_
 refine zo ?_
 refine zB [(0,.bp 1000 0),(1,.int .i64 do0),(2,.int .i64 a),(3,.int .i64 b),(4,.int .i64 c)] [(1000,.box 77 (.int .i64 y::(.int .i64 y_2::(cellsX T66 y_3++(.own 1001::(.own 1002::[])))))),(1001,.arr 64 (.pair (.int .i64) (.int .i64)) y_4),(1002,.arr 45 (.sl (.int .i64)) y_5)] ?_
 refine AW.have1 (fun _:Unit=>linealref06_Yard_Do_k1 do0 a b c y y_2 y_3 y_4 y_5=some r) (fun _=>⟨fr [(0,.bp 1000 0),(1,.int .i64 do0),(2,.int .i64 a),(3,.int .i64 b),(4,.int .i64 c)],hpGet [(1000,.box 77 (.int .i64 y::(.int .i64 y_2::(cellsX T66 y_3++(.own 1001::(.own 1002::[])))))),(1001,.arr 64 (.pair (.int .i64) (.int .i64)) y_4),(1002,.arr 45 (.sl (.int .i64)) y_5)],gt⟩) (fun _ h=>?_) (fun hk_linealref06_Yard_Do_k1=>?_)
 ·as_aux_lemma =>
   unfold linealref06_Yard_Do_k1 at h
   refine AW.seq ?_
   refine zo ?_
   refine zB [(0,.bp 1000 0),(2,.int .i64 a),(3,.int .i64 b),(4,.int .i64 c),(30,.int .i64 do0)] [(1000,.box 77 (.int .i64 y::(.int .i64 y_2::(cellsX T66 y_3++(.own 1001::(.own 1002::[])))))),(1001,.arr 64 (.pair (.int .i64) (.int .i64)) y_4),(1002,.arr 45 (.sl (.int .i64)) y_5)] ?_
   refine AW.block ?_
   refine zo ?_
   refine zB [(0,.bp 1000 0),(2,.int .i64 a),(3,.int .i64 b),(4,.int .i64 c),(30,.int .i64 do0),(31,.bool (decide (do0=1)))] [(1000,.box 77 (.int .i64 y::(.int .i64 y_2::(cellsX T66 y_3++(.own 1001::(.own 1002::[])))))),(1001,.arr 64 (.pair (.int .i64) (.int .i64)) y_4),(1002,.arr 45 (.sl (.int .i64)) y_5)] ?_
   refine zQ h (fun hb1 h=>?_) (fun hb1 h=>?_)
   ·refine zo ?_
    refine zS 2 [(33,.bp 1000 0),(34,.int .i64 a)] [(1000,.box 77 (.int .i64 y::(.int .i64 y_2::(cellsX T66 y_3++(.own 1001::(.own 1002::[])))))),(1001,.arr 64 (.pair (.int .i64) (.int .i64)) y_4),(1002,.arr 45 (.sl (.int .i64)) y_5)] ?_
    obtain ⟨v0,hv2,h⟩:=Option.bind_eq_some_iff.1 h
    refine zC [] [(1000,1000),(1001,1001),(1002,1002)] (hc_linealref06_Yard_Take a y y_2 y_3 y_4 y_5 hv2) [(35,.tup [.int .i64 v0.1,.int .i64 v0.2.1])] [(1000,.box 77 (.int .i64 y::(.int .i64 y_2::(cellsX T66 v0.2.2++(.own 1001::(.own 1002::[])))))),(1001,.arr 64 (.pair (.int .i64) (.int .i64)) y_4),(1002,.arr 45 (.sl (.int .i64)) y_5)] ?_
    refine zB [(10,.int .i64 v0.1),(11,.int .i64 v0.2.1)] [(1000,.box 77 (.int .i64 y::(.int .i64 y_2::(cellsX T66 v0.2.2++(.own 1001::(.own 1002::[])))))),(1001,.arr 64 (.pair (.int .i64) (.int .i64)) y_4),(1002,.arr 45 (.sl (.int .i64)) y_5)] ?_
    refine AW.ret ?_
    refine ablock_r ?_
    refine athen_r ?_
    obtain rfl:=Option.some.inj h
    exact zR [] [] []
   ·refine zo ?_
    refine zB [(0,.bp 1000 0),(2,.int .i64 a),(3,.int .i64 b),(4,.int .i64 c),(30,.int .i64 do0),(38,.bool (decide (do0=2)))] [(1000,.box 77 (.int .i64 y::(.int .i64 y_2::(cellsX T66 y_3++(.own 1001::(.own 1002::[])))))),(1001,.arr 64 (.pair (.int .i64) (.int .i64)) y_4),(1002,.arr 45 (.sl (.int .i64)) y_5)] ?_
    refine zQ h (fun hb3 h=>?_) (fun hb3 h=>?_)
    ·refine zo ?_
     refine zS 4 [(40,.bp 1000 0),(41,.int .i64 a),(42,.int .i64 b),(43,.int .i64 c)] [(1000,.box 77 (.int .i64 y::(.int .i64 y_2::(cellsX T66 y_3++(.own 1001::(.own 1002::[])))))),(1001,.arr 64 (.pair (.int .i64) (.int .i64)) y_4),(1002,.arr 45 (.sl (.int .i64)) y_5)] ?_
     obtain ⟨v0_2,hv4,h⟩:=Option.bind_eq_some_iff.1 h
     refine zC [] [(1000,1000),(1001,1001),(1002,1002)] (hc_linealref06_Yard_Point a b c y y_2 y_3 y_4 y_5 hv4) [(44,.int .i64 v0_2.1)] [(1000,.box 77 (.int .i64 y::(.int .i64 y_2::(cellsX T66 y_3++(.own 1001::(.own 1002::[])))))),(1001,.arr 64 (.pair (.int .i64) (.int .i64)) v0_2.2),(1002,.arr 45 (.sl (.int .i64)) y_5)] ?_
     refine zB [(10,.int .i64 0),(11,.int .i64 v0_2.1)] [(1000,.box 77 (.int .i64 y::(.int .i64 y_2::(cellsX T66 y_3++(.own 1001::(.own 1002::[])))))),(1001,.arr 64 (.pair (.int .i64) (.int .i64)) v0_2.2),(1002,.arr 45 (.sl (.int .i64)) y_5)] ?_
     refine AW.ret ?_
     refine ablock_r ?_
     refine athen_r ?_
     obtain rfl:=Option.some.inj h
     exact zR [] [] []
    ·refine zo ?_
     refine zB [(0,.bp 1000 0),(2,.int .i64 a),(3,.int .i64 b),(30,.int .i64 do0),(45,.bool (decide (do0=3)))] [(1000,.box 77 (.int .i64 y::(.int .i64 y_2::(cellsX T66 y_3++(.own 1001::(.own 1002::[])))))),(1001,.arr 64 (.pair (.int .i64) (.int .i64)) y_4),(1002,.arr 45 (.sl (.int .i64)) y_5)] ?_
     refine zQ h (fun hb5 h=>?_) (fun hb5 h=>?_)
     ·refine zo ?_
      refine zS 3 [(47,.bp 1000 0),(48,.int .i64 a),(49,.int .i64 b)] [(1000,.box 77 (.int .i64 y::(.int .i64 y_2::(cellsX T66 y_3++(.own 1001::(.own 1002::[])))))),(1001,.arr 64 (.pair (.int .i64) (.int .i64)) y_4),(1002,.arr 45 (.sl (.int .i64)) y_5)] ?_
      obtain ⟨v0_3,hv6,h⟩:=Option.bind_eq_some_iff.1 h
      refine zC [] [(1000,1000),(1001,1001),(1002,1002)] (hc_linealref06_Yard_Clear a b y y_2 y_3 y_4 y_5 hv6) [(50,.int .i64 v0_3.1)] [(1000,.box 77 (.int .i64 y::(.int .i64 y_2::(cellsX T66 y_3++(.own 1001::(.own 1002::[])))))),(1001,.arr 64 (.pair (.int .i64) (.int .i64)) v0_3.2),(1002,.arr 45 (.sl (.int .i64)) y_5)] ?_
      refine zB [(10,.int .i64 0),(11,.int .i64 v0_3.1)] [(1000,.box 77 (.int .i64 y::(.int .i64 y_2::(cellsX T66 y_3++(.own 1001::(.own 1002::[])))))),(1001,.arr 64 (.pair (.int .i64) (.int .i64)) v0_3.2),(1002,.arr 45 (.sl (.int .i64)) y_5)] ?_
      refine AW.ret ?_
      refine ablock_r ?_
      refine athen_r ?_
      obtain rfl:=Option.some.inj h
      exact zR [] [] []
     ·refine zo ?_
      refine zB [(0,.bp 1000 0),(2,.int .i64 a),(3,.int .i64 b),(30,.int .i64 do0),(51,.bool (decide (do0=4)))] [(1000,.box 77 (.int .i64 y::(.int .i64 y_2::(cellsX T66 y_3++(.own 1001::(.own 1002::[])))))),(1001,.arr 64 (.pair (.int .i64) (.int .i64)) y_4),(1002,.arr 45 (.sl (.int .i64)) y_5)] ?_
      refine zQ h (fun hb7 h=>?_) (fun hb7 h=>?_)
      ·refine zo ?_
       refine zS 3 [(53,.bp 1000 0),(54,.int .i64 a),(55,.int .i64 b)] [(1000,.box 77 (.int .i64 y::(.int .i64 y_2::(cellsX T66 y_3++(.own 1001::(.own 1002::[])))))),(1001,.arr 64 (.pair (.int .i64) (.int .i64)) y_4),(1002,.arr 45 (.sl (.int .i64)) y_5)] ?_
       obtain ⟨v0_4,hv8,h⟩:=Option.bind_eq_some_iff.1 h
       refine zC [] [(1000,1000),(1001,1001),(1002,1002)] (hc_linealref06_Yard_PutBy a b y y_2 y_3 y_4 y_5 hv8) [(56,.tup [.int .i64 v0_4.1,.int .i64 v0_4.2.1])] [(1000,.box 77 (.int .i64 y::(.int .i64 y_2::(cellsX T66 v0_4.2.2.1++(.own 1001::(.own 1002::[])))))),(1001,.arr 64 (.pair (.int .i64) (.int .i64)) y_4),(1002,.arr 45 (.sl (.int .i64)) v0_4.2.2.2)] ?_
       refine zB [(10,.int .i64 v0_4.1),(11,.int .i64 v0_4.2.1)] [(1000,.box 77 (.int .i64 y::(.int .i64 y_2::(cellsX T66 v0_4.2.2.1++(.own 1001::(.own 1002::[])))))),(1001,.arr 64 (.pair (.int .i64) (.int .i64)) y_4),(1002,.arr 45 (.sl (.int .i64)) v0_4.2.2.2)] ?_
       refine AW.ret ?_
       refine ablock_r ?_
       refine athen_r ?_
       obtain rfl:=Option.some.inj h
       exact zR [] [] []
      ·refine zo ?_
       refine zB [(0,.bp 1000 0),(2,.int .i64 a),(3,.int .i64 b),(30,.int .i64 do0),(59,.bool (decide (do0=5)))] [(1000,.box 77 (.int .i64 y::(.int .i64 y_2::(cellsX T66 y_3++(.own 1001::(.own 1002::[])))))),(1001,.arr 64 (.pair (.int .i64) (.int .i64)) y_4),(1002,.arr 45 (.sl (.int .i64)) y_5)] ?_
       refine zQ h (fun hb9 h=>?_) (fun hb9 h=>?_)
       ·refine zo ?_
        refine zS 2 [(61,.bp 1000 0),(62,.int .i64 a)] [(1000,.box 77 (.int .i64 y::(.int .i64 y_2::(cellsX T66 y_3++(.own 1001::(.own 1002::[])))))),(1001,.arr 64 (.pair (.int .i64) (.int .i64)) y_4),(1002,.arr 45 (.sl (.int .i64)) y_5)] ?_
        obtain ⟨v0_5,hv10,h⟩:=Option.bind_eq_some_iff.1 h
        refine zC [] [(1000,1000),(1001,1001),(1002,1002)] (hc_linealref06_Yard_Sweep a y y_2 y_3 y_4 y_5 hv10) [(63,.tup [.int .i64 v0_5.1,.int .i64 v0_5.2.1])] [(1000,.box 77 (.int .i64 y::(.int .i64 y_2::(cellsX T66 v0_5.2.2.1++(.own 1001::(.own 1002::[])))))),(1001,.arr 64 (.pair (.int .i64) (.int .i64)) y_4),(1002,.arr 45 (.sl (.int .i64)) v0_5.2.2.2)] ?_
        refine zB [(10,.int .i64 v0_5.1),(11,.int .i64 v0_5.2.1)] [(1000,.box 77 (.int .i64 y::(.int .i64 y_2::(cellsX T66 v0_5.2.2.1++(.own 1001::(.own 1002::[])))))),(1001,.arr 64 (.pair (.int .i64) (.int .i64)) y_4),(1002,.arr 45 (.sl (.int .i64)) v0_5.2.2.2)] ?_
        refine AW.ret ?_
        refine ablock_r ?_
        refine athen_r ?_
        obtain rfl:=Option.some.inj h
        exact zR [] [] []
       ·refine zo ?_
        refine zB [(0,.bp 1000 0),(2,.int .i64 a),(3,.int .i64 b),(66,.bool (decide (do0=6)))] [(1000,.box 77 (.int .i64 y::(.int .i64 y_2::(cellsX T66 y_3++(.own 1001::(.own 1002::[])))))),(1001,.arr 64 (.pair (.int .i64) (.int .i64)) y_4),(1002,.arr 45 (.sl (.int .i64)) y_5)] ?_
        refine zQ h (fun hb11 h=>?_) (fun hb11 h=>?_)
        ·refine zo ?_
         refine zS 3 [(68,.bp 1000 0),(69,.int .i64 a),(70,.int .i64 b)] [(1000,.box 77 (.int .i64 y::(.int .i64 y_2::(cellsX T66 y_3++(.own 1001::(.own 1002::[])))))),(1001,.arr 64 (.pair (.int .i64) (.int .i64)) y_4),(1002,.arr 45 (.sl (.int .i64)) y_5)] ?_
         obtain ⟨v0_6,hv12,h⟩:=Option.bind_eq_some_iff.1 h
         refine zC [] [(1000,1000),(1001,1001),(1002,1002)] (hc_linealref06_Yard_Use a b y y_2 y_3 y_4 y_5 hv12) [(71,.tup [.int .i64 v0_6.1,.int .i64 v0_6.2])] [(1000,.box 77 (.int .i64 y::(.int .i64 y_2::(cellsX T66 y_3++(.own 1001::(.own 1002::[])))))),(1001,.arr 64 (.pair (.int .i64) (.int .i64)) y_4),(1002,.arr 45 (.sl (.int .i64)) y_5)] ?_
         refine zB [(10,.int .i64 v0_6.1),(11,.int .i64 v0_6.2)] [(1000,.box 77 (.int .i64 y::(.int .i64 y_2::(cellsX T66 y_3++(.own 1001::(.own 1002::[])))))),(1001,.arr 64 (.pair (.int .i64) (.int .i64)) y_4),(1002,.arr 45 (.sl (.int .i64)) y_5)] ?_
         refine AW.ret ?_
         refine ablock_r ?_
         refine athen_r ?_
         obtain rfl:=Option.some.inj h
         exact zR [] [] []
        ·refine zm ?_
         refine athen_n ?_
         refine zo ?_
         refine zB [(10,.int .i64 0),(11,.int .i64 2)] [(1000,.box 77 (.int .i64 y::(.int .i64 y_2::(cellsX T66 y_3++(.own 1001::(.own 1002::[])))))),(1001,.arr 64 (.pair (.int .i64) (.int .i64)) y_4),(1002,.arr 45 (.sl (.int .i64)) y_5)] ?_
         refine AW.ret ?_
         obtain rfl:=Option.some.inj h
         exact zR [] [] []
 ·refine AW.seq ?_
  refine zo ?_
  refine zS 3 [(0,.bp 1000 0),(1,.int .i64 do0),(2,.int .i64 a),(3,.int .i64 b),(4,.int .i64 c),(14,.bool (!(decide (do0=2))))] [(1000,.box 77 (.int .i64 y::(.int .i64 y_2::(cellsX T66 y_3++(.own 1001::(.own 1002::[])))))),(1001,.arr 64 (.pair (.int .i64) (.int .i64)) y_4),(1002,.arr 45 (.sl (.int .i64)) y_5)] ?_
  rcases zI h with ⟨hb13,h⟩|⟨hb13,h⟩
  ·refine zS 4 [(0,.bp 1000 0),(1,.int .i64 do0),(2,.int .i64 a),(3,.int .i64 b),(4,.int .i64 c),(18,.bool (!(decide (c=0))))] [(1000,.box 77 (.int .i64 y::(.int .i64 y_2::(cellsX T66 y_3++(.own 1001::(.own 1002::[])))))),(1001,.arr 64 (.pair (.int .i64) (.int .i64)) y_4),(1002,.arr 45 (.sl (.int .i64)) y_5)] ?_
   rcases zI h with ⟨hb14,h⟩|⟨hb14,h⟩
   ·refine zS 4 [(0,.bp 1000 0),(1,.int .i64 do0),(2,.int .i64 a),(3,.int .i64 b),(4,.int .i64 c),(18,.bool true),(21,.cv (undef)),(22,.cv (undef))] [(1000,.box 77 (.int .i64 y::(.int .i64 y_2::(cellsX T66 y_3++(.own 1001::(.own 1002::[])))))),(1001,.arr 64 (.pair (.int .i64) (.int .i64)) y_4),(1002,.arr 45 (.sl (.int .i64)) y_5)] ?_
    refine zS 4 [(0,.bp 1000 0),(1,.int .i64 do0),(2,.int .i64 a),(3,.int .i64 b),(4,.int .i64 c),(18,.bool true),(21,.cv (undef)),(24,.cv (undef)),(26,.cv (undef))] [(1000,.box 77 (.int .i64 y::(.int .i64 y_2::(cellsX T66 y_3++(.own 1001::(.own 1002::[])))))),(1001,.arr 64 (.pair (.int .i64) (.int .i64)) y_4),(1002,.arr 45 (.sl (.int .i64)) y_5)] ?_
    refine zB [(0,.bp 1000 0),(1,.int .i64 do0),(2,.int .i64 a),(3,.int .i64 b),(4,.int .i64 c),(29,.bool true)] [(1000,.box 77 (.int .i64 y::(.int .i64 y_2::(cellsX T66 y_3++(.own 1001::(.own 1002::[])))))),(1001,.arr 64 (.pair (.int .i64) (.int .i64)) y_4),(1002,.arr 45 (.sl (.int .i64)) y_5)] ?_
    refine AW.cond (b:=true) rfl (fun _=>?_) (fun hb15=>by cases hb15)
    refine zo ?_
    refine zB [(10,.int .i64 0),(11,.int .i64 2)] [(1000,.box 77 (.int .i64 y::(.int .i64 y_2::(cellsX T66 y_3++(.own 1001::(.own 1002::[])))))),(1001,.arr 64 (.pair (.int .i64) (.int .i64)) y_4),(1002,.arr 45 (.sl (.int .i64)) y_5)] ?_
    refine zr ?_
    obtain rfl:=Option.some.inj h
    exact zR [] [] []
   ·refine zS 3 [(0,.bp 1000 0),(1,.int .i64 do0),(2,.int .i64 a),(3,.int .i64 b),(4,.int .i64 c),(18,.bool false),(21,.bool (!(decide (b=0))))] [(1000,.box 77 (.int .i64 y::(.int .i64 y_2::(cellsX T66 y_3++(.own 1001::(.own 1002::[])))))),(1001,.arr 64 (.pair (.int .i64) (.int .i64)) y_4),(1002,.arr 45 (.sl (.int .i64)) y_5)] ?_
    rcases zI h with ⟨hb16,h⟩|⟨hb16,h⟩
    ·refine zS 3 [(0,.bp 1000 0),(1,.int .i64 do0),(2,.int .i64 a),(3,.int .i64 b),(4,.int .i64 c),(18,.bool false),(21,.bool true),(24,.bool (decide (do0=1)))] [(1000,.box 77 (.int .i64 y::(.int .i64 y_2::(cellsX T66 y_3++(.own 1001::(.own 1002::[])))))),(1001,.arr 64 (.pair (.int .i64) (.int .i64)) y_4),(1002,.arr 45 (.sl (.int .i64)) y_5)] ?_
     rcases zI h with ⟨hb17,h⟩|⟨hb17,h⟩
     ·refine zB [(0,.bp 1000 0),(1,.int .i64 do0),(2,.int .i64 a),(3,.int .i64 b),(4,.int .i64 c),(29,.bool true)] [(1000,.box 77 (.int .i64 y::(.int .i64 y_2::(cellsX T66 y_3++(.own 1001::(.own 1002::[])))))),(1001,.arr 64 (.pair (.int .i64) (.int .i64)) y_4),(1002,.arr 45 (.sl (.int .i64)) y_5)] ?_
      refine AW.cond (b:=true) rfl (fun _=>?_) (fun hb18=>by cases hb18)
      refine zo ?_
      refine zB [(10,.int .i64 0),(11,.int .i64 2)] [(1000,.box 77 (.int .i64 y::(.int .i64 y_2::(cellsX T66 y_3++(.own 1001::(.own 1002::[])))))),(1001,.arr 64 (.pair (.int .i64) (.int .i64)) y_4),(1002,.arr 45 (.sl (.int .i64)) y_5)] ?_
      refine zr ?_
      obtain rfl:=Option.some.inj h
      exact zR [] [] []
     ·refine zB [(0,.bp 1000 0),(1,.int .i64 do0),(2,.int .i64 a),(3,.int .i64 b),(4,.int .i64 c),(29,.bool (decide (do0=5)))] [(1000,.box 77 (.int .i64 y::(.int .i64 y_2::(cellsX T66 y_3++(.own 1001::(.own 1002::[])))))),(1001,.arr 64 (.pair (.int .i64) (.int .i64)) y_4),(1002,.arr 45 (.sl (.int .i64)) y_5)] ?_
      refine zQ h (fun hb19 h=>?_) (fun hb19 h=>?_)
      ·refine zo ?_
       refine zB [(10,.int .i64 0),(11,.int .i64 2)] [(1000,.box 77 (.int .i64 y::(.int .i64 y_2::(cellsX T66 y_3++(.own 1001::(.own 1002::[])))))),(1001,.arr 64 (.pair (.int .i64) (.int .i64)) y_4),(1002,.arr 45 (.sl (.int .i64)) y_5)] ?_
       refine zr ?_
       obtain rfl:=Option.some.inj h
       exact zR [] [] []
      ·refine zk ?_
       exact AW.weaken (zL [] [] []) (hk_linealref06_Yard_Do_k1 () h)
    ·refine zS 4 [(0,.bp 1000 0),(1,.int .i64 do0),(2,.int .i64 a),(3,.int .i64 b),(4,.int .i64 c),(18,.bool false),(21,.bool false),(24,.cv (undef)),(25,.cv (undef))] [(1000,.box 77 (.int .i64 y::(.int .i64 y_2::(cellsX T66 y_3++(.own 1001::(.own 1002::[])))))),(1001,.arr 64 (.pair (.int .i64) (.int .i64)) y_4),(1002,.arr 45 (.sl (.int .i64)) y_5)] ?_
     refine zB [(0,.bp 1000 0),(1,.int .i64 do0),(2,.int .i64 a),(3,.int .i64 b),(4,.int .i64 c),(29,.bool false)] [(1000,.box 77 (.int .i64 y::(.int .i64 y_2::(cellsX T66 y_3++(.own 1001::(.own 1002::[])))))),(1001,.arr 64 (.pair (.int .i64) (.int .i64)) y_4),(1002,.arr 45 (.sl (.int .i64)) y_5)] ?_
     refine AW.cond (b:=false) rfl (fun hb20=>by cases hb20) (fun _=>?_)
     refine zk ?_
     exact AW.weaken (zL [] [] []) (hk_linealref06_Yard_Do_k1 () h)
  ·refine zS 5 [(0,.bp 1000 0),(1,.int .i64 do0),(2,.int .i64 a),(3,.int .i64 b),(4,.int .i64 c),(18,.bool false),(19,.int .i64 b)] [(1000,.box 77 (.int .i64 y::(.int .i64 y_2::(cellsX T66 y_3++(.own 1001::(.own 1002::[])))))),(1001,.arr 64 (.pair (.int .i64) (.int .i64)) y_4),(1002,.arr 45 (.sl (.int .i64)) y_5)] ?_
   refine zS 2 [(0,.bp 1000 0),(1,.int .i64 do0),(2,.int .i64 a),(3,.int .i64 b),(4,.int .i64 c),(18,.bool false),(21,.bool (!(decide (b=0))))] [(1000,.box 77 (.int .i64 y::(.int .i64 y_2::(cellsX T66 y_3++(.own 1001::(.own 1002::[])))))),(1001,.arr 64 (.pair (.int .i64) (.int .i64)) y_4),(1002,.arr 45 (.sl (.int .i64)) y_5)] ?_
   rcases zI h with ⟨hb21,h⟩|⟨hb21,h⟩
   ·refine zS 3 [(0,.bp 1000 0),(1,.int .i64 do0),(2,.int .i64 a),(3,.int .i64 b),(4,.int .i64 c),(18,.bool false),(21,.bool true),(24,.bool (decide (do0=1)))] [(1000,.box 77 (.int .i64 y::(.int .i64 y_2::(cellsX T66 y_3++(.own 1001::(.own 1002::[])))))),(1001,.arr 64 (.pair (.int .i64) (.int .i64)) y_4),(1002,.arr 45 (.sl (.int .i64)) y_5)] ?_
    rcases zI h with ⟨hb22,h⟩|⟨hb22,h⟩
    ·refine zB [(0,.bp 1000 0),(1,.int .i64 do0),(2,.int .i64 a),(3,.int .i64 b),(4,.int .i64 c),(29,.bool true)] [(1000,.box 77 (.int .i64 y::(.int .i64 y_2::(cellsX T66 y_3++(.own 1001::(.own 1002::[])))))),(1001,.arr 64 (.pair (.int .i64) (.int .i64)) y_4),(1002,.arr 45 (.sl (.int .i64)) y_5)] ?_
     refine AW.cond (b:=true) rfl (fun _=>?_) (fun hb23=>by cases hb23)
     refine zo ?_
     refine zB [(10,.int .i64 0),(11,.int .i64 2)] [(1000,.box 77 (.int .i64 y::(.int .i64 y_2::(cellsX T66 y_3++(.own 1001::(.own 1002::[])))))),(1001,.arr 64 (.pair (.int .i64) (.int .i64)) y_4),(1002,.arr 45 (.sl (.int .i64)) y_5)] ?_
     refine zr ?_
     obtain rfl:=Option.some.inj h
     exact zR [] [] []
    ·refine zB [(0,.bp 1000 0),(1,.int .i64 do0),(2,.int .i64 a),(3,.int .i64 b),(4,.int .i64 c),(29,.bool (decide (do0=5)))] [(1000,.box 77 (.int .i64 y::(.int .i64 y_2::(cellsX T66 y_3++(.own 1001::(.own 1002::[])))))),(1001,.arr 64 (.pair (.int .i64) (.int .i64)) y_4),(1002,.arr 45 (.sl (.int .i64)) y_5)] ?_
     refine zQ h (fun hb24 h=>?_) (fun hb24 h=>?_)
     ·refine zo ?_
      refine zB [(10,.int .i64 0),(11,.int .i64 2)] [(1000,.box 77 (.int .i64 y::(.int .i64 y_2::(cellsX T66 y_3++(.own 1001::(.own 1002::[])))))),(1001,.arr 64 (.pair (.int .i64) (.int .i64)) y_4),(1002,.arr 45 (.sl (.int .i64)) y_5)] ?_
      refine zr ?_
      obtain rfl:=Option.some.inj h
      exact zR [] [] []
     ·refine zk ?_
      exact AW.weaken (zL [] [] []) (hk_linealref06_Yard_Do_k1 () h)
   ·refine zS 4 [(0,.bp 1000 0),(1,.int .i64 do0),(2,.int .i64 a),(3,.int .i64 b),(4,.int .i64 c),(18,.bool false),(21,.bool false),(24,.cv (undef)),(25,.cv (undef))] [(1000,.box 77 (.int .i64 y::(.int .i64 y_2::(cellsX T66 y_3++(.own 1001::(.own 1002::[])))))),(1001,.arr 64 (.pair (.int .i64) (.int .i64)) y_4),(1002,.arr 45 (.sl (.int .i64)) y_5)] ?_
    refine zB [(0,.bp 1000 0),(1,.int .i64 do0),(2,.int .i64 a),(3,.int .i64 b),(4,.int .i64 c),(29,.bool false)] [(1000,.box 77 (.int .i64 y::(.int .i64 y_2::(cellsX T66 y_3++(.own 1001::(.own 1002::[])))))),(1001,.arr 64 (.pair (.int .i64) (.int .i64)) y_4),(1002,.arr 45 (.sl (.int .i64)) y_5)] ?_
    refine AW.cond (b:=false) rfl (fun hb25=>by cases hb25) (fun _=>?_)
    refine zk ?_
    exact AW.weaken (zL [] [] []) (hk_linealref06_Yard_Do_k1 () h)
theorem hc_lineallaw06_isOne (e:Int) (threads:Int) (size:Int) {r:Bool} (h:lineallaw06_isOne e threads size=some r):HC Tryd.prog 13 [] [.cv (.pointer none),.int .i64 e,.int .i64 threads,.int .i64 size] [] (.bool r):=by
 unfold lineallaw06_isOne at h
 refine zH Tryd.func13 [.tmp 8] 25 ?_
 refine zo ?_
 refine zB [(0,.cv (.pointer none)),(1,.int .i64 e),(2,.int .i64 threads),(3,.int .i64 size)] [] ?_
 refine AW.seq ?_
 refine zo ?_
 refine zS 2 [(0,.cv (.pointer none)),(1,.int .i64 e),(9,.int .i64 threads),(10,.int .i64 size)] [] ?_
 obtain ⟨v0,hv1,h⟩:=Option.bind_eq_some_iff.1 h
 refine zC [] [] (hc_linealref06_IsNew threads size hv1) [(0,.cv (.pointer none)),(1,.int .i64 e),(11,.bool v0)] [] ?_
 refine zB [(0,.cv (.pointer none)),(1,.int .i64 e),(12,.bool (!v0))] [] ?_
 refine zQ h (fun hb2 h=>?_) (fun hb2 h=>?_)
 ·refine zo ?_
  refine zS 1 [(1,.int .i64 e),(13,.cv (.pointer none))] [] ?_
  refine AO.ptrNil (neg:=false) (p:=true) (by decide) (.inl rfl) (by kernel_rfl) rfl rfl rfl ?_
  refine zT [(1,.int .i64 e),(14,.bool true)] [] gt ?_
  refine zB [(8,.bool (decide (e=2)))] [] ?_
  refine zr ?_
  obtain rfl:=Option.some.inj h
  exact zR [] [] []
 ·refine zk ?_
  refine zo ?_
  refine zS 1 [(1,.int .i64 e),(19,.cv (.pointer none))] [] ?_
  refine AO.ptrNil (neg:=true) (p:=true) (by decide) (.inl rfl) (by kernel_rfl) rfl rfl rfl ?_
  refine zT [(1,.int .i64 e),(20,.bool false)] [] gt ?_
  refine zB [(8,.bool false)] [] ?_
  refine AW.ret ?_
  obtain rfl:=Option.some.inj h
  exact zR [] [] []
theorem hc_lineallaw06_isOne_2 (e:Int) (threads:Int) (size:Int) (y:Int×Int×(El T63)×(El T65)×(El T69)) {r:Bool} (h:lineallaw06_isOne_2 e threads size y=some r):HC Tryd.prog 13 [(1000,.box 71 (.int .i64 y.1::(.int .i64 y.2.1::(cellsX T63 y.2.2.1++(cellsX T65 y.2.2.2.1++(cellsX T69 y.2.2.2.2))))))] [.bp 1000 0,.int .i64 e,.int .i64 threads,.int .i64 size] [(1000,.box 71 (.int .i64 y.1::(.int .i64 y.2.1::(cellsX T63 y.2.2.1++(cellsX T65 y.2.2.2.1++(cellsX T69 y.2.2.2.2))))))] (.bool r):=by
 unfold lineallaw06_isOne_2 at h
 refine zH Tryd.func13 [.tmp 8] 25 ?_
 refine zo ?_
 refine zB [(0,.bp 1000 0),(1,.int .i64 e),(2,.int .i64 threads),(3,.int .i64 size)] [(1000,.box 71 (.int .i64 y.1::(.int .i64 y.2.1::(cellsX T63 y.2.2.1++(cellsX T65 y.2.2.2.1++(cellsX T69 y.2.2.2.2))))))] ?_
 refine AW.seq ?_
 refine zo ?_
 refine zS 2 [(0,.bp 1000 0),(1,.int .i64 e),(9,.int .i64 threads),(10,.int .i64 size)] [(1000,.box 71 (.int .i64 y.1::(.int .i64 y.2.1::(cellsX T63 y.2.2.1++(cellsX T65 y.2.2.2.1++(cellsX T69 y.2.2.2.2))))))] ?_
 obtain ⟨v0,hv1,h⟩:=Option.bind_eq_some_iff.1 h
 refine zC [] [] (hc_linealref06_IsNew threads size hv1) [(0,.bp 1000 0),(1,.int .i64 e),(11,.bool v0)] [(1000,.box 71 (.int .i64 y.1::(.int .i64 y.2.1::(cellsX T63 y.2.2.1++(cellsX T65 y.2.2.2.1++(cellsX T69 y.2.2.2.2))))))] ?_
 refine zB [(0,.bp 1000 0),(1,.int .i64 e),(12,.bool (!v0))] [(1000,.box 71 (.int .i64 y.1::(.int .i64 y.2.1::(cellsX T63 y.2.2.1++(cellsX T65 y.2.2.2.1++(cellsX T69 y.2.2.2.2))))))] ?_
 refine zQ h (fun hb2 h=>?_) (fun hb2 h=>?_)
 ·refine zo ?_
  refine zS 1 [(1,.int .i64 e),(13,.bp 1000 0)] [(1000,.box 71 (.int .i64 y.1::(.int .i64 y.2.1::(cellsX T63 y.2.2.1++(cellsX T65 y.2.2.2.1++(cellsX T69 y.2.2.2.2))))))] ?_
  refine AO.ptrNil (neg:=false) (p:=false) (by decide) (.inl rfl) (by kernel_rfl) rfl rfl rfl ?_
  refine zT [(1,.int .i64 e),(14,.bool false)] [(1000,.box 71 (.int .i64 y.1::(.int .i64 y.2.1::(cellsX T63 y.2.2.1++(cellsX T65 y.2.2.2.1++(cellsX T69 y.2.2.2.2))))))] gt ?_
  refine zB [(8,.bool false)] [(1000,.box 71 (.int .i64 y.1::(.int .i64 y.2.1::(cellsX T63 y.2.2.1++(cellsX T65 y.2.2.2.1++(cellsX T69 y.2.2.2.2))))))] ?_
  refine zr ?_
  obtain rfl:=Option.some.inj h
  exact zR [] [] []
 ·refine zk ?_
  refine zo ?_
  refine zS 1 [(1,.int .i64 e),(19,.bp 1000 0)] [(1000,.box 71 (.int .i64 y.1::(.int .i64 y.2.1::(cellsX T63 y.2.2.1++(cellsX T65 y.2.2.2.1++(cellsX T69 y.2.2.2.2))))))] ?_
  refine AO.ptrNil (neg:=true) (p:=false) (by decide) (.inl rfl) (by kernel_rfl) rfl rfl rfl ?_
  refine zT [(1,.int .i64 e),(20,.bool true)] [(1000,.box 71 (.int .i64 y.1::(.int .i64 y.2.1::(cellsX T63 y.2.2.1++(cellsX T65 y.2.2.2.1++(cellsX T69 y.2.2.2.2))))))] gt ?_
  refine zB [(8,.bool (decide (e=0)))] [(1000,.box 71 (.int .i64 y.1::(.int .i64 y.2.1::(cellsX T63 y.2.2.1++(cellsX T65 y.2.2.2.1++(cellsX T69 y.2.2.2.2))))))] ?_
  refine AW.ret ?_
  obtain rfl:=Option.some.inj h
  exact zR [] [] []
theorem hc_linealref06_Yard_Count (state:Int) (y:Int) (y_2:Int) (y_3:(El T66)) (y_4:List (Int×Int)) (y_5:List (List Int)) {r:Int} (h:linealref06_Yard_Count state y y_2 y_3 y_4 y_5=some r):HC Tryd.prog 51 [(1000,.box 77 (.int .i64 y::(.int .i64 y_2::(cellsX T66 y_3++(.own 1001::(.own 1002::[])))))),(1001,.arr 64 (.pair (.int .i64) (.int .i64)) y_4),(1002,.arr 45 (.sl (.int .i64)) y_5)] [.bp 1000 0,.int .i64 state] [(1000,.box 77 (.int .i64 y::(.int .i64 y_2::(cellsX T66 y_3++(.own 1001::(.own 1002::[])))))),(1001,.arr 64 (.pair (.int .i64) (.int .i64)) y_4),(1002,.arr 45 (.sl (.int .i64)) y_5)] (.int .i64 r):=by
 unfold linealref06_Yard_Count at h
 refine zH Tryd.func51 [.tmp 4] 22 ?_
 refine zo ?_
 refine zB [(0,.bp 1000 0),(1,.int .i64 state)] [(1000,.box 77 (.int .i64 y::(.int .i64 y_2::(cellsX T66 y_3++(.own 1001::(.own 1002::[])))))),(1001,.arr 64 (.pair (.int .i64) (.int .i64)) y_4),(1002,.arr 45 (.sl (.int .i64)) y_5)] ?_
 refine zo ?_
 refine zB [(0,.bp 1000 0),(1,.int .i64 state),(5,.int .i64 0)] [(1000,.box 77 (.int .i64 y::(.int .i64 y_2::(cellsX T66 y_3++(.own 1001::(.own 1002::[])))))),(1001,.arr 64 (.pair (.int .i64) (.int .i64)) y_4),(1002,.arr 45 (.sl (.int .i64)) y_5)] ?_
 refine AW.have1 (fun b1:Int=>linealref06_Yard_Count_k1 b1=some r) (fun b1=>⟨fr [(5,.int .i64 b1)],hpGet [(1000,.box 77 (.int .i64 y::(.int .i64 y_2::(cellsX T66 y_3++(.own 1001::(.own 1002::[])))))),(1001,.arr 64 (.pair (.int .i64) (.int .i64)) y_4),(1002,.arr 45 (.sl (.int .i64)) y_5)],gt⟩) (fun b1 h=>?_) (fun hk_linealref06_Yard_Count_k1=>?_)
 ·as_aux_lemma =>
   unfold linealref06_Yard_Count_k1 at h
   refine zo ?_
   refine zB [(4,.int .i64 b1)] [(1000,.box 77 (.int .i64 y::(.int .i64 y_2::(cellsX T66 y_3++(.own 1001::(.own 1002::[])))))),(1001,.arr 64 (.pair (.int .i64) (.int .i64)) y_4),(1002,.arr 45 (.sl (.int .i64)) y_5)] ?_
   refine AW.ret ?_
   obtain rfl:=Option.some.inj h
   exact zR [] [] []
 ·refine AW.seq ?_
  refine zo ?_
  refine zB [(0,.bp 1000 0),(1,.int .i64 state),(5,.int .i64 0),(6,.int .i64 0)] [(1000,.box 77 (.int .i64 y::(.int .i64 y_2::(cellsX T66 y_3++(.own 1001::(.own 1002::[])))))),(1001,.arr 64 (.pair (.int .i64) (.int .i64)) y_4),(1002,.arr 45 (.sl (.int .i64)) y_5)] ?_
  refine AW.block ?_
  obtain ⟨rv5,hw1,ho2⟩:=Option.bind_eq_some_iff.1 h
  refine AW.loopO (linealref06_Yard_Count_b1 state y_3) (fun st1=>⟨fr [(0,.bp 1000 0),(1,.int .i64 state),(5,.int .i64 st1.1),(6,.int .i64 st1.2)],hpGet [(1000,.box 77 (.int .i64 y::(.int .i64 y_2::(cellsX T66 y_3++(.own 1001::(.own 1002::[])))))),(1001,.arr 64 (.pair (.int .i64) (.int .i64)) y_4),(1002,.arr 45 (.sl (.int .i64)) y_5)],gt⟩) (0,0) hw1 (zL [] [] []) ?_
  as_aux_lemma =>
   intro st1 x4 h hd3
   unfold linealref06_Yard_Count_b1 at h
   refine AW.seq ?_
   refine zo ?_
   refine zB [(0,.bp 1000 0),(1,.int .i64 state),(5,.int .i64 st1.1),(6,.int .i64 st1.2),(8,.bool (decide (st1.2<8)))] [(1000,.box 77 (.int .i64 y::(.int .i64 y_2::(cellsX T66 y_3++(.own 1001::(.own 1002::[])))))),(1001,.arr 64 (.pair (.int .i64) (.int .i64)) y_4),(1002,.arr 45 (.sl (.int .i64)) y_5)] ?_
   refine zQ h (fun hb6 h=>?_) (fun hb6 h=>?_)
   ·refine zk ?_
    refine AW.seq ?_
    refine AW.block ?_
    refine zo ?_
    obtain ⟨c7,h⟩:=ck_some.1 h
    obtain ⟨c8,h⟩:=ck_some.1 h
    refine zS 5 [(0,.bp 1000 0),(1,.int .i64 state),(5,.int .i64 st1.1),(6,.int .i64 st1.2),(15,.bp 1000 (2+st1.2.toNat*1))] [(1000,.box 77 (.int .i64 y::(.int .i64 y_2::(cellsX T66 y_3++(.own 1001::(.own 1002::[])))))),(1001,.arr 64 (.pair (.int .i64) (.int .i64)) y_4),(1002,.arr 45 (.sl (.int .i64)) y_5)] ?_
    have hx9:(st1.2.toNat*1)<8:=by omega
    refine zB [(0,.bp 1000 0),(1,.int .i64 state),(5,.int .i64 st1.1),(6,.int .i64 st1.2),(18,.bool (decide ((intAt T66 y_3 (st1.2.toNat*1))=state)))] [(1000,.box 77 (.int .i64 y::(.int .i64 y_2::(cellsX T66 y_3++(.own 1001::(.own 1002::[])))))),(1001,.arr 64 (.pair (.int .i64) (.int .i64)) y_4),(1002,.arr 45 (.sl (.int .i64)) y_5)] ?_
    refine zQ h (fun hb10 h=>?_) (fun hb10 h=>?_)
    ·refine AW.ops ?_
     obtain ⟨c11,h⟩:=ck_some.1 h
     refine zA [(0,.bp 1000 0),(1,.int .i64 state),(5,.int .i64 (st1.1+1)),(6,.int .i64 st1.2)] [(1000,.box 77 (.int .i64 y::(.int .i64 y_2::(cellsX T66 y_3++(.own 1001::(.own 1002::[])))))),(1001,.arr 64 (.pair (.int .i64) (.int .i64)) y_4),(1002,.arr 45 (.sl (.int .i64)) y_5)] ?_
     refine ablock_n ?_
     refine athen_n ?_
     refine AW.ops ?_
     obtain ⟨c12,h⟩:=ck_some.1 h
     refine zA [(0,.bp 1000 0),(1,.int .i64 state),(5,.int .i64 (st1.1+1)),(6,.int .i64 (st1.2+1))] [(1000,.box 77 (.int .i64 y::(.int .i64 y_2::(cellsX T66 y_3++(.own 1001::(.own 1002::[])))))),(1001,.arr 64 (.pair (.int .i64) (.int .i64)) y_4),(1002,.arr 45 (.sl (.int .i64)) y_5)] ?_
     obtain rfl:=Option.some.inj h
     exact ⟨_,rfl,zL [] [] []⟩
    ·refine zm ?_
     refine athen_n ?_
     refine AW.ops ?_
     obtain ⟨c13,h⟩:=ck_some.1 h
     refine zA [(0,.bp 1000 0),(1,.int .i64 state),(5,.int .i64 st1.1),(6,.int .i64 (st1.2+1))] [(1000,.box 77 (.int .i64 y::(.int .i64 y_2::(cellsX T66 y_3++(.own 1001::(.own 1002::[])))))),(1001,.arr 64 (.pair (.int .i64) (.int .i64)) y_4),(1002,.arr 45 (.sl (.int .i64)) y_5)] ?_
     obtain rfl:=Option.some.inj h
     exact ⟨_,rfl,zL [] [] []⟩
   ·refine AW.exit ?_
    refine athen_e ?_
    obtain rfl:=Option.some.inj h
    rw [← hd3 _ rfl] at ho2
    have h:=ho2
    refine athen_e ?_
    refine ablock_s ?_
    refine athen_n ?_
    exact AW.weaken (zL [] [] []) (hk_linealref06_Yard_Count_k1 _ h)
end Go.Proofs.YtcckpmeepcoafaaDoor
