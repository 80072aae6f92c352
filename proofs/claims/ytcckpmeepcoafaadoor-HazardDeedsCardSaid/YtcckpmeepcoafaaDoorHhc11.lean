import Derived.Test.YtcckpmeepcoafaaDoorHzp
import Derived.Test.YtcckpmeepcoafaaDoorShz
import Derived.Test.YtcckpmeepcoafaaDoorHhc9
namespace Go.Proofs.YtcckpmeepcoafaaDoor
open Go.RowKit
set_option linter.unusedSimpArgs false
set_option linter.unusedVariables false
set_option linter.constructorNameAsVariable false
set_option maxRecDepth 100000
set_option maxHeartbeats 40000000
theorem hc_linealref06_Yard_Held (y:Int) (y_2:Int) (y_3:(El T66)) (y_4:List (Int×Int)) (y_5:List (List Int)) {r:(List Int)} (h:linealref06_Yard_Held y y_2 y_3 y_4 y_5=some r):HC Tryd.prog 52 [(1000,.box 77 (.int .i64 y::(.int .i64 y_2::(cellsX T66 y_3++(.own 1001::(.own 1002::[])))))),(1001,.arr 64 (.pair (.int .i64) (.int .i64)) y_4),(1002,.arr 45 (.sl (.int .i64)) y_5)] [.bp 1000 0] [(1000,.box 77 (.int .i64 y::(.int .i64 y_2::(cellsX T66 y_3++(.own 1001::(.own 1002::[])))))),(1001,.arr 64 (.pair (.int .i64) (.int .i64)) y_4),(1002,.arr 45 (.sl (.int .i64)) y_5),(2000,.arr 3 (.int .i64) r)] (.own 2000):=by
 unfold linealref06_Yard_Held at h
 refine zH Tryd.func52 [.tmp 2] 17 ?_
 refine zo ?_
 refine zB [(0,.bp 1000 0)] [(1000,.box 77 (.int .i64 y::(.int .i64 y_2::(cellsX T66 y_3++(.own 1001::(.own 1002::[])))))),(1001,.arr 64 (.pair (.int .i64) (.int .i64)) y_4),(1002,.arr 45 (.sl (.int .i64)) y_5)] ?_
 refine zo ?_
 refine zB [(0,.bp 1000 0),(3,.cv (.slice none 0 0))] [(1000,.box 77 (.int .i64 y::(.int .i64 y_2::(cellsX T66 y_3++(.own 1001::(.own 1002::[])))))),(1001,.arr 64 (.pair (.int .i64) (.int .i64)) y_4),(1002,.arr 45 (.sl (.int .i64)) y_5)] ?_
 refine AW.have1 (fun b1:(List Int)=>linealref06_Yard_Held_k1 b1=some r) (fun b1=>⟨fr [(3,.own 15)],hpGet [(15,.arr 3 (.int .i64) b1),(1000,.box 77 (.int .i64 y::(.int .i64 y_2::(cellsX T66 y_3++(.own 1001::(.own 1002::[])))))),(1001,.arr 64 (.pair (.int .i64) (.int .i64)) y_4),(1002,.arr 45 (.sl (.int .i64)) y_5)],gt⟩) (fun b1 h=>?_) (fun hk_linealref06_Yard_Held_k1=>?_)
 ·as_aux_lemma =>
   unfold linealref06_Yard_Held_k1 at h
   refine zo ?_
   refine zB [(2,.own 15)] [(15,.arr 3 (.int .i64) b1),(1000,.box 77 (.int .i64 y::(.int .i64 y_2::(cellsX T66 y_3++(.own 1001::(.own 1002::[])))))),(1001,.arr 64 (.pair (.int .i64) (.int .i64)) y_4),(1002,.arr 45 (.sl (.int .i64)) y_5)] ?_
   refine AW.ret ?_
   obtain rfl:=Option.some.inj h
   exact zR [] [] [(2000,15)]
 ·refine AW.seq ?_
  refine zo ?_
  refine zB [(0,.bp 1000 0),(3,.cv (.slice none 0 0)),(4,.int .i64 0)] [(1000,.box 77 (.int .i64 y::(.int .i64 y_2::(cellsX T66 y_3++(.own 1001::(.own 1002::[])))))),(1001,.arr 64 (.pair (.int .i64) (.int .i64)) y_4),(1002,.arr 45 (.sl (.int .i64)) y_5)] ?_
  refine AW.block ?_
  obtain ⟨rv5,hw1,ho2⟩:=Option.bind_eq_some_iff.1 h
  refine AW.loopO (linealref06_Yard_Held_b1 y y_2 y_3 y_4 y_5) (fun st1=>⟨fr [(0,.bp 1000 0),(3,.own 15),(4,.int .i64 st1.2)],hpGet [(15,.arr 3 (.int .i64) st1.1),(1000,.box 77 (.int .i64 y::(.int .i64 y_2::(cellsX T66 y_3++(.own 1001::(.own 1002::[])))))),(1001,.arr 64 (.pair (.int .i64) (.int .i64)) y_4),(1002,.arr 45 (.sl (.int .i64)) y_5)],gt⟩) ([],0) hw1 (zL [] [15] []) ?_
  as_aux_lemma =>
   intro st1 x4 h hd3
   unfold linealref06_Yard_Held_b1 at h
   refine AW.seq ?_
   refine zo ?_
   refine zB [(0,.bp 1000 0),(3,.own 15),(4,.int .i64 st1.2),(6,.bool (decide (st1.2<8)))] [(15,.arr 3 (.int .i64) st1.1),(1000,.box 77 (.int .i64 y::(.int .i64 y_2::(cellsX T66 y_3++(.own 1001::(.own 1002::[])))))),(1001,.arr 64 (.pair (.int .i64) (.int .i64)) y_4),(1002,.arr 45 (.sl (.int .i64)) y_5)] ?_
   refine zQ h (fun hb6 h=>?_) (fun hb6 h=>?_)
   ·refine zk ?_
    refine AW.seq ?_
    refine AW.block ?_
    refine zo ?_
    refine zS 2 [(0,.bp 1000 0),(3,.own 15),(4,.int .i64 st1.2),(9,.bp 1000 0),(10,.int .i64 st1.2)] [(15,.arr 3 (.int .i64) st1.1),(1000,.box 77 (.int .i64 y::(.int .i64 y_2::(cellsX T66 y_3++(.own 1001::(.own 1002::[])))))),(1001,.arr 64 (.pair (.int .i64) (.int .i64)) y_4),(1002,.arr 45 (.sl (.int .i64)) y_5)] ?_
    obtain ⟨v0,hv7,h⟩:=Option.bind_eq_some_iff.1 h
    refine zC [] [(1000,1000),(1001,1001),(1002,1002)] (hc_linealref06_Yard_IsHeld st1.2 y y_2 y_3 y_4 y_5 hv7) [(0,.bp 1000 0),(3,.own 15),(4,.int .i64 st1.2),(11,.bool v0)] [(15,.arr 3 (.int .i64) st1.1),(1000,.box 77 (.int .i64 y::(.int .i64 y_2::(cellsX T66 y_3++(.own 1001::(.own 1002::[])))))),(1001,.arr 64 (.pair (.int .i64) (.int .i64)) y_4),(1002,.arr 45 (.sl (.int .i64)) y_5)] ?_
    refine zB [(0,.bp 1000 0),(3,.own 15),(4,.int .i64 st1.2),(11,.bool v0)] [(15,.arr 3 (.int .i64) st1.1),(1000,.box 77 (.int .i64 y::(.int .i64 y_2::(cellsX T66 y_3++(.own 1001::(.own 1002::[])))))),(1001,.arr 64 (.pair (.int .i64) (.int .i64)) y_4),(1002,.arr 45 (.sl (.int .i64)) y_5)] ?_
    refine zQ h (fun hb8 h=>?_) (fun hb8 h=>?_)
    ·refine AW.ops ?_
     obtain ⟨c9,h⟩:=ck_some.1 h
     refine zA [(0,.bp 1000 0),(3,.own 15),(4,.int .i64 st1.2)] [(15,.arr 3 (.int .i64) (st1.1++[st1.2])),(1000,.box 77 (.int .i64 y::(.int .i64 y_2::(cellsX T66 y_3++(.own 1001::(.own 1002::[])))))),(1001,.arr 64 (.pair (.int .i64) (.int .i64)) y_4),(1002,.arr 45 (.sl (.int .i64)) y_5)] ?_
     refine ablock_n ?_
     refine athen_n ?_
     refine AW.ops ?_
     obtain ⟨c10,h⟩:=ck_some.1 h
     refine zA [(0,.bp 1000 0),(3,.own 15),(4,.int .i64 (st1.2+1))] [(15,.arr 3 (.int .i64) (st1.1++[st1.2])),(1000,.box 77 (.int .i64 y::(.int .i64 y_2::(cellsX T66 y_3++(.own 1001::(.own 1002::[])))))),(1001,.arr 64 (.pair (.int .i64) (.int .i64)) y_4),(1002,.arr 45 (.sl (.int .i64)) y_5)] ?_
     obtain rfl:=Option.some.inj h
     exact ⟨_,rfl,zL [] [] []⟩
    ·refine zm ?_
     refine athen_n ?_
     refine AW.ops ?_
     obtain ⟨c11,h⟩:=ck_some.1 h
     refine zA [(0,.bp 1000 0),(3,.own 15),(4,.int .i64 (st1.2+1))] [(15,.arr 3 (.int .i64) st1.1),(1000,.box 77 (.int .i64 y::(.int .i64 y_2::(cellsX T66 y_3++(.own 1001::(.own 1002::[])))))),(1001,.arr 64 (.pair (.int .i64) (.int .i64)) y_4),(1002,.arr 45 (.sl (.int .i64)) y_5)] ?_
     obtain rfl:=Option.some.inj h
     exact ⟨_,rfl,zL [] [] []⟩
   ·refine AW.exit ?_
    refine athen_e ?_
    obtain rfl:=Option.some.inj h
    rw [← hd3 _ rfl] at ho2
    have h:=ho2
    refine athen_e ?_
    refine ablock_s ?_
    refine athen_n ?_
    exact AW.weaken (zL [] [] []) (hk_linealref06_Yard_Held_k1 _ h)
end Go.Proofs.YtcckpmeepcoafaaDoor
