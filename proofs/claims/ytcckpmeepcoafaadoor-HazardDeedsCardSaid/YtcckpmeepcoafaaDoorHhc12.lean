import Derived.Test.YtcckpmeepcoafaaDoorHzp
import Derived.Test.YtcckpmeepcoafaaDoorShz
import Derived.Test.YtcckpmeepcoafaaDoorHhc10
import Derived.Test.YtcckpmeepcoafaaDoorHhc11
import Derived.Test.YtcckpmeepcoafaaDoorHhc7
import Derived.Test.YtcckpmeepcoafaaDoorHhc8
namespace Go.Proofs.YtcckpmeepcoafaaDoor
open Go.RowKit
set_option linter.unusedSimpArgs false
set_option linter.unusedVariables false
set_option linter.constructorNameAsVariable false
set_option maxRecDepth 100000
set_option maxHeartbeats 40000000
theorem hc_lineallaw06_Is (y:Int×Int×(El T63)×(El T65)×(El T69)) (r0:Int) (r0_2:Int) (r0_3:(El T66)) (r0_4:List (Int×Int)) (r0_5:List (List Int)) {r:Bool} (h:lineallaw06_Is y r0 r0_2 r0_3 r0_4 r0_5=some r):HC Tryd.prog 19 [(1000,.box 71 (.int .i64 y.1::(.int .i64 y.2.1::(cellsX T63 y.2.2.1++(cellsX T65 y.2.2.2.1++(cellsX T69 y.2.2.2.2)))))),(1001,.box 77 (.int .i64 r0::(.int .i64 r0_2::(cellsX T66 r0_3++(.own 1002::(.own 1003::[])))))),(1002,.arr 64 (.pair (.int .i64) (.int .i64)) r0_4),(1003,.arr 45 (.sl (.int .i64)) r0_5)] [.bp 1000 0,.bp 1001 0] [(1000,.box 71 (.int .i64 y.1::(.int .i64 y.2.1::(cellsX T63 y.2.2.1++(cellsX T65 y.2.2.2.1++(cellsX T69 y.2.2.2.2)))))),(1001,.box 77 (.int .i64 r0::(.int .i64 r0_2::(cellsX T66 r0_3++(.own 1002::(.own 1003::[])))))),(1002,.arr 64 (.pair (.int .i64) (.int .i64)) r0_4),(1003,.arr 45 (.sl (.int .i64)) r0_5)] (.bool r):=by
 unfold lineallaw06_Is at h
 refine zH Tryd.func19 [.tmp 4] 110 ?_
 refine zo ?_
 refine zB [(0,.bp 1000 0),(1,.bp 1001 0)] [(1000,.box 71 (.int .i64 y.1::(.int .i64 y.2.1::(cellsX T63 y.2.2.1++(cellsX T65 y.2.2.2.1++(cellsX T69 y.2.2.2.2)))))),(1001,.box 77 (.int .i64 r0::(.int .i64 r0_2::(cellsX T66 r0_3++(.own 1002::(.own 1003::[])))))),(1002,.arr 64 (.pair (.int .i64) (.int .i64)) r0_4),(1003,.arr 45 (.sl (.int .i64)) r0_5)] ?_
 refine AW.seq ?_
 refine zo ?_
 refine zS 1 [(0,.bp 1000 0),(1,.bp 1001 0),(14,.bp 1000 0)] [(1000,.box 71 (.int .i64 y.1::(.int .i64 y.2.1::(cellsX T63 y.2.2.1++(cellsX T65 y.2.2.2.1++(cellsX T69 y.2.2.2.2)))))),(1001,.box 77 (.int .i64 r0::(.int .i64 r0_2::(cellsX T66 r0_3++(.own 1002::(.own 1003::[])))))),(1002,.arr 64 (.pair (.int .i64) (.int .i64)) r0_4),(1003,.arr 45 (.sl (.int .i64)) r0_5)] ?_
 obtain ⟨v0,hv1,h⟩:=Option.bind_eq_some_iff.1 h
 refine zC [] [(1000,1000)] (hc_hazard_Yard_By y hv1) [(0,.bp 1000 0),(1,.bp 1001 0),(15,.int .i64 v0)] [(1000,.box 71 (.int .i64 y.1::(.int .i64 y.2.1::(cellsX T63 y.2.2.1++(cellsX T65 y.2.2.2.1++(cellsX T69 y.2.2.2.2)))))),(1001,.box 77 (.int .i64 r0::(.int .i64 r0_2::(cellsX T66 r0_3++(.own 1002::(.own 1003::[])))))),(1002,.arr 64 (.pair (.int .i64) (.int .i64)) r0_4),(1003,.arr 45 (.sl (.int .i64)) r0_5)] ?_
 refine zS 1 [(0,.bp 1000 0),(1,.bp 1001 0),(15,.int .i64 v0),(16,.bp 1001 0)] [(1000,.box 71 (.int .i64 y.1::(.int .i64 y.2.1::(cellsX T63 y.2.2.1++(cellsX T65 y.2.2.2.1++(cellsX T69 y.2.2.2.2)))))),(1001,.box 77 (.int .i64 r0::(.int .i64 r0_2::(cellsX T66 r0_3++(.own 1002::(.own 1003::[])))))),(1002,.arr 64 (.pair (.int .i64) (.int .i64)) r0_4),(1003,.arr 45 (.sl (.int .i64)) r0_5)] ?_
 obtain ⟨v0_2,hv2,h⟩:=Option.bind_eq_some_iff.1 h
 refine zC [] [(1000,1001),(1001,1002),(1002,1003)] (hc_linealref06_Yard_Count 2 r0 r0_2 r0_3 r0_4 r0_5 hv2) [(0,.bp 1000 0),(1,.bp 1001 0),(15,.int .i64 v0),(17,.int .i64 v0_2)] [(1000,.box 71 (.int .i64 y.1::(.int .i64 y.2.1::(cellsX T63 y.2.2.1++(cellsX T65 y.2.2.2.1++(cellsX T69 y.2.2.2.2)))))),(1001,.box 77 (.int .i64 r0::(.int .i64 r0_2::(cellsX T66 r0_3++(.own 1002::(.own 1003::[])))))),(1002,.arr 64 (.pair (.int .i64) (.int .i64)) r0_4),(1003,.arr 45 (.sl (.int .i64)) r0_5)] ?_
 refine zS 2 [(0,.bp 1000 0),(1,.bp 1001 0),(19,.bool (!(decide (v0=v0_2))))] [(1000,.box 71 (.int .i64 y.1::(.int .i64 y.2.1::(cellsX T63 y.2.2.1++(cellsX T65 y.2.2.2.1++(cellsX T69 y.2.2.2.2)))))),(1001,.box 77 (.int .i64 r0::(.int .i64 r0_2::(cellsX T66 r0_3++(.own 1002::(.own 1003::[])))))),(1002,.arr 64 (.pair (.int .i64) (.int .i64)) r0_4),(1003,.arr 45 (.sl (.int .i64)) r0_5)] ?_
 rcases zI h with ⟨hb3,h⟩|⟨hb3,h⟩
 ·refine zS 4 [(0,.bp 1000 0),(1,.bp 1001 0),(19,.bool true),(21,.cv (undef)),(23,.cv (undef))] [(1000,.box 71 (.int .i64 y.1::(.int .i64 y.2.1::(cellsX T63 y.2.2.1++(cellsX T65 y.2.2.2.1++(cellsX T69 y.2.2.2.2)))))),(1001,.box 77 (.int .i64 r0::(.int .i64 r0_2::(cellsX T66 r0_3++(.own 1002::(.own 1003::[])))))),(1002,.arr 64 (.pair (.int .i64) (.int .i64)) r0_4),(1003,.arr 45 (.sl (.int .i64)) r0_5)] ?_
  refine zS 5 [(0,.bp 1000 0),(1,.bp 1001 0),(26,.bool true),(28,.cv (undef))] [(1000,.box 71 (.int .i64 y.1::(.int .i64 y.2.1::(cellsX T63 y.2.2.1++(cellsX T65 y.2.2.2.1++(cellsX T69 y.2.2.2.2)))))),(1001,.box 77 (.int .i64 r0::(.int .i64 r0_2::(cellsX T66 r0_3++(.own 1002::(.own 1003::[])))))),(1002,.arr 64 (.pair (.int .i64) (.int .i64)) r0_4),(1003,.arr 45 (.sl (.int .i64)) r0_5)] ?_
  refine zS 4 [(0,.bp 1000 0),(1,.bp 1001 0),(26,.bool true),(32,.cv (undef))] [(1000,.box 71 (.int .i64 y.1::(.int .i64 y.2.1::(cellsX T63 y.2.2.1++(cellsX T65 y.2.2.2.1++(cellsX T69 y.2.2.2.2)))))),(1001,.box 77 (.int .i64 r0::(.int .i64 r0_2::(cellsX T66 r0_3++(.own 1002::(.own 1003::[])))))),(1002,.arr 64 (.pair (.int .i64) (.int .i64)) r0_4),(1003,.arr 45 (.sl (.int .i64)) r0_5)] ?_
  refine zB [(0,.bp 1000 0),(1,.bp 1001 0),(33,.bool true)] [(1000,.box 71 (.int .i64 y.1::(.int .i64 y.2.1::(cellsX T63 y.2.2.1++(cellsX T65 y.2.2.2.1++(cellsX T69 y.2.2.2.2)))))),(1001,.box 77 (.int .i64 r0::(.int .i64 r0_2::(cellsX T66 r0_3++(.own 1002::(.own 1003::[])))))),(1002,.arr 64 (.pair (.int .i64) (.int .i64)) r0_4),(1003,.arr 45 (.sl (.int .i64)) r0_5)] ?_
  refine AW.cond (b:=true) rfl (fun _=>?_) (fun hb4=>by cases hb4)
  refine zo ?_
  refine zB [(4,.bool false)] [(1000,.box 71 (.int .i64 y.1::(.int .i64 y.2.1::(cellsX T63 y.2.2.1++(cellsX T65 y.2.2.2.1++(cellsX T69 y.2.2.2.2)))))),(1001,.box 77 (.int .i64 r0::(.int .i64 r0_2::(cellsX T66 r0_3++(.own 1002::(.own 1003::[])))))),(1002,.arr 64 (.pair (.int .i64) (.int .i64)) r0_4),(1003,.arr 45 (.sl (.int .i64)) r0_5)] ?_
  refine zr ?_
  obtain rfl:=Option.some.inj h
  exact zR [] [] []
 ·refine zS 1 [(0,.bp 1000 0),(1,.bp 1001 0),(19,.bool false),(20,.bp 1000 0)] [(1000,.box 71 (.int .i64 y.1::(.int .i64 y.2.1::(cellsX T63 y.2.2.1++(cellsX T65 y.2.2.2.1++(cellsX T69 y.2.2.2.2)))))),(1001,.box 77 (.int .i64 r0::(.int .i64 r0_2::(cellsX T66 r0_3++(.own 1002::(.own 1003::[])))))),(1002,.arr 64 (.pair (.int .i64) (.int .i64)) r0_4),(1003,.arr 45 (.sl (.int .i64)) r0_5)] ?_
  obtain ⟨v0_3,hv5,h⟩:=Option.bind_eq_some_iff.1 h
  refine zG [] [(1000,1000)] (hc_hazard_Yard_Free y hv5) [(0,.bp 1000 0),(1,.bp 1001 0),(19,.bool false),(21,.int .i64 v0_3)] [(1000,.box 71 (.int .i64 y.1::(.int .i64 y.2.1::(cellsX T63 y.2.2.1++(cellsX T65 y.2.2.2.1++(cellsX T69 y.2.2.2.2)))))),(1001,.box 77 (.int .i64 r0::(.int .i64 r0_2::(cellsX T66 r0_3++(.own 1002::(.own 1003::[])))))),(1002,.arr 64 (.pair (.int .i64) (.int .i64)) r0_4),(1003,.arr 45 (.sl (.int .i64)) r0_5)] ?_
  refine zS 1 [(0,.bp 1000 0),(1,.bp 1001 0),(19,.bool false),(21,.int .i64 v0_3),(22,.bp 1001 0)] [(1000,.box 71 (.int .i64 y.1::(.int .i64 y.2.1::(cellsX T63 y.2.2.1++(cellsX T65 y.2.2.2.1++(cellsX T69 y.2.2.2.2)))))),(1001,.box 77 (.int .i64 r0::(.int .i64 r0_2::(cellsX T66 r0_3++(.own 1002::(.own 1003::[])))))),(1002,.arr 64 (.pair (.int .i64) (.int .i64)) r0_4),(1003,.arr 45 (.sl (.int .i64)) r0_5)] ?_
  obtain ⟨v0_4,hv6,h⟩:=Option.bind_eq_some_iff.1 h
  refine zG [] [(1000,1001),(1001,1002),(1002,1003)] (hc_linealref06_Yard_Count 0 r0 r0_2 r0_3 r0_4 r0_5 hv6) [(0,.bp 1000 0),(1,.bp 1001 0),(19,.bool false),(21,.int .i64 v0_3),(23,.int .i64 v0_4)] [(1000,.box 71 (.int .i64 y.1::(.int .i64 y.2.1::(cellsX T63 y.2.2.1++(cellsX T65 y.2.2.2.1++(cellsX T69 y.2.2.2.2)))))),(1001,.box 77 (.int .i64 r0::(.int .i64 r0_2::(cellsX T66 r0_3++(.own 1002::(.own 1003::[])))))),(1002,.arr 64 (.pair (.int .i64) (.int .i64)) r0_4),(1003,.arr 45 (.sl (.int .i64)) r0_5)] ?_
  refine zS 3 [(0,.bp 1000 0),(1,.bp 1001 0),(26,.bool (!(decide (v0_3=v0_4))))] [(1000,.box 71 (.int .i64 y.1::(.int .i64 y.2.1::(cellsX T63 y.2.2.1++(cellsX T65 y.2.2.2.1++(cellsX T69 y.2.2.2.2)))))),(1001,.box 77 (.int .i64 r0::(.int .i64 r0_2::(cellsX T66 r0_3++(.own 1002::(.own 1003::[])))))),(1002,.arr 64 (.pair (.int .i64) (.int .i64)) r0_4),(1003,.arr 45 (.sl (.int .i64)) r0_5)] ?_
  rcases zI h with ⟨hb7,h⟩|⟨hb7,h⟩
  ·refine zS 4 [(0,.bp 1000 0),(1,.bp 1001 0),(26,.bool true),(28,.cv (undef)),(30,.cv (undef))] [(1000,.box 71 (.int .i64 y.1::(.int .i64 y.2.1::(cellsX T63 y.2.2.1++(cellsX T65 y.2.2.2.1++(cellsX T69 y.2.2.2.2)))))),(1001,.box 77 (.int .i64 r0::(.int .i64 r0_2::(cellsX T66 r0_3++(.own 1002::(.own 1003::[])))))),(1002,.arr 64 (.pair (.int .i64) (.int .i64)) r0_4),(1003,.arr 45 (.sl (.int .i64)) r0_5)] ?_
   refine zB [(0,.bp 1000 0),(1,.bp 1001 0),(33,.bool true)] [(1000,.box 71 (.int .i64 y.1::(.int .i64 y.2.1::(cellsX T63 y.2.2.1++(cellsX T65 y.2.2.2.1++(cellsX T69 y.2.2.2.2)))))),(1001,.box 77 (.int .i64 r0::(.int .i64 r0_2::(cellsX T66 r0_3++(.own 1002::(.own 1003::[])))))),(1002,.arr 64 (.pair (.int .i64) (.int .i64)) r0_4),(1003,.arr 45 (.sl (.int .i64)) r0_5)] ?_
   refine AW.cond (b:=true) rfl (fun _=>?_) (fun hb8=>by cases hb8)
   refine zo ?_
   refine zB [(4,.bool false)] [(1000,.box 71 (.int .i64 y.1::(.int .i64 y.2.1::(cellsX T63 y.2.2.1++(cellsX T65 y.2.2.2.1++(cellsX T69 y.2.2.2.2)))))),(1001,.box 77 (.int .i64 r0::(.int .i64 r0_2::(cellsX T66 r0_3++(.own 1002::(.own 1003::[])))))),(1002,.arr 64 (.pair (.int .i64) (.int .i64)) r0_4),(1003,.arr 45 (.sl (.int .i64)) r0_5)] ?_
   refine zr ?_
   obtain rfl:=Option.some.inj h
   exact zR [] [] []
  ·refine zS 1 [(0,.bp 1000 0),(1,.bp 1001 0),(26,.bool false),(27,.bp 1000 0)] [(1000,.box 71 (.int .i64 y.1::(.int .i64 y.2.1::(cellsX T63 y.2.2.1++(cellsX T65 y.2.2.2.1++(cellsX T69 y.2.2.2.2)))))),(1001,.box 77 (.int .i64 r0::(.int .i64 r0_2::(cellsX T66 r0_3++(.own 1002::(.own 1003::[])))))),(1002,.arr 64 (.pair (.int .i64) (.int .i64)) r0_4),(1003,.arr 45 (.sl (.int .i64)) r0_5)] ?_
   obtain ⟨v0_5,hv9,h⟩:=Option.bind_eq_some_iff.1 h
   refine zG [] [(1000,1000)] (hc_hazard_Yard_Held y hv9) [(0,.bp 1000 0),(1,.bp 1001 0),(26,.bool false),(28,.own 38000)] [(1000,.box 71 (.int .i64 y.1::(.int .i64 y.2.1::(cellsX T63 y.2.2.1++(cellsX T65 y.2.2.2.1++(cellsX T69 y.2.2.2.2)))))),(1001,.box 77 (.int .i64 r0::(.int .i64 r0_2::(cellsX T66 r0_3++(.own 1002::(.own 1003::[])))))),(1002,.arr 64 (.pair (.int .i64) (.int .i64)) r0_4),(1003,.arr 45 (.sl (.int .i64)) r0_5),(38000,.arr 3 (.int .i64) v0_5)] ?_
   refine zS 1 [(0,.bp 1000 0),(1,.bp 1001 0),(26,.bool false),(28,.own 38000),(29,.bp 1001 0)] [(1000,.box 71 (.int .i64 y.1::(.int .i64 y.2.1::(cellsX T63 y.2.2.1++(cellsX T65 y.2.2.2.1++(cellsX T69 y.2.2.2.2)))))),(1001,.box 77 (.int .i64 r0::(.int .i64 r0_2::(cellsX T66 r0_3++(.own 1002::(.own 1003::[])))))),(1002,.arr 64 (.pair (.int .i64) (.int .i64)) r0_4),(1003,.arr 45 (.sl (.int .i64)) r0_5),(38000,.arr 3 (.int .i64) v0_5)] ?_
   obtain ⟨v0_6,hv10,h⟩:=Option.bind_eq_some_iff.1 h
   refine zG [] [(1000,1001),(1001,1002),(1002,1003)] (hc_linealref06_Yard_Held r0 r0_2 r0_3 r0_4 r0_5 hv10) [(0,.bp 1000 0),(1,.bp 1001 0),(26,.bool false),(28,.own 38000),(30,.own 40000)] [(1000,.box 71 (.int .i64 y.1::(.int .i64 y.2.1::(cellsX T63 y.2.2.1++(cellsX T65 y.2.2.2.1++(cellsX T69 y.2.2.2.2)))))),(1001,.box 77 (.int .i64 r0::(.int .i64 r0_2::(cellsX T66 r0_3++(.own 1002::(.own 1003::[])))))),(1002,.arr 64 (.pair (.int .i64) (.int .i64)) r0_4),(1003,.arr 45 (.sl (.int .i64)) r0_5),(38000,.arr 3 (.int .i64) v0_5),(40000,.arr 3 (.int .i64) v0_6)] ?_
   obtain ⟨v0_7,hv11,h⟩:=Option.bind_eq_some_iff.1 h
   refine zG [38000,40000] [] (hc_linealref06_SameInts v0_5 v0_6 hv11) [(0,.bp 1000 0),(1,.bp 1001 0),(26,.bool false),(31,.bool v0_7)] [(1000,.box 71 (.int .i64 y.1::(.int .i64 y.2.1::(cellsX T63 y.2.2.1++(cellsX T65 y.2.2.2.1++(cellsX T69 y.2.2.2.2)))))),(1001,.box 77 (.int .i64 r0::(.int .i64 r0_2::(cellsX T66 r0_3++(.own 1002::(.own 1003::[])))))),(1002,.arr 64 (.pair (.int .i64) (.int .i64)) r0_4),(1003,.arr 45 (.sl (.int .i64)) r0_5)] ?_
   refine zB [(0,.bp 1000 0),(1,.bp 1001 0),(33,.bool (!v0_7))] [(1000,.box 71 (.int .i64 y.1::(.int .i64 y.2.1::(cellsX T63 y.2.2.1++(cellsX T65 y.2.2.2.1++(cellsX T69 y.2.2.2.2)))))),(1001,.box 77 (.int .i64 r0::(.int .i64 r0_2::(cellsX T66 r0_3++(.own 1002::(.own 1003::[])))))),(1002,.arr 64 (.pair (.int .i64) (.int .i64)) r0_4),(1003,.arr 45 (.sl (.int .i64)) r0_5)] ?_
   refine zQ h (fun hb12 h=>?_) (fun hb12 h=>?_)
   ·refine zo ?_
    refine zB [(4,.bool false)] [(1000,.box 71 (.int .i64 y.1::(.int .i64 y.2.1::(cellsX T63 y.2.2.1++(cellsX T65 y.2.2.2.1++(cellsX T69 y.2.2.2.2)))))),(1001,.box 77 (.int .i64 r0::(.int .i64 r0_2::(cellsX T66 r0_3++(.own 1002::(.own 1003::[])))))),(1002,.arr 64 (.pair (.int .i64) (.int .i64)) r0_4),(1003,.arr 45 (.sl (.int .i64)) r0_5)] ?_
    refine zr ?_
    obtain rfl:=Option.some.inj h
    exact zR [] [] []
   ·refine zk ?_
    refine AW.have1 (fun _:Unit=>lineallaw06_Is_k1 y r0 r0_4 r0_5=some r) (fun _=>⟨fr [(0,.bp 1000 0),(1,.bp 1001 0)],hpGet [(1000,.box 71 (.int .i64 y.1::(.int .i64 y.2.1::(cellsX T63 y.2.2.1++(cellsX T65 y.2.2.2.1++(cellsX T69 y.2.2.2.2)))))),(1001,.box 77 (.int .i64 r0::(.int .i64 r0_2::(cellsX T66 r0_3++(.own 1002::(.own 1003::[])))))),(1002,.arr 64 (.pair (.int .i64) (.int .i64)) r0_4),(1003,.arr 45 (.sl (.int .i64)) r0_5)],gt⟩) (fun _ h=>?_) (fun hk_lineallaw06_Is_k1=>?_)
    ·as_aux_lemma =>
      unfold lineallaw06_Is_k1 at h
      refine AW.have1 (fun _:Unit=>lineallaw06_Is_k2=some r) (fun _=>⟨fr [],hpGet [(1000,.box 71 (.int .i64 y.1::(.int .i64 y.2.1::(cellsX T63 y.2.2.1++(cellsX T65 y.2.2.2.1++(cellsX T69 y.2.2.2.2)))))),(1001,.box 77 (.int .i64 r0::(.int .i64 r0_2::(cellsX T66 r0_3++(.own 1002::(.own 1003::[])))))),(1002,.arr 64 (.pair (.int .i64) (.int .i64)) r0_4),(1003,.arr 45 (.sl (.int .i64)) r0_5)],gt⟩) (fun _ h=>?_) (fun hk_lineallaw06_Is_k2=>?_)
      ·as_aux_lemma =>
        unfold lineallaw06_Is_k2 at h
        refine zo ?_
        refine zB [(4,.bool true)] [(1000,.box 71 (.int .i64 y.1::(.int .i64 y.2.1::(cellsX T63 y.2.2.1++(cellsX T65 y.2.2.2.1++(cellsX T69 y.2.2.2.2)))))),(1001,.box 77 (.int .i64 r0::(.int .i64 r0_2::(cellsX T66 r0_3++(.own 1002::(.own 1003::[])))))),(1002,.arr 64 (.pair (.int .i64) (.int .i64)) r0_4),(1003,.arr 45 (.sl (.int .i64)) r0_5)] ?_
        refine AW.ret ?_
        obtain rfl:=Option.some.inj h
        exact zR [] [] []
      ·refine AW.seq ?_
       refine zo ?_
       refine zB [(0,.bp 1000 0),(1,.bp 1001 0),(8,.int .i64 0)] [(1000,.box 71 (.int .i64 y.1::(.int .i64 y.2.1::(cellsX T63 y.2.2.1++(cellsX T65 y.2.2.2.1++(cellsX T69 y.2.2.2.2)))))),(1001,.box 77 (.int .i64 r0::(.int .i64 r0_2::(cellsX T66 r0_3++(.own 1002::(.own 1003::[])))))),(1002,.arr 64 (.pair (.int .i64) (.int .i64)) r0_4),(1003,.arr 45 (.sl (.int .i64)) r0_5)] ?_
       refine AW.block ?_
       obtain ⟨rv17,hw13,ho14⟩:=Option.bind_eq_some_iff.1 h
       refine AW.loopO (lineallaw06_Is_b2 y r0 r0_4 r0_5) (fun st2=>⟨fr [(0,.bp 1000 0),(1,.bp 1001 0),(8,.int .i64 st2)],hpGet [(1000,.box 71 (.int .i64 y.1::(.int .i64 y.2.1::(cellsX T63 y.2.2.1++(cellsX T65 y.2.2.2.1++(cellsX T69 y.2.2.2.2)))))),(1001,.box 77 (.int .i64 r0::(.int .i64 r0_2::(cellsX T66 r0_3++(.own 1002::(.own 1003::[])))))),(1002,.arr 64 (.pair (.int .i64) (.int .i64)) r0_4),(1003,.arr 45 (.sl (.int .i64)) r0_5)],gt⟩) 0 hw13 (zL [] [] []) ?_
       as_aux_lemma =>
        intro st2 x16 h hd15
        unfold lineallaw06_Is_b2 at h
        refine AW.seq ?_
        refine zo ?_
        refine zS 5 [(0,.bp 1000 0),(1,.bp 1001 0),(8,.int .i64 st2),(56,.int .i64 st2),(60,.int .i64 r0)] [(1000,.box 71 (.int .i64 y.1::(.int .i64 y.2.1::(cellsX T63 y.2.2.1++(cellsX T65 y.2.2.2.1++(cellsX T69 y.2.2.2.2)))))),(1001,.box 77 (.int .i64 r0::(.int .i64 r0_2::(cellsX T66 r0_3++(.own 1002::(.own 1003::[])))))),(1002,.arr 64 (.pair (.int .i64) (.int .i64)) r0_4),(1003,.arr 45 (.sl (.int .i64)) r0_5)] ?_
        refine zB [(0,.bp 1000 0),(1,.bp 1001 0),(8,.int .i64 st2),(61,.bool (decide (st2<r0)))] [(1000,.box 71 (.int .i64 y.1::(.int .i64 y.2.1::(cellsX T63 y.2.2.1++(cellsX T65 y.2.2.2.1++(cellsX T69 y.2.2.2.2)))))),(1001,.box 77 (.int .i64 r0::(.int .i64 r0_2::(cellsX T66 r0_3++(.own 1002::(.own 1003::[])))))),(1002,.arr 64 (.pair (.int .i64) (.int .i64)) r0_4),(1003,.arr 45 (.sl (.int .i64)) r0_5)] ?_
        refine zQ h (fun hb18 h=>?_) (fun hb18 h=>?_)
        ·refine zk ?_
         refine AW.have1 (fun _:Unit=>lineallaw06_Is_k3 st2=some x16) (fun _=>⟨fr [(0,.bp 1000 0),(1,.bp 1001 0),(8,.int .i64 st2)],hpGet [(1000,.box 71 (.int .i64 y.1::(.int .i64 y.2.1::(cellsX T63 y.2.2.1++(cellsX T65 y.2.2.2.1++(cellsX T69 y.2.2.2.2)))))),(1001,.box 77 (.int .i64 r0::(.int .i64 r0_2::(cellsX T66 r0_3++(.own 1002::(.own 1003::[])))))),(1002,.arr 64 (.pair (.int .i64) (.int .i64)) r0_4),(1003,.arr 45 (.sl (.int .i64)) r0_5)],gt⟩) (fun _ h=>?_) (fun hk_lineallaw06_Is_k3=>?_)
         ·as_aux_lemma =>
           unfold lineallaw06_Is_k3 at h
           refine AW.ops ?_
           obtain ⟨c19,h⟩:=ck_some.1 h
           refine zA [(0,.bp 1000 0),(1,.bp 1001 0),(8,.int .i64 (st2+1))] [(1000,.box 71 (.int .i64 y.1::(.int .i64 y.2.1::(cellsX T63 y.2.2.1++(cellsX T65 y.2.2.2.1++(cellsX T69 y.2.2.2.2)))))),(1001,.box 77 (.int .i64 r0::(.int .i64 r0_2::(cellsX T66 r0_3++(.own 1002::(.own 1003::[])))))),(1002,.arr 64 (.pair (.int .i64) (.int .i64)) r0_4),(1003,.arr 45 (.sl (.int .i64)) r0_5)] ?_
           obtain rfl:=Option.some.inj h
           exact ⟨_,rfl,zL [] [] []⟩
         ·refine AW.seq ?_
          refine AW.block ?_
          refine zo ?_
          refine zS 2 [(0,.bp 1000 0),(1,.bp 1001 0),(8,.int .i64 st2),(65,.bp 1000 0),(66,.int .i64 st2)] [(1000,.box 71 (.int .i64 y.1::(.int .i64 y.2.1::(cellsX T63 y.2.2.1++(cellsX T65 y.2.2.2.1++(cellsX T69 y.2.2.2.2)))))),(1001,.box 77 (.int .i64 r0::(.int .i64 r0_2::(cellsX T66 r0_3++(.own 1002::(.own 1003::[])))))),(1002,.arr 64 (.pair (.int .i64) (.int .i64)) r0_4),(1003,.arr 45 (.sl (.int .i64)) r0_5)] ?_
          obtain ⟨v0_9,hv20,h⟩:=Option.bind_eq_some_iff.1 h
          refine zC [] [(1000,1000)] (hc_hazard_Yard_List st2 y hv20) [(0,.bp 1000 0),(1,.bp 1001 0),(8,.int .i64 st2),(67,.tup [.own 77000,.int .i64 v0_9.2])] [(1000,.box 71 (.int .i64 y.1::(.int .i64 y.2.1::(cellsX T63 y.2.2.1++(cellsX T65 y.2.2.2.1++(cellsX T69 y.2.2.2.2)))))),(1001,.box 77 (.int .i64 r0::(.int .i64 r0_2::(cellsX T66 r0_3++(.own 1002::(.own 1003::[])))))),(1002,.arr 64 (.pair (.int .i64) (.int .i64)) r0_4),(1003,.arr 45 (.sl (.int .i64)) r0_5),(77000,.arr 3 (.int .i64) v0_9.1)] ?_
          refine zB [(0,.bp 1000 0),(1,.bp 1001 0),(8,.int .i64 st2),(9,.own 77000),(10,.int .i64 v0_9.2)] [(1000,.box 71 (.int .i64 y.1::(.int .i64 y.2.1::(cellsX T63 y.2.2.1++(cellsX T65 y.2.2.2.1++(cellsX T69 y.2.2.2.2)))))),(1001,.box 77 (.int .i64 r0::(.int .i64 r0_2::(cellsX T66 r0_3++(.own 1002::(.own 1003::[])))))),(1002,.arr 64 (.pair (.int .i64) (.int .i64)) r0_4),(1003,.arr 45 (.sl (.int .i64)) r0_5),(77000,.arr 3 (.int .i64) v0_9.1)] ?_
          refine AW.seq ?_
          refine zo ?_
          refine zS 3 [(0,.bp 1000 0),(1,.bp 1001 0),(8,.int .i64 st2),(9,.own 77000),(72,.bool (!(decide (v0_9.2=0))))] [(1000,.box 71 (.int .i64 y.1::(.int .i64 y.2.1::(cellsX T63 y.2.2.1++(cellsX T65 y.2.2.2.1++(cellsX T69 y.2.2.2.2)))))),(1001,.box 77 (.int .i64 r0::(.int .i64 r0_2::(cellsX T66 r0_3++(.own 1002::(.own 1003::[])))))),(1002,.arr 64 (.pair (.int .i64) (.int .i64)) r0_4),(1003,.arr 45 (.sl (.int .i64)) r0_5),(77000,.arr 3 (.int .i64) v0_9.1)] ?_
          rcases zI h with ⟨hb21,h⟩|⟨hb21,h⟩
          ·refine zS 4 [(0,.bp 1000 0),(1,.bp 1001 0),(8,.int .i64 st2),(72,.bool true),(73,.cv (undef)),(76,.cv (undef))] [(1000,.box 71 (.int .i64 y.1::(.int .i64 y.2.1::(cellsX T63 y.2.2.1++(cellsX T65 y.2.2.2.1++(cellsX T69 y.2.2.2.2)))))),(1001,.box 77 (.int .i64 r0::(.int .i64 r0_2::(cellsX T66 r0_3++(.own 1002::(.own 1003::[])))))),(1002,.arr 64 (.pair (.int .i64) (.int .i64)) r0_4),(1003,.arr 45 (.sl (.int .i64)) r0_5)] ?_
           refine zS 4 [(0,.bp 1000 0),(1,.bp 1001 0),(8,.int .i64 st2),(72,.bool true),(73,.cv (undef)),(80,.cv (undef))] [(1000,.box 71 (.int .i64 y.1::(.int .i64 y.2.1::(cellsX T63 y.2.2.1++(cellsX T65 y.2.2.2.1++(cellsX T69 y.2.2.2.2)))))),(1001,.box 77 (.int .i64 r0::(.int .i64 r0_2::(cellsX T66 r0_3++(.own 1002::(.own 1003::[])))))),(1002,.arr 64 (.pair (.int .i64) (.int .i64)) r0_4),(1003,.arr 45 (.sl (.int .i64)) r0_5)] ?_
           refine zB [(0,.bp 1000 0),(1,.bp 1001 0),(8,.int .i64 st2),(83,.bool true)] [(1000,.box 71 (.int .i64 y.1::(.int .i64 y.2.1::(cellsX T63 y.2.2.1++(cellsX T65 y.2.2.2.1++(cellsX T69 y.2.2.2.2)))))),(1001,.box 77 (.int .i64 r0::(.int .i64 r0_2::(cellsX T66 r0_3++(.own 1002::(.own 1003::[])))))),(1002,.arr 64 (.pair (.int .i64) (.int .i64)) r0_4),(1003,.arr 45 (.sl (.int .i64)) r0_5)] ?_
           refine AW.cond (b:=true) rfl (fun _=>?_) (fun hb22=>by cases hb22)
           refine zo ?_
           refine zB [(4,.bool false)] [(1000,.box 71 (.int .i64 y.1::(.int .i64 y.2.1::(cellsX T63 y.2.2.1++(cellsX T65 y.2.2.2.1++(cellsX T69 y.2.2.2.2)))))),(1001,.box 77 (.int .i64 r0::(.int .i64 r0_2::(cellsX T66 r0_3++(.own 1002::(.own 1003::[])))))),(1002,.arr 64 (.pair (.int .i64) (.int .i64)) r0_4),(1003,.arr 45 (.sl (.int .i64)) r0_5)] ?_
           refine zr ?_
           refine ablock_r ?_
           refine athen_r ?_
           obtain rfl:=Option.some.inj h
           try rw [← hd15 _ rfl] at ho14
           have h:=ho14
           try simp only at h
           refine athen_r ?_
           refine ablock_r ?_
           refine athen_r ?_
           obtain rfl:=Option.some.inj h
           exact zR [] [] []
          ·refine zS 5 [(0,.bp 1000 0),(1,.bp 1001 0),(8,.int .i64 st2),(72,.bool false),(73,.own 77000),(77,.own 1003)] [(1000,.box 71 (.int .i64 y.1::(.int .i64 y.2.1::(cellsX T63 y.2.2.1++(cellsX T65 y.2.2.2.1++(cellsX T69 y.2.2.2.2)))))),(1001,.box 77 (.int .i64 r0::(.int .i64 r0_2::(cellsX T66 r0_3++(.own 1002::(.own 1003::[])))))),(1002,.arr 64 (.pair (.int .i64) (.int .i64)) r0_4),(1003,.arr 45 (.sl (.int .i64)) r0_5),(77000,.arr 3 (.int .i64) v0_9.1)] ?_
           obtain ⟨c23,h⟩:=ck_some.1 h
           obtain ⟨c24,h⟩:=ck_some.1 h
           refine zS 3 [(0,.bp 1000 0),(1,.bp 1001 0),(8,.int .i64 st2),(72,.bool false),(73,.own 77000),(80,.sl (.int .i64) (r0_5.getD st2.toNat []))] [(1000,.box 71 (.int .i64 y.1::(.int .i64 y.2.1::(cellsX T63 y.2.2.1++(cellsX T65 y.2.2.2.1++(cellsX T69 y.2.2.2.2)))))),(1001,.box 77 (.int .i64 r0::(.int .i64 r0_2::(cellsX T66 r0_3++(.own 1002::(.own 1003::[])))))),(1002,.arr 64 (.pair (.int .i64) (.int .i64)) r0_4),(1003,.arr 45 (.sl (.int .i64)) r0_5),(77000,.arr 3 (.int .i64) v0_9.1)] ?_
           obtain ⟨v0_10,hv25,h⟩:=Option.bind_eq_some_iff.1 h
           refine zG [77000] [] (hc_linealref06_SameInts v0_9.1 (r0_5.getD st2.toNat []) hv25) [(0,.bp 1000 0),(1,.bp 1001 0),(8,.int .i64 st2),(72,.bool false),(81,.bool v0_10)] [(1000,.box 71 (.int .i64 y.1::(.int .i64 y.2.1::(cellsX T63 y.2.2.1++(cellsX T65 y.2.2.2.1++(cellsX T69 y.2.2.2.2)))))),(1001,.box 77 (.int .i64 r0::(.int .i64 r0_2::(cellsX T66 r0_3++(.own 1002::(.own 1003::[])))))),(1002,.arr 64 (.pair (.int .i64) (.int .i64)) r0_4),(1003,.arr 45 (.sl (.int .i64)) r0_5)] ?_
           refine zB [(0,.bp 1000 0),(1,.bp 1001 0),(8,.int .i64 st2),(83,.bool (!v0_10))] [(1000,.box 71 (.int .i64 y.1::(.int .i64 y.2.1::(cellsX T63 y.2.2.1++(cellsX T65 y.2.2.2.1++(cellsX T69 y.2.2.2.2)))))),(1001,.box 77 (.int .i64 r0::(.int .i64 r0_2::(cellsX T66 r0_3++(.own 1002::(.own 1003::[])))))),(1002,.arr 64 (.pair (.int .i64) (.int .i64)) r0_4),(1003,.arr 45 (.sl (.int .i64)) r0_5)] ?_
           refine zQ h (fun hb26 h=>?_) (fun hb26 h=>?_)
           ·refine zo ?_
            refine zB [(4,.bool false)] [(1000,.box 71 (.int .i64 y.1::(.int .i64 y.2.1::(cellsX T63 y.2.2.1++(cellsX T65 y.2.2.2.1++(cellsX T69 y.2.2.2.2)))))),(1001,.box 77 (.int .i64 r0::(.int .i64 r0_2::(cellsX T66 r0_3++(.own 1002::(.own 1003::[])))))),(1002,.arr 64 (.pair (.int .i64) (.int .i64)) r0_4),(1003,.arr 45 (.sl (.int .i64)) r0_5)] ?_
            refine zr ?_
            refine ablock_r ?_
            refine athen_r ?_
            obtain rfl:=Option.some.inj h
            try rw [← hd15 _ rfl] at ho14
            have h:=ho14
            try simp only at h
            refine athen_r ?_
            refine ablock_r ?_
            refine athen_r ?_
            obtain rfl:=Option.some.inj h
            exact zR [] [] []
           ·refine zk ?_
            refine zo ?_
            refine zB [(0,.bp 1000 0),(1,.bp 1001 0),(8,.int .i64 st2),(11,.int .i64 0)] [(1000,.box 71 (.int .i64 y.1::(.int .i64 y.2.1::(cellsX T63 y.2.2.1++(cellsX T65 y.2.2.2.1++(cellsX T69 y.2.2.2.2)))))),(1001,.box 77 (.int .i64 r0::(.int .i64 r0_2::(cellsX T66 r0_3++(.own 1002::(.own 1003::[])))))),(1002,.arr 64 (.pair (.int .i64) (.int .i64)) r0_4),(1003,.arr 45 (.sl (.int .i64)) r0_5)] ?_
            refine AW.block ?_
            obtain ⟨rv31,hw27,ho28⟩:=Option.bind_eq_some_iff.1 h
            refine AW.loopO (lineallaw06_Is_b3 y r0_4 st2) (fun st3=>⟨fr [(0,.bp 1000 0),(1,.bp 1001 0),(8,.int .i64 st2),(11,.int .i64 st3)],hpGet [(1000,.box 71 (.int .i64 y.1::(.int .i64 y.2.1::(cellsX T63 y.2.2.1++(cellsX T65 y.2.2.2.1++(cellsX T69 y.2.2.2.2)))))),(1001,.box 77 (.int .i64 r0::(.int .i64 r0_2::(cellsX T66 r0_3++(.own 1002::(.own 1003::[])))))),(1002,.arr 64 (.pair (.int .i64) (.int .i64)) r0_4),(1003,.arr 45 (.sl (.int .i64)) r0_5)],gt⟩) 0 hw27 (zL [] [] []) ?_
            as_aux_lemma =>
             intro st3 x30 h hd29
             unfold lineallaw06_Is_b3 at h
             refine AW.seq ?_
             refine zo ?_
             refine zB [(0,.bp 1000 0),(1,.bp 1001 0),(8,.int .i64 st2),(11,.int .i64 st3),(85,.bool (decide (st3<2)))] [(1000,.box 71 (.int .i64 y.1::(.int .i64 y.2.1::(cellsX T63 y.2.2.1++(cellsX T65 y.2.2.2.1++(cellsX T69 y.2.2.2.2)))))),(1001,.box 77 (.int .i64 r0::(.int .i64 r0_2::(cellsX T66 r0_3++(.own 1002::(.own 1003::[])))))),(1002,.arr 64 (.pair (.int .i64) (.int .i64)) r0_4),(1003,.arr 45 (.sl (.int .i64)) r0_5)] ?_
             refine zQ h (fun hb32 h=>?_) (fun hb32 h=>?_)
             ·refine zk ?_
              refine AW.seq ?_
              refine AW.block ?_
              refine zo ?_
              refine zS 3 [(0,.bp 1000 0),(1,.bp 1001 0),(8,.int .i64 st2),(11,.int .i64 st3),(89,.bp 1000 0),(90,.int .i64 st2),(91,.int .i64 st3)] [(1000,.box 71 (.int .i64 y.1::(.int .i64 y.2.1::(cellsX T63 y.2.2.1++(cellsX T65 y.2.2.2.1++(cellsX T69 y.2.2.2.2)))))),(1001,.box 77 (.int .i64 r0::(.int .i64 r0_2::(cellsX T66 r0_3++(.own 1002::(.own 1003::[])))))),(1002,.arr 64 (.pair (.int .i64) (.int .i64)) r0_4),(1003,.arr 45 (.sl (.int .i64)) r0_5)] ?_
              obtain ⟨v0_11,hv33,h⟩:=Option.bind_eq_some_iff.1 h
              refine zC [] [(1000,1000)] (hc_hazard_Yard_Slot st2 st3 y hv33) [(0,.bp 1000 0),(1,.bp 1001 0),(8,.int .i64 st2),(11,.int .i64 st3),(92,.tup [.int .i64 v0_11.1,.int .i64 v0_11.2])] [(1000,.box 71 (.int .i64 y.1::(.int .i64 y.2.1::(cellsX T63 y.2.2.1++(cellsX T65 y.2.2.2.1++(cellsX T69 y.2.2.2.2)))))),(1001,.box 77 (.int .i64 r0::(.int .i64 r0_2::(cellsX T66 r0_3++(.own 1002::(.own 1003::[])))))),(1002,.arr 64 (.pair (.int .i64) (.int .i64)) r0_4),(1003,.arr 45 (.sl (.int .i64)) r0_5)] ?_
              refine zB [(0,.bp 1000 0),(1,.bp 1001 0),(8,.int .i64 st2),(11,.int .i64 st3),(12,.int .i64 v0_11.1),(13,.int .i64 v0_11.2)] [(1000,.box 71 (.int .i64 y.1::(.int .i64 y.2.1::(cellsX T63 y.2.2.1++(cellsX T65 y.2.2.2.1++(cellsX T69 y.2.2.2.2)))))),(1001,.box 77 (.int .i64 r0::(.int .i64 r0_2::(cellsX T66 r0_3++(.own 1002::(.own 1003::[])))))),(1002,.arr 64 (.pair (.int .i64) (.int .i64)) r0_4),(1003,.arr 45 (.sl (.int .i64)) r0_5)] ?_
              refine zo ?_
              refine zS 3 [(0,.bp 1000 0),(1,.bp 1001 0),(8,.int .i64 st2),(11,.int .i64 st3),(12,.int .i64 v0_11.1),(97,.bool (!(decide (v0_11.2=0))))] [(1000,.box 71 (.int .i64 y.1::(.int .i64 y.2.1::(cellsX T63 y.2.2.1++(cellsX T65 y.2.2.2.1++(cellsX T69 y.2.2.2.2)))))),(1001,.box 77 (.int .i64 r0::(.int .i64 r0_2::(cellsX T66 r0_3++(.own 1002::(.own 1003::[])))))),(1002,.arr 64 (.pair (.int .i64) (.int .i64)) r0_4),(1003,.arr 45 (.sl (.int .i64)) r0_5)] ?_
              rcases zI h with ⟨hb34,h⟩|⟨hb34,h⟩
              ·refine zS 4 [(0,.bp 1000 0),(1,.bp 1001 0),(8,.int .i64 st2),(11,.int .i64 st3),(97,.bool true),(98,.cv (undef)),(101,.cv (undef))] [(1000,.box 71 (.int .i64 y.1::(.int .i64 y.2.1::(cellsX T63 y.2.2.1++(cellsX T65 y.2.2.2.1++(cellsX T69 y.2.2.2.2)))))),(1001,.box 77 (.int .i64 r0::(.int .i64 r0_2::(cellsX T66 r0_3++(.own 1002::(.own 1003::[])))))),(1002,.arr 64 (.pair (.int .i64) (.int .i64)) r0_4),(1003,.arr 45 (.sl (.int .i64)) r0_5)] ?_
               refine zS 4 [(0,.bp 1000 0),(1,.bp 1001 0),(8,.int .i64 st2),(11,.int .i64 st3),(97,.bool true),(98,.cv (undef)),(104,.cv (undef)),(105,.cv (undef))] [(1000,.box 71 (.int .i64 y.1::(.int .i64 y.2.1::(cellsX T63 y.2.2.1++(cellsX T65 y.2.2.2.1++(cellsX T69 y.2.2.2.2)))))),(1001,.box 77 (.int .i64 r0::(.int .i64 r0_2::(cellsX T66 r0_3++(.own 1002::(.own 1003::[])))))),(1002,.arr 64 (.pair (.int .i64) (.int .i64)) r0_4),(1003,.arr 45 (.sl (.int .i64)) r0_5)] ?_
               refine zB [(0,.bp 1000 0),(1,.bp 1001 0),(8,.int .i64 st2),(11,.int .i64 st3),(109,.bool true)] [(1000,.box 71 (.int .i64 y.1::(.int .i64 y.2.1::(cellsX T63 y.2.2.1++(cellsX T65 y.2.2.2.1++(cellsX T69 y.2.2.2.2)))))),(1001,.box 77 (.int .i64 r0::(.int .i64 r0_2::(cellsX T66 r0_3++(.own 1002::(.own 1003::[])))))),(1002,.arr 64 (.pair (.int .i64) (.int .i64)) r0_4),(1003,.arr 45 (.sl (.int .i64)) r0_5)] ?_
               refine AW.cond (b:=true) rfl (fun _=>?_) (fun hb35=>by cases hb35)
               refine zo ?_
               refine zB [(4,.bool false)] [(1000,.box 71 (.int .i64 y.1::(.int .i64 y.2.1::(cellsX T63 y.2.2.1++(cellsX T65 y.2.2.2.1++(cellsX T69 y.2.2.2.2)))))),(1001,.box 77 (.int .i64 r0::(.int .i64 r0_2::(cellsX T66 r0_3++(.own 1002::(.own 1003::[])))))),(1002,.arr 64 (.pair (.int .i64) (.int .i64)) r0_4),(1003,.arr 45 (.sl (.int .i64)) r0_5)] ?_
               refine AW.ret ?_
               refine ablock_r ?_
               refine athen_r ?_
               obtain rfl:=Option.some.inj h
               try rw [← hd29 _ rfl] at ho28
               have h:=ho28
               try simp only at h
               refine athen_r ?_
               refine ablock_r ?_
               refine ablock_r ?_
               refine athen_r ?_
               obtain rfl:=Option.some.inj h
               try rw [← hd15 _ rfl] at ho14
               have h:=ho14
               try simp only at h
               refine athen_r ?_
               refine ablock_r ?_
               refine athen_r ?_
               obtain rfl:=Option.some.inj h
               exact zR [] [] []
              ·refine zS 5 [(0,.bp 1000 0),(1,.bp 1001 0),(8,.int .i64 st2),(11,.int .i64 st3),(97,.bool false),(98,.int .i64 v0_11.1),(102,.own 1002)] [(1000,.box 71 (.int .i64 y.1::(.int .i64 y.2.1::(cellsX T63 y.2.2.1++(cellsX T65 y.2.2.2.1++(cellsX T69 y.2.2.2.2)))))),(1001,.box 77 (.int .i64 r0::(.int .i64 r0_2::(cellsX T66 r0_3++(.own 1002::(.own 1003::[])))))),(1002,.arr 64 (.pair (.int .i64) (.int .i64)) r0_4),(1003,.arr 45 (.sl (.int .i64)) r0_5)] ?_
               obtain ⟨c36,h⟩:=ck_some.1 h
               obtain ⟨c37,h⟩:=ck_some.1 h
               obtain ⟨c38,h⟩:=ck_some.1 h
               obtain ⟨c39,h⟩:=ck_some.1 h
               refine zS 3 [(0,.bp 1000 0),(1,.bp 1001 0),(8,.int .i64 st2),(11,.int .i64 st3),(97,.bool false),(98,.int .i64 v0_11.1),(104,.int .i64 st3),(105,.ap 1002 2 st2.toNat 0)] [(1000,.box 71 (.int .i64 y.1::(.int .i64 y.2.1::(cellsX T63 y.2.2.1++(cellsX T65 y.2.2.2.1++(cellsX T69 y.2.2.2.2)))))),(1001,.box 77 (.int .i64 r0::(.int .i64 r0_2::(cellsX T66 r0_3++(.own 1002::(.own 1003::[])))))),(1002,.arr 64 (.pair (.int .i64) (.int .i64)) r0_4),(1003,.arr 45 (.sl (.int .i64)) r0_5)] ?_
               rcases Bool.eq_false_or_eq_true (decide (st3=0)) with hb40|hb40
               ·rw [if_pos hb40] at h
                have hz41:st3=0:=by simpa using hb40
                refine zT [(0,.bp 1000 0),(1,.bp 1001 0),(8,.int .i64 st2),(11,.int .i64 0),(97,.bool false),(98,.int .i64 v0_11.1),(104,.int .i64 0),(105,.ap 1002 2 st2.toNat 0)] [(1000,.box 71 (.int .i64 y.1::(.int .i64 y.2.1::(cellsX T63 y.2.2.1++(cellsX T65 y.2.2.2.1++(cellsX T69 y.2.2.2.2)))))),(1001,.box 77 (.int .i64 r0::(.int .i64 r0_2::(cellsX T66 r0_3++(.own 1002::(.own 1003::[])))))),(1002,.arr 64 (.pair (.int .i64) (.int .i64)) r0_4),(1003,.arr 45 (.sl (.int .i64)) r0_5)] gt ?_
                refine zB [(0,.bp 1000 0),(1,.bp 1001 0),(8,.int .i64 st2),(11,.int .i64 0),(109,.bool (!(decide (v0_11.1=(r0_4.getD st2.toNat (0,0)).1))))] [(1000,.box 71 (.int .i64 y.1::(.int .i64 y.2.1::(cellsX T63 y.2.2.1++(cellsX T65 y.2.2.2.1++(cellsX T69 y.2.2.2.2)))))),(1001,.box 77 (.int .i64 r0::(.int .i64 r0_2::(cellsX T66 r0_3++(.own 1002::(.own 1003::[])))))),(1002,.arr 64 (.pair (.int .i64) (.int .i64)) r0_4),(1003,.arr 45 (.sl (.int .i64)) r0_5)] ?_
                refine zQ h (fun hb42 h=>?_) (fun hb42 h=>?_)
                ·refine zo ?_
                 refine zB [(4,.bool false)] [(1000,.box 71 (.int .i64 y.1::(.int .i64 y.2.1::(cellsX T63 y.2.2.1++(cellsX T65 y.2.2.2.1++(cellsX T69 y.2.2.2.2)))))),(1001,.box 77 (.int .i64 r0::(.int .i64 r0_2::(cellsX T66 r0_3++(.own 1002::(.own 1003::[])))))),(1002,.arr 64 (.pair (.int .i64) (.int .i64)) r0_4),(1003,.arr 45 (.sl (.int .i64)) r0_5)] ?_
                 refine AW.ret ?_
                 refine ablock_r ?_
                 refine athen_r ?_
                 obtain rfl:=Option.some.inj h
                 try rw [← hd29 _ rfl] at ho28
                 have h:=ho28
                 try simp only at h
                 refine athen_r ?_
                 refine ablock_r ?_
                 refine ablock_r ?_
                 refine athen_r ?_
                 obtain rfl:=Option.some.inj h
                 try rw [← hd15 _ rfl] at ho14
                 have h:=ho14
                 try simp only at h
                 refine athen_r ?_
                 refine ablock_r ?_
                 refine athen_r ?_
                 obtain rfl:=Option.some.inj h
                 exact zR [] [] []
                ·refine zm ?_
                 refine athen_n ?_
                 refine AW.ops ?_
                 obtain ⟨c43,h⟩:=ck_some.1 h
                 refine zA [(0,.bp 1000 0),(1,.bp 1001 0),(8,.int .i64 st2),(11,.int .i64 (0+1))] [(1000,.box 71 (.int .i64 y.1::(.int .i64 y.2.1::(cellsX T63 y.2.2.1++(cellsX T65 y.2.2.2.1++(cellsX T69 y.2.2.2.2)))))),(1001,.box 77 (.int .i64 r0::(.int .i64 r0_2::(cellsX T66 r0_3++(.own 1002::(.own 1003::[])))))),(1002,.arr 64 (.pair (.int .i64) (.int .i64)) r0_4),(1003,.arr 45 (.sl (.int .i64)) r0_5)] ?_
                 obtain rfl:=Option.some.inj h
                 exact ⟨_,rfl,zL [] [] []⟩
               ·rw [if_neg (Bool.eq_false_iff.1 hb40)] at h
                have hz41:st3=1:=by have:=of_decide_eq_false hb40; omega
                refine zT [(0,.bp 1000 0),(1,.bp 1001 0),(8,.int .i64 st2),(11,.int .i64 1),(97,.bool false),(98,.int .i64 v0_11.1),(104,.int .i64 1),(105,.ap 1002 2 st2.toNat 0)] [(1000,.box 71 (.int .i64 y.1::(.int .i64 y.2.1::(cellsX T63 y.2.2.1++(cellsX T65 y.2.2.2.1++(cellsX T69 y.2.2.2.2)))))),(1001,.box 77 (.int .i64 r0::(.int .i64 r0_2::(cellsX T66 r0_3++(.own 1002::(.own 1003::[])))))),(1002,.arr 64 (.pair (.int .i64) (.int .i64)) r0_4),(1003,.arr 45 (.sl (.int .i64)) r0_5)] gt ?_
                refine zB [(0,.bp 1000 0),(1,.bp 1001 0),(8,.int .i64 st2),(11,.int .i64 1),(109,.bool (!(decide (v0_11.1=(r0_4.getD st2.toNat (0,0)).2))))] [(1000,.box 71 (.int .i64 y.1::(.int .i64 y.2.1::(cellsX T63 y.2.2.1++(cellsX T65 y.2.2.2.1++(cellsX T69 y.2.2.2.2)))))),(1001,.box 77 (.int .i64 r0::(.int .i64 r0_2::(cellsX T66 r0_3++(.own 1002::(.own 1003::[])))))),(1002,.arr 64 (.pair (.int .i64) (.int .i64)) r0_4),(1003,.arr 45 (.sl (.int .i64)) r0_5)] ?_
                refine zQ h (fun hb44 h=>?_) (fun hb44 h=>?_)
                ·refine zo ?_
                 refine zB [(4,.bool false)] [(1000,.box 71 (.int .i64 y.1::(.int .i64 y.2.1::(cellsX T63 y.2.2.1++(cellsX T65 y.2.2.2.1++(cellsX T69 y.2.2.2.2)))))),(1001,.box 77 (.int .i64 r0::(.int .i64 r0_2::(cellsX T66 r0_3++(.own 1002::(.own 1003::[])))))),(1002,.arr 64 (.pair (.int .i64) (.int .i64)) r0_4),(1003,.arr 45 (.sl (.int .i64)) r0_5)] ?_
                 refine AW.ret ?_
                 refine ablock_r ?_
                 refine athen_r ?_
                 obtain rfl:=Option.some.inj h
                 try rw [← hd29 _ rfl] at ho28
                 have h:=ho28
                 try simp only at h
                 refine athen_r ?_
                 refine ablock_r ?_
                 refine ablock_r ?_
                 refine athen_r ?_
                 obtain rfl:=Option.some.inj h
                 try rw [← hd15 _ rfl] at ho14
                 have h:=ho14
                 try simp only at h
                 refine athen_r ?_
                 refine ablock_r ?_
                 refine athen_r ?_
                 obtain rfl:=Option.some.inj h
                 exact zR [] [] []
                ·refine zm ?_
                 refine athen_n ?_
                 refine AW.ops ?_
                 obtain ⟨c45,h⟩:=ck_some.1 h
                 refine zA [(0,.bp 1000 0),(1,.bp 1001 0),(8,.int .i64 st2),(11,.int .i64 (1+1))] [(1000,.box 71 (.int .i64 y.1::(.int .i64 y.2.1::(cellsX T63 y.2.2.1++(cellsX T65 y.2.2.2.1++(cellsX T69 y.2.2.2.2)))))),(1001,.box 77 (.int .i64 r0::(.int .i64 r0_2::(cellsX T66 r0_3++(.own 1002::(.own 1003::[])))))),(1002,.arr 64 (.pair (.int .i64) (.int .i64)) r0_4),(1003,.arr 45 (.sl (.int .i64)) r0_5)] ?_
                 obtain rfl:=Option.some.inj h
                 exact ⟨_,rfl,zL [] [] []⟩
             ·refine AW.exit ?_
              refine athen_e ?_
              obtain rfl:=Option.some.inj h
              try rw [← hd29 _ rfl] at ho28
              have h:=ho28
              try simp only at h
              refine athen_e ?_
              refine ablock_s ?_
              refine ablock_n ?_
              refine athen_n ?_
              exact AW.weaken (zL [] [] []) (hk_lineallaw06_Is_k3 () h)
        ·refine AW.exit ?_
         refine athen_e ?_
         obtain rfl:=Option.some.inj h
         try rw [← hd15 _ rfl] at ho14
         have h:=ho14
         try simp only at h
         refine athen_e ?_
         refine ablock_s ?_
         refine athen_n ?_
         exact AW.weaken (zL [] [] []) (hk_lineallaw06_Is_k2 () h)
    ·refine AW.seq ?_
     refine zo ?_
     refine zB [(0,.bp 1000 0),(1,.bp 1001 0),(5,.int .i64 0)] [(1000,.box 71 (.int .i64 y.1::(.int .i64 y.2.1::(cellsX T63 y.2.2.1++(cellsX T65 y.2.2.2.1++(cellsX T69 y.2.2.2.2)))))),(1001,.box 77 (.int .i64 r0::(.int .i64 r0_2::(cellsX T66 r0_3++(.own 1002::(.own 1003::[])))))),(1002,.arr 64 (.pair (.int .i64) (.int .i64)) r0_4),(1003,.arr 45 (.sl (.int .i64)) r0_5)] ?_
     refine AW.block ?_
     obtain ⟨rv50,hw46,ho47⟩:=Option.bind_eq_some_iff.1 h
     refine AW.loopO (lineallaw06_Is_b1 y r0_3) (fun st1=>⟨fr [(0,.bp 1000 0),(1,.bp 1001 0),(5,.int .i64 st1)],hpGet [(1000,.box 71 (.int .i64 y.1::(.int .i64 y.2.1::(cellsX T63 y.2.2.1++(cellsX T65 y.2.2.2.1++(cellsX T69 y.2.2.2.2)))))),(1001,.box 77 (.int .i64 r0::(.int .i64 r0_2::(cellsX T66 r0_3++(.own 1002::(.own 1003::[])))))),(1002,.arr 64 (.pair (.int .i64) (.int .i64)) r0_4),(1003,.arr 45 (.sl (.int .i64)) r0_5)],gt⟩) 0 hw46 (zL [] [] []) ?_
     as_aux_lemma =>
      intro st1 x49 h hd48
      unfold lineallaw06_Is_b1 at h
      refine AW.seq ?_
      refine zo ?_
      refine zB [(0,.bp 1000 0),(1,.bp 1001 0),(5,.int .i64 st1),(35,.bool (decide (st1<8)))] [(1000,.box 71 (.int .i64 y.1::(.int .i64 y.2.1::(cellsX T63 y.2.2.1++(cellsX T65 y.2.2.2.1++(cellsX T69 y.2.2.2.2)))))),(1001,.box 77 (.int .i64 r0::(.int .i64 r0_2::(cellsX T66 r0_3++(.own 1002::(.own 1003::[])))))),(1002,.arr 64 (.pair (.int .i64) (.int .i64)) r0_4),(1003,.arr 45 (.sl (.int .i64)) r0_5)] ?_
      refine zQ h (fun hb51 h=>?_) (fun hb51 h=>?_)
      ·refine zk ?_
       refine AW.seq ?_
       refine AW.block ?_
       refine zo ?_
       refine zS 2 [(0,.bp 1000 0),(1,.bp 1001 0),(5,.int .i64 st1),(39,.bp 1000 0),(40,.int .i64 st1)] [(1000,.box 71 (.int .i64 y.1::(.int .i64 y.2.1::(cellsX T63 y.2.2.1++(cellsX T65 y.2.2.2.1++(cellsX T69 y.2.2.2.2)))))),(1001,.box 77 (.int .i64 r0::(.int .i64 r0_2::(cellsX T66 r0_3++(.own 1002::(.own 1003::[])))))),(1002,.arr 64 (.pair (.int .i64) (.int .i64)) r0_4),(1003,.arr 45 (.sl (.int .i64)) r0_5)] ?_
       obtain ⟨v0_8,hv52,h⟩:=Option.bind_eq_some_iff.1 h
       refine zC [] [(1000,1000)] (hc_hazard_Yard_State st1 y hv52) [(0,.bp 1000 0),(1,.bp 1001 0),(5,.int .i64 st1),(41,.tup [.int .i64 v0_8.1,.int .i64 v0_8.2])] [(1000,.box 71 (.int .i64 y.1::(.int .i64 y.2.1::(cellsX T63 y.2.2.1++(cellsX T65 y.2.2.2.1++(cellsX T69 y.2.2.2.2)))))),(1001,.box 77 (.int .i64 r0::(.int .i64 r0_2::(cellsX T66 r0_3++(.own 1002::(.own 1003::[])))))),(1002,.arr 64 (.pair (.int .i64) (.int .i64)) r0_4),(1003,.arr 45 (.sl (.int .i64)) r0_5)] ?_
       refine zB [(0,.bp 1000 0),(1,.bp 1001 0),(5,.int .i64 st1),(6,.int .i64 v0_8.1),(7,.int .i64 v0_8.2)] [(1000,.box 71 (.int .i64 y.1::(.int .i64 y.2.1::(cellsX T63 y.2.2.1++(cellsX T65 y.2.2.2.1++(cellsX T69 y.2.2.2.2)))))),(1001,.box 77 (.int .i64 r0::(.int .i64 r0_2::(cellsX T66 r0_3++(.own 1002::(.own 1003::[])))))),(1002,.arr 64 (.pair (.int .i64) (.int .i64)) r0_4),(1003,.arr 45 (.sl (.int .i64)) r0_5)] ?_
       refine zo ?_
       refine zS 3 [(0,.bp 1000 0),(1,.bp 1001 0),(5,.int .i64 st1),(6,.int .i64 v0_8.1),(46,.bool (!(decide (v0_8.2=0))))] [(1000,.box 71 (.int .i64 y.1::(.int .i64 y.2.1::(cellsX T63 y.2.2.1++(cellsX T65 y.2.2.2.1++(cellsX T69 y.2.2.2.2)))))),(1001,.box 77 (.int .i64 r0::(.int .i64 r0_2::(cellsX T66 r0_3++(.own 1002::(.own 1003::[])))))),(1002,.arr 64 (.pair (.int .i64) (.int .i64)) r0_4),(1003,.arr 45 (.sl (.int .i64)) r0_5)] ?_
       rcases zI h with ⟨hb53,h⟩|⟨hb53,h⟩
       ·refine zS 4 [(0,.bp 1000 0),(1,.bp 1001 0),(5,.int .i64 st1),(46,.bool true),(47,.cv (undef)),(49,.cv (undef)),(50,.cv (undef))] [(1000,.box 71 (.int .i64 y.1::(.int .i64 y.2.1::(cellsX T63 y.2.2.1++(cellsX T65 y.2.2.2.1++(cellsX T69 y.2.2.2.2)))))),(1001,.box 77 (.int .i64 r0::(.int .i64 r0_2::(cellsX T66 r0_3++(.own 1002::(.own 1003::[])))))),(1002,.arr 64 (.pair (.int .i64) (.int .i64)) r0_4),(1003,.arr 45 (.sl (.int .i64)) r0_5)] ?_
        refine zS 4 [(0,.bp 1000 0),(1,.bp 1001 0),(5,.int .i64 st1),(46,.bool true),(54,.cv (undef))] [(1000,.box 71 (.int .i64 y.1::(.int .i64 y.2.1::(cellsX T63 y.2.2.1++(cellsX T65 y.2.2.2.1++(cellsX T69 y.2.2.2.2)))))),(1001,.box 77 (.int .i64 r0::(.int .i64 r0_2::(cellsX T66 r0_3++(.own 1002::(.own 1003::[])))))),(1002,.arr 64 (.pair (.int .i64) (.int .i64)) r0_4),(1003,.arr 45 (.sl (.int .i64)) r0_5)] ?_
        refine zB [(0,.bp 1000 0),(1,.bp 1001 0),(5,.int .i64 st1),(55,.bool true)] [(1000,.box 71 (.int .i64 y.1::(.int .i64 y.2.1::(cellsX T63 y.2.2.1++(cellsX T65 y.2.2.2.1++(cellsX T69 y.2.2.2.2)))))),(1001,.box 77 (.int .i64 r0::(.int .i64 r0_2::(cellsX T66 r0_3++(.own 1002::(.own 1003::[])))))),(1002,.arr 64 (.pair (.int .i64) (.int .i64)) r0_4),(1003,.arr 45 (.sl (.int .i64)) r0_5)] ?_
        refine AW.cond (b:=true) rfl (fun _=>?_) (fun hb54=>by cases hb54)
        refine zo ?_
        refine zB [(4,.bool false)] [(1000,.box 71 (.int .i64 y.1::(.int .i64 y.2.1::(cellsX T63 y.2.2.1++(cellsX T65 y.2.2.2.1++(cellsX T69 y.2.2.2.2)))))),(1001,.box 77 (.int .i64 r0::(.int .i64 r0_2::(cellsX T66 r0_3++(.own 1002::(.own 1003::[])))))),(1002,.arr 64 (.pair (.int .i64) (.int .i64)) r0_4),(1003,.arr 45 (.sl (.int .i64)) r0_5)] ?_
        refine AW.ret ?_
        refine ablock_r ?_
        refine athen_r ?_
        obtain rfl:=Option.some.inj h
        try rw [← hd48 _ rfl] at ho47
        have h:=ho47
        try simp only at h
        refine athen_r ?_
        refine ablock_r ?_
        refine athen_r ?_
        obtain rfl:=Option.some.inj h
        exact zR [] [] []
       ·refine zS 5 [(0,.bp 1000 0),(1,.bp 1001 0),(5,.int .i64 st1),(46,.bool false),(47,.int .i64 v0_8.1),(49,.int .i64 st1),(51,.bp 1001 2)] [(1000,.box 71 (.int .i64 y.1::(.int .i64 y.2.1::(cellsX T63 y.2.2.1++(cellsX T65 y.2.2.2.1++(cellsX T69 y.2.2.2.2)))))),(1001,.box 77 (.int .i64 r0::(.int .i64 r0_2::(cellsX T66 r0_3++(.own 1002::(.own 1003::[])))))),(1002,.arr 64 (.pair (.int .i64) (.int .i64)) r0_4),(1003,.arr 45 (.sl (.int .i64)) r0_5)] ?_
        obtain ⟨c55,h⟩:=ck_some.1 h
        obtain ⟨c56,h⟩:=ck_some.1 h
        have hx57:(st1.toNat*1)<8:=by omega
        refine zB [(0,.bp 1000 0),(1,.bp 1001 0),(5,.int .i64 st1),(55,.bool (!(decide (v0_8.1=(intAt T66 r0_3 (st1.toNat*1))))))] [(1000,.box 71 (.int .i64 y.1::(.int .i64 y.2.1::(cellsX T63 y.2.2.1++(cellsX T65 y.2.2.2.1++(cellsX T69 y.2.2.2.2)))))),(1001,.box 77 (.int .i64 r0::(.int .i64 r0_2::(cellsX T66 r0_3++(.own 1002::(.own 1003::[])))))),(1002,.arr 64 (.pair (.int .i64) (.int .i64)) r0_4),(1003,.arr 45 (.sl (.int .i64)) r0_5)] ?_
        refine zQ h (fun hb58 h=>?_) (fun hb58 h=>?_)
        ·refine zo ?_
         refine zB [(4,.bool false)] [(1000,.box 71 (.int .i64 y.1::(.int .i64 y.2.1::(cellsX T63 y.2.2.1++(cellsX T65 y.2.2.2.1++(cellsX T69 y.2.2.2.2)))))),(1001,.box 77 (.int .i64 r0::(.int .i64 r0_2::(cellsX T66 r0_3++(.own 1002::(.own 1003::[])))))),(1002,.arr 64 (.pair (.int .i64) (.int .i64)) r0_4),(1003,.arr 45 (.sl (.int .i64)) r0_5)] ?_
         refine AW.ret ?_
         refine ablock_r ?_
         refine athen_r ?_
         obtain rfl:=Option.some.inj h
         try rw [← hd48 _ rfl] at ho47
         have h:=ho47
         try simp only at h
         refine athen_r ?_
         refine ablock_r ?_
         refine athen_r ?_
         obtain rfl:=Option.some.inj h
         exact zR [] [] []
        ·refine zm ?_
         refine athen_n ?_
         refine AW.ops ?_
         obtain ⟨c59,h⟩:=ck_some.1 h
         refine zA [(0,.bp 1000 0),(1,.bp 1001 0),(5,.int .i64 (st1+1))] [(1000,.box 71 (.int .i64 y.1::(.int .i64 y.2.1::(cellsX T63 y.2.2.1++(cellsX T65 y.2.2.2.1++(cellsX T69 y.2.2.2.2)))))),(1001,.box 77 (.int .i64 r0::(.int .i64 r0_2::(cellsX T66 r0_3++(.own 1002::(.own 1003::[])))))),(1002,.arr 64 (.pair (.int .i64) (.int .i64)) r0_4),(1003,.arr 45 (.sl (.int .i64)) r0_5)] ?_
         obtain rfl:=Option.some.inj h
         exact ⟨_,rfl,zL [] [] []⟩
      ·refine AW.exit ?_
       refine athen_e ?_
       obtain rfl:=Option.some.inj h
       try rw [← hd48 _ rfl] at ho47
       have h:=ho47
       try simp only at h
       refine athen_e ?_
       refine ablock_s ?_
       refine athen_n ?_
       exact AW.weaken (zL [] [] []) (hk_lineallaw06_Is_k1 () h)
end Go.Proofs.YtcckpmeepcoafaaDoor
