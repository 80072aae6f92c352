/-
  Made by wip/tool/dc.py out of the print of the program: contracts.
-/
import Derived.Test.YteclokkdgmacpaaGrp
import Derived.Test.YteclokkdgmacpaaSh7
import Derived.Test.YteclokkdgmacpaaAvd
import Derived.Test.YteclokkdgmacpaaKlc2
import Derived.Test.YteclokkdgmacpaaKlc4
import Derived.Test.YteclokkdgmacpaaKlc5
import Derived.Test.YteclokkdgmacpaaKlc6
import Derived.Test.YteclokkdgmacpaaKlc7
import Derived.Test.YteclokkdgmacpaaYa7
namespace Go.Proofs.Yteclokkdgmacpaa
open Go.RowKit
set_option linter.unusedSimpArgs false
set_option linter.unusedVariables false
set_option linter.constructorNameAsVariable false
set_option maxRecDepth 100000
set_option maxHeartbeats 2000000
theorem hc_progress_statement_isRanks (s:Int) (s_2:List (Int×Int×Int×Bool)) (list:List Int) {r:Bool} (h:progress_statement_isRanks s s_2 list=some r):HC Try.prog 75 [] [.agg [.int .i64 s,.sl Y7 s_2,.fn (.func 94) [] [],.fn (.func 94) [] []],.sl (.int .i64) list] [] (.bool r):=by
 unfold progress_statement_isRanks at h
 refine zH Try.func75 [.tmp 4] 18 ?_
 refine zo ?_
 refine zB [(1,.sl (.int .i64) list),(2,.bp 2 0)] [(2,.box 85 [.int .i64 s,.sl Y7 s_2,.fn (.func 94) [] [],.fn (.func 94) [] []])] ?_
 refine zo ?_
 refine zB [(1,.sl (.int .i64) list),(2,.bp 2 0),(5,.fn (.func 98) [] [])] [(2,.box 85 [.int .i64 s,.sl Y7 s_2,.fn (.func 94) [] [],.fn (.func 94) [] []])] ?_
 refine zo ?_
 refine zS 5 [(1,.sl (.int .i64) list),(5,.fn (.func 98) [] []),(7,.int .i64 (list.length:Int)),(10,.int .i64 s)] [] ?_
 refine zS 2 [(1,.sl (.int .i64) list),(5,.fn (.func 98) [] []),(12,.bool (decide ((list.length:Int)=s)))] [] ?_
 rcases zI h with ⟨hb1,h⟩ | ⟨hb1,h⟩
 ·refine zS 2 [(12,.bool true),(13,.sl (.int .i64) list),(14,.fn (.func 98) [] [])] [] ?_
  obtain ⟨v0,hv2,h⟩:=Option.bind_eq_some_iff.1 h
  refine zG [] [] (hc_slices_ContainsFunc_2 list hv2) [(12,.bool true),(15,.bool v0)] [] ?_
  refine zB [(4,.bool (!v0))] [] ?_
  refine AW.ret ?_
  obtain rfl:=Option.some.inj h
  exact zR [] [] []
 ·refine zS 4 [(12,.bool false),(16,.cv (undef))] [] ?_
  refine zB [(4,.bool false)] [] ?_
  refine AW.ret ?_
  obtain rfl:=Option.some.inj h
  exact zR [] [] []
theorem hc_progress_statement_isRanks_2 (s:Int) (s_2:List (Int×Int×Int×Bool)) (c0:Int) (c0_2:Int) (list:List Int) {r:Bool} (h:progress_statement_isRanks_2 s s_2 c0 c0_2 list=some r):HC Try.prog 75 [] [.agg [.int .i64 s,.sl Y7 s_2,.fn (.func 96) [] [.dp (.int .i64) c0 0],.fn (.func 95) [] [.dp (.int .i64) c0_2 0]],.sl (.int .i64) list] [] (.bool r):=by
 unfold progress_statement_isRanks_2 at h
 refine zH Try.func75 [.tmp 4] 18 ?_
 refine zo ?_
 refine zB [(1,.sl (.int .i64) list),(2,.bp 2 0)] [(2,.box 85 [.int .i64 s,.sl Y7 s_2,.fn (.func 96) [] [.dp (.int .i64) c0 0],.fn (.func 95) [] [.dp (.int .i64) c0_2 0]])] ?_
 refine zo ?_
 refine zB [(1,.sl (.int .i64) list),(2,.bp 2 0),(5,.fn (.func 98) [] [])] [(2,.box 85 [.int .i64 s,.sl Y7 s_2,.fn (.func 96) [] [.dp (.int .i64) c0 0],.fn (.func 95) [] [.dp (.int .i64) c0_2 0]])] ?_
 refine zo ?_
 refine zS 5 [(1,.sl (.int .i64) list),(5,.fn (.func 98) [] []),(7,.int .i64 (list.length:Int)),(10,.int .i64 s)] [] ?_
 refine zS 2 [(1,.sl (.int .i64) list),(5,.fn (.func 98) [] []),(12,.bool (decide ((list.length:Int)=s)))] [] ?_
 rcases zI h with ⟨hb1,h⟩ | ⟨hb1,h⟩
 ·refine zS 2 [(12,.bool true),(13,.sl (.int .i64) list),(14,.fn (.func 98) [] [])] [] ?_
  obtain ⟨v0,hv2,h⟩:=Option.bind_eq_some_iff.1 h
  refine zG [] [] (hc_slices_ContainsFunc_2 list hv2) [(12,.bool true),(15,.bool v0)] [] ?_
  refine zB [(4,.bool (!v0))] [] ?_
  refine AW.ret ?_
  obtain rfl:=Option.some.inj h
  exact zR [] [] []
 ·refine zS 4 [(12,.bool false),(16,.cv (undef))] [] ?_
  refine zB [(4,.bool false)] [] ?_
  refine AW.ret ?_
  obtain rfl:=Option.some.inj h
  exact zR [] [] []
theorem hc_progress_statement_isRanks_3 (s:Int) (s_2:List (Int×Int×Int×Bool)) (c0:Int) (c0_2:Int) (list:List Int) {r:Bool} (h:progress_statement_isRanks_3 s s_2 c0 c0_2 list=some r):HC Try.prog 75 [] [.agg [.int .i64 s,.sl Y7 s_2,.fn (.func 95) [] [.dp (.int .i64) c0 0],.fn (.func 95) [] [.dp (.int .i64) c0_2 0]],.sl (.int .i64) list] [] (.bool r):=by
 unfold progress_statement_isRanks_3 at h
 refine zH Try.func75 [.tmp 4] 18 ?_
 refine zo ?_
 refine zB [(1,.sl (.int .i64) list),(2,.bp 2 0)] [(2,.box 85 [.int .i64 s,.sl Y7 s_2,.fn (.func 95) [] [.dp (.int .i64) c0 0],.fn (.func 95) [] [.dp (.int .i64) c0_2 0]])] ?_
 refine zo ?_
 refine zB [(1,.sl (.int .i64) list),(2,.bp 2 0),(5,.fn (.func 98) [] [])] [(2,.box 85 [.int .i64 s,.sl Y7 s_2,.fn (.func 95) [] [.dp (.int .i64) c0 0],.fn (.func 95) [] [.dp (.int .i64) c0_2 0]])] ?_
 refine zo ?_
 refine zS 5 [(1,.sl (.int .i64) list),(5,.fn (.func 98) [] []),(7,.int .i64 (list.length:Int)),(10,.int .i64 s)] [] ?_
 refine zS 2 [(1,.sl (.int .i64) list),(5,.fn (.func 98) [] []),(12,.bool (decide ((list.length:Int)=s)))] [] ?_
 rcases zI h with ⟨hb1,h⟩ | ⟨hb1,h⟩
 ·refine zS 2 [(12,.bool true),(13,.sl (.int .i64) list),(14,.fn (.func 98) [] [])] [] ?_
  obtain ⟨v0,hv2,h⟩:=Option.bind_eq_some_iff.1 h
  refine zG [] [] (hc_slices_ContainsFunc_2 list hv2) [(12,.bool true),(15,.bool v0)] [] ?_
  refine zB [(4,.bool (!v0))] [] ?_
  refine AW.ret ?_
  obtain rfl:=Option.some.inj h
  exact zR [] [] []
 ·refine zS 4 [(12,.bool false),(16,.cv (undef))] [] ?_
  refine zB [(4,.bool false)] [] ?_
  refine AW.ret ?_
  obtain rfl:=Option.some.inj h
  exact zR [] [] []
theorem hc_progress_Prove (g:Int×(List (Int×Int×Int×Bool))) (claim:Int) (thread:Int) (ranks:List Int) {r:Bool×Int} (h:progress_Prove g claim thread ranks=some r):HC Try.prog 33 [] [.agg [.int .i64 g.1,.sl Y7 g.2],.int .i64 claim,.int .i64 thread,.sl (.int .i64) ranks] [] (.tup [.bool r.1,.int .i64 r.2]):=by
 unfold progress_Prove at h
 refine zH Try.func33 [.tmp 8,.tmp 9] 36 ?_
 refine zo ?_
 refine zB [(1,.int .i64 claim),(2,.int .i64 thread),(3,.sl (.int .i64) ranks),(4,.bp 4 0)] [(4,.box 24 [.int .i64 g.1,.sl Y7 g.2])] ?_
 refine zo ?_
 refine zS 3 [(3,.sl (.int .i64) ranks),(15,.agg [.int .i64 g.1,.sl Y7 g.2]),(16,.int .i64 claim),(17,.int .i64 thread)] [] ?_
 obtain ⟨v0,hv1,h⟩:=Option.bind_eq_some_iff.1 h
 rcases v0 with v0_2 | v0_3 | v0_4 | v0_5
 ·try simp only at h
  refine zC [] [] (hc_progress_statementOf_a0 g claim thread hv1) [(3,.sl (.int .i64) ranks),(18,.tup [.agg [.int .i64 0,.cv (.slice none 0 0),.cv (.nilFunc),.cv (.nilFunc)],.int .i64 v0_2])] [] ?_
  refine zS 5 [(3,.sl (.int .i64) ranks),(10,.bp 10 0),(20,.int .i64 v0_2)] [(10,.box 85 [.int .i64 0,.cv (.slice none 0 0),.cv (.nilFunc),.cv (.nilFunc)])] ?_
  refine zB [(3,.sl (.int .i64) ranks),(10,.bp 10 0),(11,.int .i64 v0_2)] [(10,.box 85 [.int .i64 0,.cv (.slice none 0 0),.cv (.nilFunc),.cv (.nilFunc)])] ?_
  refine AW.seq ?_
  refine zo ?_
  refine zB [(3,.sl (.int .i64) ranks),(10,.bp 10 0),(11,.int .i64 v0_2),(22,.bool (!(decide (v0_2=0))))] [(10,.box 85 [.int .i64 0,.cv (.slice none 0 0),.cv (.nilFunc),.cv (.nilFunc)])] ?_
  refine zQ h (fun hb2 h=>?_) (fun hb2 h=>?_)
  ·refine zo ?_
   refine zB [(8,.bool false),(9,.int .i64 v0_2)] [] ?_
   refine zr ?_
   obtain rfl:=Option.some.inj h
   exact zR [] [] []
  ·refine zk ?_
   refine AW.seq ?_
   refine zo ?_
   cases h
 ·try simp only at h
  refine zC [] [] (hc_progress_statementOf_a1 g claim thread hv1) [(3,.sl (.int .i64) ranks),(18,.tup [.agg [.int .i64 v0_3.1,.sl Y7 v0_3.2,.fn (.func 94) [] [],.fn (.func 94) [] []],.int .i64 0])] [] ?_
  refine zS 5 [(3,.sl (.int .i64) ranks),(10,.bp 10 0),(20,.int .i64 0)] [(10,.box 85 [.int .i64 v0_3.1,.sl Y7 v0_3.2,.fn (.func 94) [] [],.fn (.func 94) [] []])] ?_
  refine zB [(3,.sl (.int .i64) ranks),(10,.bp 10 0),(11,.int .i64 0)] [(10,.box 85 [.int .i64 v0_3.1,.sl Y7 v0_3.2,.fn (.func 94) [] [],.fn (.func 94) [] []])] ?_
  refine AW.seq ?_
  refine zo ?_
  refine zB [(3,.sl (.int .i64) ranks),(10,.bp 10 0),(11,.int .i64 0),(22,.bool false)] [(10,.box 85 [.int .i64 v0_3.1,.sl Y7 v0_3.2,.fn (.func 94) [] [],.fn (.func 94) [] []])] ?_
  refine AW.cond (b:=false) rfl (fun hb3=>by cases hb3) (fun _=>?_)
  refine zk ?_
  refine AW.seq ?_
  refine zo ?_
  refine zS 2 [(3,.sl (.int .i64) ranks),(10,.bp 10 0),(24,.agg [.int .i64 v0_3.1,.sl Y7 v0_3.2,.fn (.func 94) [] [],.fn (.func 94) [] []]),(25,.sl (.int .i64) ranks)] [(10,.box 85 [.int .i64 v0_3.1,.sl Y7 v0_3.2,.fn (.func 94) [] [],.fn (.func 94) [] []])] ?_
  obtain ⟨v0_6,hv4,h⟩:=Option.bind_eq_some_iff.1 h
  refine zC [] [] (hc_progress_statement_isRanks v0_3.1 v0_3.2 ranks hv4) [(3,.sl (.int .i64) ranks),(10,.bp 10 0),(26,.bool v0_6)] [(10,.box 85 [.int .i64 v0_3.1,.sl Y7 v0_3.2,.fn (.func 94) [] [],.fn (.func 94) [] []])] ?_
  refine zB [(3,.sl (.int .i64) ranks),(10,.bp 10 0),(27,.bool (!v0_6))] [(10,.box 85 [.int .i64 v0_3.1,.sl Y7 v0_3.2,.fn (.func 94) [] [],.fn (.func 94) [] []])] ?_
  refine zQ h (fun hb5 h=>?_) (fun hb5 h=>?_)
  ·refine zo ?_
   refine zB [(8,.bool false),(9,.int .i64 2)] [] ?_
   refine zr ?_
   obtain rfl:=Option.some.inj h
   exact zR [] [] []
  ·refine zk ?_
   refine zo ?_
   refine zS 2 [(29,.agg [.int .i64 v0_3.1,.sl Y7 v0_3.2,.fn (.func 94) [] [],.fn (.func 94) [] []]),(30,.sl (.int .i64) ranks)] [] ?_
   obtain ⟨v0_7,hv6,h⟩:=Option.bind_eq_some_iff.1 h
   refine zC [] [] (hc_progress_statement_broken v0_3.1 v0_3.2 ranks hv6) [(31,.tup [.agg [.int .i64 v0_7.1,.int .i64 v0_7.2.1,.int .i64 v0_7.2.2.1,.bool v0_7.2.2.2.1],.bool v0_7.2.2.2.2])] [] ?_
   refine zS 5 [(33,.bool v0_7.2.2.2.2)] [] ?_
   refine zB [(13,.bool v0_7.2.2.2.2)] [] ?_
   refine zo ?_
   refine zB [(8,.bool (!v0_7.2.2.2.2)),(9,.int .i64 0)] [] ?_
   refine AW.ret ?_
   obtain rfl:=Option.some.inj h
   exact zR [] [] []
 ·try simp only at h
  refine zC [] [] (hc_progress_statementOf_a2 g claim thread hv1) [(3,.sl (.int .i64) ranks),(18,.tup [.agg [.int .i64 v0_4.1,.sl Y7 v0_4.2,.fn (.func 96) [] [.bp 28000 0],.fn (.func 95) [] [.bp 28000 0]],.int .i64 0])] [(28000,.box 3 [.int .i64 thread])] ?_
  refine AO.weaken (s':=⟨fr [(3,.sl (.int .i64) ranks),(18,.tup [.agg [.int .i64 v0_4.1,.sl Y7 v0_4.2,.fn (.func 96) [] [.dp (.int .i64) thread 0],.fn (.func 95) [] [.dp (.int .i64) thread 0]],.int .i64 0])],hpGet [],gt⟩) (Wk.boxes [28000] rfl rfl (by (simp only [go_sem]) <;> (with_reducible and_intros) <;> first | assumption | rfl | omega | (unfold maxLen; omega)) (by (simp only [go_sem]) <;> (with_reducible and_intros) <;> first | assumption | rfl | omega | (unfold maxLen; omega))) ?_
  refine zS 5 [(3,.sl (.int .i64) ranks),(10,.bp 10 0),(20,.int .i64 0)] [(10,.box 85 [.int .i64 v0_4.1,.sl Y7 v0_4.2,.fn (.func 96) [] [.dp (.int .i64) thread 0],.fn (.func 95) [] [.dp (.int .i64) thread 0]])] ?_
  refine zB [(3,.sl (.int .i64) ranks),(10,.bp 10 0),(11,.int .i64 0)] [(10,.box 85 [.int .i64 v0_4.1,.sl Y7 v0_4.2,.fn (.func 96) [] [.dp (.int .i64) thread 0],.fn (.func 95) [] [.dp (.int .i64) thread 0]])] ?_
  refine AW.seq ?_
  refine zo ?_
  refine zB [(3,.sl (.int .i64) ranks),(10,.bp 10 0),(11,.int .i64 0),(22,.bool false)] [(10,.box 85 [.int .i64 v0_4.1,.sl Y7 v0_4.2,.fn (.func 96) [] [.dp (.int .i64) thread 0],.fn (.func 95) [] [.dp (.int .i64) thread 0]])] ?_
  refine AW.cond (b:=false) rfl (fun hb7=>by cases hb7) (fun _=>?_)
  refine zk ?_
  refine AW.seq ?_
  refine zo ?_
  refine zS 2 [(3,.sl (.int .i64) ranks),(10,.bp 10 0),(24,.agg [.int .i64 v0_4.1,.sl Y7 v0_4.2,.fn (.func 96) [] [.dp (.int .i64) thread 0],.fn (.func 95) [] [.dp (.int .i64) thread 0]]),(25,.sl (.int .i64) ranks)] [(10,.box 85 [.int .i64 v0_4.1,.sl Y7 v0_4.2,.fn (.func 96) [] [.dp (.int .i64) thread 0],.fn (.func 95) [] [.dp (.int .i64) thread 0]])] ?_
  obtain ⟨v0_8,hv8,h⟩:=Option.bind_eq_some_iff.1 h
  refine zC [] [] (hc_progress_statement_isRanks_2 v0_4.1 v0_4.2 thread thread ranks hv8) [(3,.sl (.int .i64) ranks),(10,.bp 10 0),(26,.bool v0_8)] [(10,.box 85 [.int .i64 v0_4.1,.sl Y7 v0_4.2,.fn (.func 96) [] [.dp (.int .i64) thread 0],.fn (.func 95) [] [.dp (.int .i64) thread 0]])] ?_
  refine zB [(3,.sl (.int .i64) ranks),(10,.bp 10 0),(27,.bool (!v0_8))] [(10,.box 85 [.int .i64 v0_4.1,.sl Y7 v0_4.2,.fn (.func 96) [] [.dp (.int .i64) thread 0],.fn (.func 95) [] [.dp (.int .i64) thread 0]])] ?_
  refine zQ h (fun hb9 h=>?_) (fun hb9 h=>?_)
  ·refine zo ?_
   refine zB [(8,.bool false),(9,.int .i64 2)] [] ?_
   refine zr ?_
   obtain rfl:=Option.some.inj h
   exact zR [] [] []
  ·refine zk ?_
   refine zo ?_
   refine zS 2 [(29,.agg [.int .i64 v0_4.1,.sl Y7 v0_4.2,.fn (.func 96) [] [.dp (.int .i64) thread 0],.fn (.func 95) [] [.dp (.int .i64) thread 0]]),(30,.sl (.int .i64) ranks)] [] ?_
   obtain ⟨v0_9,hv10,h⟩:=Option.bind_eq_some_iff.1 h
   refine zC [] [] (hc_progress_statement_broken_2 v0_4.1 v0_4.2 thread thread ranks hv10) [(31,.tup [.agg [.int .i64 v0_9.1,.int .i64 v0_9.2.1,.int .i64 v0_9.2.2.1,.bool v0_9.2.2.2.1],.bool v0_9.2.2.2.2])] [] ?_
   refine zS 5 [(33,.bool v0_9.2.2.2.2)] [] ?_
   refine zB [(13,.bool v0_9.2.2.2.2)] [] ?_
   refine zo ?_
   refine zB [(8,.bool (!v0_9.2.2.2.2)),(9,.int .i64 0)] [] ?_
   refine AW.ret ?_
   obtain rfl:=Option.some.inj h
   exact zR [] [] []
 ·try simp only at h
  refine zC [] [] (hc_progress_statementOf_a3 g claim thread hv1) [(3,.sl (.int .i64) ranks),(18,.tup [.agg [.int .i64 v0_5.1,.sl Y7 v0_5.2,.fn (.func 95) [] [.bp 28000 0],.fn (.func 95) [] [.bp 28000 0]],.int .i64 0])] [(28000,.box 3 [.int .i64 thread])] ?_
  refine AO.weaken (s':=⟨fr [(3,.sl (.int .i64) ranks),(18,.tup [.agg [.int .i64 v0_5.1,.sl Y7 v0_5.2,.fn (.func 95) [] [.dp (.int .i64) thread 0],.fn (.func 95) [] [.dp (.int .i64) thread 0]],.int .i64 0])],hpGet [],gt⟩) (Wk.boxes [28000] rfl rfl (by (simp only [go_sem]) <;> (with_reducible and_intros) <;> first | assumption | rfl | omega | (unfold maxLen; omega)) (by (simp only [go_sem]) <;> (with_reducible and_intros) <;> first | assumption | rfl | omega | (unfold maxLen; omega))) ?_
  refine zS 5 [(3,.sl (.int .i64) ranks),(10,.bp 10 0),(20,.int .i64 0)] [(10,.box 85 [.int .i64 v0_5.1,.sl Y7 v0_5.2,.fn (.func 95) [] [.dp (.int .i64) thread 0],.fn (.func 95) [] [.dp (.int .i64) thread 0]])] ?_
  refine zB [(3,.sl (.int .i64) ranks),(10,.bp 10 0),(11,.int .i64 0)] [(10,.box 85 [.int .i64 v0_5.1,.sl Y7 v0_5.2,.fn (.func 95) [] [.dp (.int .i64) thread 0],.fn (.func 95) [] [.dp (.int .i64) thread 0]])] ?_
  refine AW.seq ?_
  refine zo ?_
  refine zB [(3,.sl (.int .i64) ranks),(10,.bp 10 0),(11,.int .i64 0),(22,.bool false)] [(10,.box 85 [.int .i64 v0_5.1,.sl Y7 v0_5.2,.fn (.func 95) [] [.dp (.int .i64) thread 0],.fn (.func 95) [] [.dp (.int .i64) thread 0]])] ?_
  refine AW.cond (b:=false) rfl (fun hb11=>by cases hb11) (fun _=>?_)
  refine zk ?_
  refine AW.seq ?_
  refine zo ?_
  refine zS 2 [(3,.sl (.int .i64) ranks),(10,.bp 10 0),(24,.agg [.int .i64 v0_5.1,.sl Y7 v0_5.2,.fn (.func 95) [] [.dp (.int .i64) thread 0],.fn (.func 95) [] [.dp (.int .i64) thread 0]]),(25,.sl (.int .i64) ranks)] [(10,.box 85 [.int .i64 v0_5.1,.sl Y7 v0_5.2,.fn (.func 95) [] [.dp (.int .i64) thread 0],.fn (.func 95) [] [.dp (.int .i64) thread 0]])] ?_
  obtain ⟨v0_10,hv12,h⟩:=Option.bind_eq_some_iff.1 h
  refine zC [] [] (hc_progress_statement_isRanks_3 v0_5.1 v0_5.2 thread thread ranks hv12) [(3,.sl (.int .i64) ranks),(10,.bp 10 0),(26,.bool v0_10)] [(10,.box 85 [.int .i64 v0_5.1,.sl Y7 v0_5.2,.fn (.func 95) [] [.dp (.int .i64) thread 0],.fn (.func 95) [] [.dp (.int .i64) thread 0]])] ?_
  refine zB [(3,.sl (.int .i64) ranks),(10,.bp 10 0),(27,.bool (!v0_10))] [(10,.box 85 [.int .i64 v0_5.1,.sl Y7 v0_5.2,.fn (.func 95) [] [.dp (.int .i64) thread 0],.fn (.func 95) [] [.dp (.int .i64) thread 0]])] ?_
  refine zQ h (fun hb13 h=>?_) (fun hb13 h=>?_)
  ·refine zo ?_
   refine zB [(8,.bool false),(9,.int .i64 2)] [] ?_
   refine zr ?_
   obtain rfl:=Option.some.inj h
   exact zR [] [] []
  ·refine zk ?_
   refine zo ?_
   refine zS 2 [(29,.agg [.int .i64 v0_5.1,.sl Y7 v0_5.2,.fn (.func 95) [] [.dp (.int .i64) thread 0],.fn (.func 95) [] [.dp (.int .i64) thread 0]]),(30,.sl (.int .i64) ranks)] [] ?_
   obtain ⟨v0_11,hv14,h⟩:=Option.bind_eq_some_iff.1 h
   refine zC [] [] (hc_progress_statement_broken_3 v0_5.1 v0_5.2 thread thread ranks hv14) [(31,.tup [.agg [.int .i64 v0_11.1,.int .i64 v0_11.2.1,.int .i64 v0_11.2.2.1,.bool v0_11.2.2.2.1],.bool v0_11.2.2.2.2])] [] ?_
   refine zS 5 [(33,.bool v0_11.2.2.2.2)] [] ?_
   refine zB [(13,.bool v0_11.2.2.2.2)] [] ?_
   refine zo ?_
   refine zB [(8,.bool (!v0_11.2.2.2.2)),(9,.int .i64 0)] [] ?_
   refine AW.ret ?_
   obtain rfl:=Option.some.inj h
   exact zR [] [] []
theorem hc_lineallaw07_asked (claim:Int) (thread:Int) {r:Int×Int} (h:lineallaw07_asked claim thread=some r):HC Try.prog 51 [] [.int .u8 claim,.int .u8 thread] [] (.tup [.int .i64 r.1,.int .i64 r.2]):=by
 unfold lineallaw07_asked at h
 refine zH Try.func51 [.tmp 4,.tmp 5] 16 ?_
 refine zo ?_
 refine zB [(0,.int .u8 claim),(1,.int .u8 thread)] [] ?_
 refine zo ?_
 obtain ⟨c1,h⟩:=ck_some.1 h
 obtain ⟨c2,h⟩:=ck_some.1 h
 refine zB [(1,.int .u8 thread),(6,.int .i64 (claim % 3))] [] ?_
 refine AW.seq ?_
 refine zo ?_
 refine zB [(1,.int .u8 thread),(6,.int .i64 (claim % 3)),(11,.bool (decide ((claim % 3)=0)))] [] ?_
 refine zQ h (fun hb3 h=>?_) (fun hb3 h=>?_)
 ·refine zo ?_
  refine zB [(4,.int .i64 0),(5,.int .i64 0)] [] ?_
  refine zr ?_
  obtain rfl:=Option.some.inj h
  exact zR [] [] []
 ·refine zk ?_
  refine zo ?_
  obtain ⟨c4,h⟩:=ck_some.1 h
  obtain ⟨c5,h⟩:=ck_some.1 h
  refine zS 5 [(4,.int .i64 (claim % 3)),(15,.int .i64 (thread % 3))] [] ?_
  refine zB [(4,.int .i64 (claim % 3)),(5,.int .i64 (thread % 3))] [] ?_
  refine AW.ret ?_
  obtain rfl:=Option.some.inj h
  exact zR [] [] []
theorem hc_progress_statement_isLasso_1 (move:Int) (a1:Int) (a1_2:List (Int×Int×Int×Bool)) {r:Unit} (h:progress_statement_isLasso_1 move a1 a1_2=some r):HC Try.prog 103 [(1000,.box 85 [.int .i64 a1,.sl Y7 a1_2,.fn (.func 94) [] [],.fn (.func 94) [] []])] [.int .i64 move,.bp 1000 0] [(1000,.box 85 [.int .i64 a1,.sl Y7 a1_2,.fn (.func 94) [] [],.fn (.func 94) [] []])] (.bool (!(!(a1_2.getD move.toNat (0,0,0,false)).2.2.2))):=by
 unfold progress_statement_isLasso_1 at h
 refine zH Try.func103 [.tmp 3] 14 ?_
 refine zo ?_
 refine zB [(0,.int .i64 move),(1,.bp 1000 0)] [(1000,.box 85 [.int .i64 a1,.sl Y7 a1_2,.fn (.func 94) [] [],.fn (.func 94) [] []])] ?_
 refine AW.seq ?_
 refine AW.draw tab_ok mixed_ok [] [] (by decide) (lex_fast (by kernel_rfl)) ?_
 as_aux_lemma =>
  refine adops_cut 6 (fun K' hK1=>?_)
  try dsimp only [List.drop_succ_cons,List.drop_zero,List.take_succ_cons,List.take_zero]
  simp only [go_sem]
  repeat with_reducible refine zN ?_
  refine hK1 _ ?_
  as_aux_lemma =>
   obtain ⟨c3,h⟩:=ck_some.1 h
   obtain ⟨c4,h⟩:=ck_some.1 h
   refine adops_cut 2 (fun K' hK2=>?_)
   try dsimp only [List.drop_succ_cons,List.drop_zero,List.take_succ_cons,List.take_zero]
   simp only [go_sem]
   repeat with_reducible refine zN ?_
   refine hK2 _ ?_
   as_aux_lemma =>
    obtain ⟨v0,hv5,h⟩:=Option.bind_eq_some_iff.1 h
    refine adops.call (by first | trivial | rfl) rfl rfl rfl (fun _ h=>h) [] [] (hc_progress_statementOf_1 (a1_2.getD move.toNat (0,0,0,false)) hv5) rfl (by (simp only [go_sem]) <;> (with_reducible and_intros) <;> first | assumption | rfl | omega | (unfold maxLen; omega)) (by (simp only [go_sem]) <;> (with_reducible and_intros) <;> first | assumption | rfl | omega | (unfold maxLen; omega)) rfl ?_
    refine adops_cut 2 (fun K' hK6=>?_)
    try dsimp only [List.drop_succ_cons,List.drop_zero,List.take_succ_cons,List.take_zero]
    simp only [go_sem]
    repeat with_reducible refine zN ?_
    refine hK6 _ ?_
    refine adops_nil ?_
    refine athen_n ?_
    refine zV [(3,.bool (!(!(a1_2.getD move.toNat (0,0,0,false)).2.2.2)))] [(1000,.box 85 [.int .i64 a1,.sl Y7 a1_2,.fn (.func 94) [] [],.fn (.func 94) [] []])] gt ?_
    as_aux_lemma =>
     refine AW.ret ?_
     obtain rfl:=Option.some.inj h
     exact zR [] [] []
theorem hc_slices_IndexFunc_8 (s:List Int) (c0:Int) (c0_2:List (Int×Int×Int×Bool)) {r:Int} (h:slices_IndexFunc_8 s c0 c0_2=some r):HC Try.prog 93 [(1000,.box 85 [.int .i64 c0,.sl Y7 c0_2,.fn (.func 94) [] [],.fn (.func 94) [] []])] [.sl (.int .i64) s,.fn (.func 103) [] [.bp 1000 0]] [(1000,.box 85 [.int .i64 c0,.sl Y7 c0_2,.fn (.func 94) [] [],.fn (.func 94) [] []])] (.int .i64 r):=by
 unfold slices_IndexFunc_8 at h
 refine zH Try.func93 [.tmp 4] 19 ?_
 refine zo ?_
 refine zB [(0,.sl (.int .i64) s),(1,.fn (.func 103) [] [.bp 1000 0])] [(1000,.box 85 [.int .i64 c0,.sl Y7 c0_2,.fn (.func 94) [] [],.fn (.func 94) [] []])] ?_
 refine AW.have1 (fun _:Unit=>slices_IndexFunc_8_k1=some r) (fun _=>⟨fr [],hpGet [(1000,.box 85 [.int .i64 c0,.sl Y7 c0_2,.fn (.func 94) [] [],.fn (.func 94) [] []])],gt⟩) (fun _ h=>?_) (fun hk_slices_IndexFunc_8_k1=>?_)
 ·as_aux_lemma =>
   unfold slices_IndexFunc_8_k1 at h
   refine zo ?_
   refine zB [(4,.int .i64 (-1))] [(1000,.box 85 [.int .i64 c0,.sl Y7 c0_2,.fn (.func 94) [] [],.fn (.func 94) [] []])] ?_
   refine AW.ret ?_
   obtain rfl:=Option.some.inj h
   exact zR [] [] []
 ·refine AW.seq ?_
  refine zo ?_
  refine zB [(0,.sl (.int .i64) s),(1,.fn (.func 103) [] [.bp 1000 0]),(7,.int .i64 (s.length:Int)),(8,.int .i64 0)] [(1000,.box 85 [.int .i64 c0,.sl Y7 c0_2,.fn (.func 94) [] [],.fn (.func 94) [] []])] ?_
  refine AW.block ?_
  obtain ⟨rv5,hw1,ho2⟩:=Option.bind_eq_some_iff.1 h
  refine AW.loopO (slices_IndexFunc_8_b1 s c0 c0_2) (fun st1=>⟨fr [(0,.sl (.int .i64) s),(1,.fn (.func 103) [] [.bp 1000 0]),(7,.int .i64 (s.length:Int)),(8,.int .i64 st1)],hpGet [(1000,.box 85 [.int .i64 c0,.sl Y7 c0_2,.fn (.func 94) [] [],.fn (.func 94) [] []])],gt⟩) 0 hw1 (zL [] [] []) ?_
  as_aux_lemma =>
   intro st1 x4 h hd3
   unfold slices_IndexFunc_8_b1 at h
   refine zo ?_
   refine zB [(0,.sl (.int .i64) s),(1,.fn (.func 103) [] [.bp 1000 0]),(7,.int .i64 (s.length:Int)),(8,.int .i64 st1),(9,.bool (decide (st1 < (s.length:Int))))] [(1000,.box 85 [.int .i64 c0,.sl Y7 c0_2,.fn (.func 94) [] [],.fn (.func 94) [] []])] ?_
   refine AW.seq ?_
   refine zQ h (fun hb6 h=>?_) (fun hb6 h=>?_)
   ·refine zk ?_
    refine AW.seq ?_
    refine AW.block ?_
    refine zo ?_
    refine zB [(0,.sl (.int .i64) s),(1,.fn (.func 103) [] [.bp 1000 0]),(5,.int .i64 st1),(7,.int .i64 (s.length:Int)),(8,.int .i64 st1)] [(1000,.box 85 [.int .i64 c0,.sl Y7 c0_2,.fn (.func 94) [] [],.fn (.func 94) [] []])] ?_
    refine zo ?_
    obtain ⟨c7,h⟩:=ck_some.1 h
    obtain ⟨c8,h⟩:=ck_some.1 h
    refine zS 5 [(0,.sl (.int .i64) s),(1,.fn (.func 103) [] [.bp 1000 0]),(5,.int .i64 st1),(7,.int .i64 (s.length:Int)),(8,.int .i64 st1),(11,.fn (.func 103) [] [.bp 1000 0]),(15,.int .i64 (s.getD st1.toNat 0))] [(1000,.box 85 [.int .i64 c0,.sl Y7 c0_2,.fn (.func 94) [] [],.fn (.func 94) [] []])] ?_
    obtain ⟨v0,hv9,h⟩:=Option.bind_eq_some_iff.1 h
    refine zC [] [(1000,1000)] (hc_progress_statement_isLasso_1 (s.getD st1.toNat 0) c0 c0_2 hv9) [(0,.sl (.int .i64) s),(1,.fn (.func 103) [] [.bp 1000 0]),(5,.int .i64 st1),(7,.int .i64 (s.length:Int)),(8,.int .i64 st1),(16,.bool (!(!(c0_2.getD (s.getD st1.toNat 0).toNat (0,0,0,false)).2.2.2)))] [(1000,.box 85 [.int .i64 c0,.sl Y7 c0_2,.fn (.func 94) [] [],.fn (.func 94) [] []])] ?_
    refine zB [(0,.sl (.int .i64) s),(1,.fn (.func 103) [] [.bp 1000 0]),(5,.int .i64 st1),(7,.int .i64 (s.length:Int)),(8,.int .i64 st1),(16,.bool (!(!(c0_2.getD (s.getD st1.toNat 0).toNat (0,0,0,false)).2.2.2)))] [(1000,.box 85 [.int .i64 c0,.sl Y7 c0_2,.fn (.func 94) [] [],.fn (.func 94) [] []])] ?_
    refine zQ h (fun hb10 h=>?_) (fun hb10 h=>?_)
    ·refine zo ?_
     refine zB [(4,.int .i64 st1)] [(1000,.box 85 [.int .i64 c0,.sl Y7 c0_2,.fn (.func 94) [] [],.fn (.func 94) [] []])] ?_
     refine AW.ret ?_
     refine ablock_r ?_
     refine athen_r ?_
     obtain rfl:=Option.some.inj h
     rw [← hd3 _ rfl] at ho2
     have h:=ho2
     try simp only at h
     refine athen_r ?_
     refine ablock_r ?_
     refine athen_r ?_
     obtain rfl:=Option.some.inj h
     exact zR [] [] []
    ·refine zm ?_
     refine athen_n ?_
     refine AW.ops ?_
     obtain ⟨c11,h⟩:=ck_some.1 h
     refine zA [(0,.sl (.int .i64) s),(1,.fn (.func 103) [] [.bp 1000 0]),(7,.int .i64 (s.length:Int)),(8,.int .i64 (st1 + 1))] [(1000,.box 85 [.int .i64 c0,.sl Y7 c0_2,.fn (.func 94) [] [],.fn (.func 94) [] []])] ?_
     obtain rfl:=Option.some.inj h
     exact ⟨_,rfl,zL [] [] []⟩
   ·refine AW.exit ?_
    refine athen_e ?_
    obtain rfl:=Option.some.inj h
    rw [← hd3 _ rfl] at ho2
    have h:=ho2
    try simp only at h
    refine athen_e ?_
    refine ablock_s ?_
    refine athen_n ?_
    exact AW.weaken (zL [] [] []) (hk_slices_IndexFunc_8_k1 () h)
theorem hc_slices_ContainsFunc_3 (s:List Int) (c0:Int) (c0_2:List (Int×Int×Int×Bool)) {r:Bool} (h:slices_ContainsFunc_3 s c0 c0_2=some r):HC Try.prog 99 [(1000,.box 85 [.int .i64 c0,.sl Y7 c0_2,.fn (.func 94) [] [],.fn (.func 94) [] []])] [.sl (.int .i64) s,.fn (.func 103) [] [.bp 1000 0]] [(1000,.box 85 [.int .i64 c0,.sl Y7 c0_2,.fn (.func 94) [] [],.fn (.func 94) [] []])] (.bool r):=by
 unfold slices_ContainsFunc_3 at h
 refine zH Try.func99 [.tmp 4] 9 ?_
 refine zo ?_
 refine zB [(0,.sl (.int .i64) s),(1,.fn (.func 103) [] [.bp 1000 0])] [(1000,.box 85 [.int .i64 c0,.sl Y7 c0_2,.fn (.func 94) [] [],.fn (.func 94) [] []])] ?_
 refine zo ?_
 refine zS 2 [(5,.sl (.int .i64) s),(6,.fn (.func 103) [] [.bp 1000 0])] [(1000,.box 85 [.int .i64 c0,.sl Y7 c0_2,.fn (.func 94) [] [],.fn (.func 94) [] []])] ?_
 obtain ⟨v0,hv1,h⟩:=Option.bind_eq_some_iff.1 h
 refine zC [] [(1000,1000)] (hc_slices_IndexFunc_8 s c0 c0_2 hv1) [(7,.int .i64 v0)] [(1000,.box 85 [.int .i64 c0,.sl Y7 c0_2,.fn (.func 94) [] [],.fn (.func 94) [] []])] ?_
 refine zB [(4,.bool (decide (0≤v0)))] [(1000,.box 85 [.int .i64 c0,.sl Y7 c0_2,.fn (.func 94) [] [],.fn (.func 94) [] []])] ?_
 refine AW.ret ?_
 obtain rfl:=Option.some.inj h
 exact zR [] [] []
theorem hc_progress_statement_isLasso_2 (move:Int) (a1:Int) (a1_2:List (Int×Int×Int×Bool)) {r:Unit} (h:progress_statement_isLasso_2 move a1 a1_2=some r):HC Try.prog 104 [(1000,.box 85 [.int .i64 a1,.sl Y7 a1_2,.fn (.func 94) [] [],.fn (.func 94) [] []])] [.int .i64 move,.bp 1000 0] [(1000,.box 85 [.int .i64 a1,.sl Y7 a1_2,.fn (.func 94) [] [],.fn (.func 94) [] []])] (.bool (!(a1_2.getD move.toNat (0,0,0,false)).2.2.2)):=by
 unfold progress_statement_isLasso_2 at h
 refine zH Try.func104 [.tmp 3] 13 ?_
 refine zo ?_
 refine zB [(0,.int .i64 move),(1,.bp 1000 0)] [(1000,.box 85 [.int .i64 a1,.sl Y7 a1_2,.fn (.func 94) [] [],.fn (.func 94) [] []])] ?_
 refine AW.seq ?_
 refine AW.draw tab_ok mixed_ok [] [] (by decide) (lex_fast (by kernel_rfl)) ?_
 as_aux_lemma =>
  refine adops_cut 6 (fun K' hK1=>?_)
  try dsimp only [List.drop_succ_cons,List.drop_zero,List.take_succ_cons,List.take_zero]
  simp only [go_sem]
  repeat with_reducible refine zN ?_
  refine hK1 _ ?_
  as_aux_lemma =>
   obtain ⟨c3,h⟩:=ck_some.1 h
   obtain ⟨c4,h⟩:=ck_some.1 h
   refine adops_cut 2 (fun K' hK2=>?_)
   try dsimp only [List.drop_succ_cons,List.drop_zero,List.take_succ_cons,List.take_zero]
   simp only [go_sem]
   repeat with_reducible refine zN ?_
   refine hK2 _ ?_
   as_aux_lemma =>
    obtain ⟨v0,hv5,h⟩:=Option.bind_eq_some_iff.1 h
    refine adops.call (by first | trivial | rfl) rfl rfl rfl (fun _ h=>h) [] [] (hc_progress_statementOf_1 (a1_2.getD move.toNat (0,0,0,false)) hv5) rfl (by (simp only [go_sem]) <;> (with_reducible and_intros) <;> first | assumption | rfl | omega | (unfold maxLen; omega)) (by (simp only [go_sem]) <;> (with_reducible and_intros) <;> first | assumption | rfl | omega | (unfold maxLen; omega)) rfl ?_
    refine adops_cut 1 (fun K' hK6=>?_)
    try dsimp only [List.drop_succ_cons,List.drop_zero,List.take_succ_cons,List.take_zero]
    simp only [go_sem]
    repeat with_reducible refine zN ?_
    refine hK6 _ ?_
    refine adops_nil ?_
    refine athen_n ?_
    refine zV [(3,.bool (!(a1_2.getD move.toNat (0,0,0,false)).2.2.2))] [(1000,.box 85 [.int .i64 a1,.sl Y7 a1_2,.fn (.func 94) [] [],.fn (.func 94) [] []])] gt ?_
    as_aux_lemma =>
     refine AW.ret ?_
     obtain rfl:=Option.some.inj h
     exact zR [] [] []
theorem hc_slices_IndexFunc_9 (s:List Int) (c0:Int) (c0_2:List (Int×Int×Int×Bool)) {r:Int} (h:slices_IndexFunc_9 s c0 c0_2=some r):HC Try.prog 93 [(1000,.box 85 [.int .i64 c0,.sl Y7 c0_2,.fn (.func 94) [] [],.fn (.func 94) [] []])] [.sl (.int .i64) s,.fn (.func 104) [] [.bp 1000 0]] [(1000,.box 85 [.int .i64 c0,.sl Y7 c0_2,.fn (.func 94) [] [],.fn (.func 94) [] []])] (.int .i64 r):=by
 unfold slices_IndexFunc_9 at h
 refine zH Try.func93 [.tmp 4] 19 ?_
 refine zo ?_
 refine zB [(0,.sl (.int .i64) s),(1,.fn (.func 104) [] [.bp 1000 0])] [(1000,.box 85 [.int .i64 c0,.sl Y7 c0_2,.fn (.func 94) [] [],.fn (.func 94) [] []])] ?_
 refine AW.have1 (fun _:Unit=>slices_IndexFunc_9_k1=some r) (fun _=>⟨fr [],hpGet [(1000,.box 85 [.int .i64 c0,.sl Y7 c0_2,.fn (.func 94) [] [],.fn (.func 94) [] []])],gt⟩) (fun _ h=>?_) (fun hk_slices_IndexFunc_9_k1=>?_)
 ·as_aux_lemma =>
   unfold slices_IndexFunc_9_k1 at h
   refine zo ?_
   refine zB [(4,.int .i64 (-1))] [(1000,.box 85 [.int .i64 c0,.sl Y7 c0_2,.fn (.func 94) [] [],.fn (.func 94) [] []])] ?_
   refine AW.ret ?_
   obtain rfl:=Option.some.inj h
   exact zR [] [] []
 ·refine AW.seq ?_
  refine zo ?_
  refine zB [(0,.sl (.int .i64) s),(1,.fn (.func 104) [] [.bp 1000 0]),(7,.int .i64 (s.length:Int)),(8,.int .i64 0)] [(1000,.box 85 [.int .i64 c0,.sl Y7 c0_2,.fn (.func 94) [] [],.fn (.func 94) [] []])] ?_
  refine AW.block ?_
  obtain ⟨rv5,hw1,ho2⟩:=Option.bind_eq_some_iff.1 h
  refine AW.loopO (slices_IndexFunc_9_b1 s c0 c0_2) (fun st1=>⟨fr [(0,.sl (.int .i64) s),(1,.fn (.func 104) [] [.bp 1000 0]),(7,.int .i64 (s.length:Int)),(8,.int .i64 st1)],hpGet [(1000,.box 85 [.int .i64 c0,.sl Y7 c0_2,.fn (.func 94) [] [],.fn (.func 94) [] []])],gt⟩) 0 hw1 (zL [] [] []) ?_
  as_aux_lemma =>
   intro st1 x4 h hd3
   unfold slices_IndexFunc_9_b1 at h
   refine zo ?_
   refine zB [(0,.sl (.int .i64) s),(1,.fn (.func 104) [] [.bp 1000 0]),(7,.int .i64 (s.length:Int)),(8,.int .i64 st1),(9,.bool (decide (st1 < (s.length:Int))))] [(1000,.box 85 [.int .i64 c0,.sl Y7 c0_2,.fn (.func 94) [] [],.fn (.func 94) [] []])] ?_
   refine AW.seq ?_
   refine zQ h (fun hb6 h=>?_) (fun hb6 h=>?_)
   ·refine zk ?_
    refine AW.seq ?_
    refine AW.block ?_
    refine zo ?_
    refine zB [(0,.sl (.int .i64) s),(1,.fn (.func 104) [] [.bp 1000 0]),(5,.int .i64 st1),(7,.int .i64 (s.length:Int)),(8,.int .i64 st1)] [(1000,.box 85 [.int .i64 c0,.sl Y7 c0_2,.fn (.func 94) [] [],.fn (.func 94) [] []])] ?_
    refine zo ?_
    obtain ⟨c7,h⟩:=ck_some.1 h
    obtain ⟨c8,h⟩:=ck_some.1 h
    refine zS 5 [(0,.sl (.int .i64) s),(1,.fn (.func 104) [] [.bp 1000 0]),(5,.int .i64 st1),(7,.int .i64 (s.length:Int)),(8,.int .i64 st1),(11,.fn (.func 104) [] [.bp 1000 0]),(15,.int .i64 (s.getD st1.toNat 0))] [(1000,.box 85 [.int .i64 c0,.sl Y7 c0_2,.fn (.func 94) [] [],.fn (.func 94) [] []])] ?_
    obtain ⟨v0,hv9,h⟩:=Option.bind_eq_some_iff.1 h
    refine zC [] [(1000,1000)] (hc_progress_statement_isLasso_2 (s.getD st1.toNat 0) c0 c0_2 hv9) [(0,.sl (.int .i64) s),(1,.fn (.func 104) [] [.bp 1000 0]),(5,.int .i64 st1),(7,.int .i64 (s.length:Int)),(8,.int .i64 st1),(16,.bool (!(c0_2.getD (s.getD st1.toNat 0).toNat (0,0,0,false)).2.2.2))] [(1000,.box 85 [.int .i64 c0,.sl Y7 c0_2,.fn (.func 94) [] [],.fn (.func 94) [] []])] ?_
    refine zB [(0,.sl (.int .i64) s),(1,.fn (.func 104) [] [.bp 1000 0]),(5,.int .i64 st1),(7,.int .i64 (s.length:Int)),(8,.int .i64 st1),(16,.bool (!(c0_2.getD (s.getD st1.toNat 0).toNat (0,0,0,false)).2.2.2))] [(1000,.box 85 [.int .i64 c0,.sl Y7 c0_2,.fn (.func 94) [] [],.fn (.func 94) [] []])] ?_
    refine zQ h (fun hb10 h=>?_) (fun hb10 h=>?_)
    ·refine zo ?_
     refine zB [(4,.int .i64 st1)] [(1000,.box 85 [.int .i64 c0,.sl Y7 c0_2,.fn (.func 94) [] [],.fn (.func 94) [] []])] ?_
     refine AW.ret ?_
     refine ablock_r ?_
     refine athen_r ?_
     obtain rfl:=Option.some.inj h
     rw [← hd3 _ rfl] at ho2
     have h:=ho2
     try simp only at h
     refine athen_r ?_
     refine ablock_r ?_
     refine athen_r ?_
     obtain rfl:=Option.some.inj h
     exact zR [] [] []
    ·refine zm ?_
     refine athen_n ?_
     refine AW.ops ?_
     obtain ⟨c11,h⟩:=ck_some.1 h
     refine zA [(0,.sl (.int .i64) s),(1,.fn (.func 104) [] [.bp 1000 0]),(7,.int .i64 (s.length:Int)),(8,.int .i64 (st1 + 1))] [(1000,.box 85 [.int .i64 c0,.sl Y7 c0_2,.fn (.func 94) [] [],.fn (.func 94) [] []])] ?_
     obtain rfl:=Option.some.inj h
     exact ⟨_,rfl,zL [] [] []⟩
   ·refine AW.exit ?_
    refine athen_e ?_
    obtain rfl:=Option.some.inj h
    rw [← hd3 _ rfl] at ho2
    have h:=ho2
    try simp only at h
    refine athen_e ?_
    refine ablock_s ?_
    refine athen_n ?_
    exact AW.weaken (zL [] [] []) (hk_slices_IndexFunc_9_k1 () h)
theorem hc_slices_ContainsFunc_4 (s:List Int) (c0:Int) (c0_2:List (Int×Int×Int×Bool)) {r:Bool} (h:slices_ContainsFunc_4 s c0 c0_2=some r):HC Try.prog 99 [(1000,.box 85 [.int .i64 c0,.sl Y7 c0_2,.fn (.func 94) [] [],.fn (.func 94) [] []])] [.sl (.int .i64) s,.fn (.func 104) [] [.bp 1000 0]] [(1000,.box 85 [.int .i64 c0,.sl Y7 c0_2,.fn (.func 94) [] [],.fn (.func 94) [] []])] (.bool r):=by
 unfold slices_ContainsFunc_4 at h
 refine zH Try.func99 [.tmp 4] 9 ?_
 refine zo ?_
 refine zB [(0,.sl (.int .i64) s),(1,.fn (.func 104) [] [.bp 1000 0])] [(1000,.box 85 [.int .i64 c0,.sl Y7 c0_2,.fn (.func 94) [] [],.fn (.func 94) [] []])] ?_
 refine zo ?_
 refine zS 2 [(5,.sl (.int .i64) s),(6,.fn (.func 104) [] [.bp 1000 0])] [(1000,.box 85 [.int .i64 c0,.sl Y7 c0_2,.fn (.func 94) [] [],.fn (.func 94) [] []])] ?_
 obtain ⟨v0,hv1,h⟩:=Option.bind_eq_some_iff.1 h
 refine zC [] [(1000,1000)] (hc_slices_IndexFunc_9 s c0 c0_2 hv1) [(7,.int .i64 v0)] [(1000,.box 85 [.int .i64 c0,.sl Y7 c0_2,.fn (.func 94) [] [],.fn (.func 94) [] []])] ?_
 refine zB [(4,.bool (decide (0≤v0)))] [(1000,.box 85 [.int .i64 c0,.sl Y7 c0_2,.fn (.func 94) [] [],.fn (.func 94) [] []])] ?_
 refine AW.ret ?_
 obtain rfl:=Option.some.inj h
 exact zR [] [] []
end Go.Proofs.Yteclokkdgmacpaa
