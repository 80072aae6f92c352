import Derived.Test.YtenchhmcjmjlbaaCkp
import Derived.Test.YtenchhmcjmjlbaaShk
import Derived.Test.YtenchhmcjmjlbaaAvd
import Derived.Test.YtenchhmcjmjlbaaCbc6
namespace Go.Proofs.Ytenchhmcjmjlbaa
open Go.RowKit
set_option linter.unusedSimpArgs false
set_option linter.unusedVariables false
set_option linter.constructorNameAsVariable false
set_option maxRecDepth 100000
set_option maxHeartbeats 40000000
theorem hc_lineallaw08_Sane {r:Bool} (h:lineallaw08_Sane=some r):HC Try.prog 11 [] [] [] (.bool r):=by
 unfold lineallaw08_Sane at h
 refine zH Try.func11 [.tmp 0] 40 ?_
 refine zo ?_
 refine zB [] [] ?_
 refine zo ?_
 refine zS 5 [(8,.own 8)] [(8,.arr 74 (.pair (.int .i64) (.pair (.int .i64) (.pair (.int .i64) (.int .i64)))) [(1,0,0,0),(5,2,0,1),(2,0,2,0),(7,0,0,0)])] ?_
 refine zB [(1,.own 9)] [(9,.arr 71 (.sl (.pair (.int .i64) (.pair (.int .i64) (.pair (.int .i64) (.int .i64))))) [[(1,0,0,0),(5,2,0,1),(2,0,2,0),(7,0,0,0)]])] ?_
 refine zo ?_
 refine zS 5 [(11,.own 9),(14,.own 14),(15,.own 15)] [(9,.arr 71 (.sl (.pair (.int .i64) (.pair (.int .i64) (.pair (.int .i64) (.int .i64))))) [[(1,0,0,0),(5,2,0,1),(2,0,2,0),(7,0,0,0)]]),(14,.arr 28 (.sl (.int .i64)) [[0],[0]]),(15,.arr 3 (.int .i64) [0,0,1,1,0,0,1,1])] ?_
 obtain ⟨v0,hv1,h⟩:=Option.bind_eq_some_iff.1 h
 refine zC [9,14,15] [] (hc_code_Run [[(1,0,0,0),(5,2,0,1),(2,0,2,0),(7,0,0,0)]] [[0],[0]] [0,0,1,1,0,0,1,1] hv1) [(16,.tup [.own 26000,.int .i64 v0.2])] [(26000,.arr 68 (.pair (.int .i64) (.pair (.int .i64) (.pair (.int .i64) (.pair (.int .i64) (.pair (.int .i64) (.int .i64)))))) v0.1)] ?_
 refine zB [(2,.own 26000),(3,.int .i64 v0.2)] [(26000,.arr 68 (.pair (.int .i64) (.pair (.int .i64) (.pair (.int .i64) (.pair (.int .i64) (.pair (.int .i64) (.int .i64)))))) v0.1)] ?_
 refine zo ?_
 refine zS 3 [(2,.own 26000),(21,.bool (decide (v0.2=0)))] [(26000,.arr 68 (.pair (.int .i64) (.pair (.int .i64) (.pair (.int .i64) (.pair (.int .i64) (.pair (.int .i64) (.int .i64)))))) v0.1)] ?_
 rcases zI h with ⟨hb2,h⟩|⟨hb2,h⟩
 ·refine zS 5 [(2,.own 26000),(26,.bool (decide ((v0.1.length:Int)=2)))] [(26000,.arr 68 (.pair (.int .i64) (.pair (.int .i64) (.pair (.int .i64) (.pair (.int .i64) (.pair (.int .i64) (.int .i64)))))) v0.1)] ?_
  rcases zI h with ⟨hb3,h⟩|⟨hb3,h⟩
  ·obtain ⟨c4,h⟩:=ck_some.1 h
   refine zS 4 [(2,.own 26000),(26,.bool true),(29,.agg [.int .i64 (v0.1.getD 0 (0,0,0,0,0,0)).1,.int .i64 (v0.1.getD 0 (0,0,0,0,0,0)).2.1,.int .i64 (v0.1.getD 0 (0,0,0,0,0,0)).2.2.1,.int .i64 (v0.1.getD 0 (0,0,0,0,0,0)).2.2.2.1,.int .i64 (v0.1.getD 0 (0,0,0,0,0,0)).2.2.2.2.1,.int .i64 (v0.1.getD 0 (0,0,0,0,0,0)).2.2.2.2.2]),(30,.agg [.int .i64 0,.int .i64 0,.int .i64 0,.int .i64 0,.int .i64 1,.int .i64 12])] [(26000,.arr 68 (.pair (.int .i64) (.pair (.int .i64) (.pair (.int .i64) (.pair (.int .i64) (.pair (.int .i64) (.int .i64)))))) v0.1)] ?_
   obtain ⟨c5,h⟩:=ck_some.1 h
   obtain ⟨c6,h⟩:=ck_some.1 h
   obtain ⟨c7,h⟩:=ck_some.1 h
   obtain ⟨c8,h⟩:=ck_some.1 h
   obtain ⟨c9,h⟩:=ck_some.1 h
   obtain ⟨c10,h⟩:=ck_some.1 h
   obtain ⟨c11,h⟩:=ck_some.1 h
   obtain ⟨c12,h⟩:=ck_some.1 h
   obtain ⟨c13,h⟩:=ck_some.1 h
   obtain ⟨c14,h⟩:=ck_some.1 h
   obtain ⟨c15,h⟩:=ck_some.1 h
   obtain ⟨c16,h⟩:=ck_some.1 h
   refine AO.aggEqG (neg:=false) eqty_68 (by decide) (.inr ⟨_,_,_,rfl,rfl,rfl⟩) rfl (lx:=[.int .i64 (v0.1.getD 0 (0,0,0,0,0,0)).1,.int .i64 (v0.1.getD 0 (0,0,0,0,0,0)).2.1,.int .i64 (v0.1.getD 0 (0,0,0,0,0,0)).2.2.1,.int .i64 (v0.1.getD 0 (0,0,0,0,0,0)).2.2.2.1,.int .i64 (v0.1.getD 0 (0,0,0,0,0,0)).2.2.2.2.1,.int .i64 (v0.1.getD 0 (0,0,0,0,0,0)).2.2.2.2.2]) (ly:=[.int .i64 0,.int .i64 0,.int .i64 0,.int .i64 0,.int .i64 1,.int .i64 12]) (by first|rfl|(simp only [go_sem,hb2,hb3])<;>(with_reducible and_intros)<;>first|assumption|rfl|omega|(unfold maxLen; omega)) (by first|rfl|(simp only [go_sem,hb2,hb3])<;>(with_reducible and_intros)<;>first|assumption|rfl|omega|(unfold maxLen; omega)) (by first|rfl|(simp only [go_sem,hb2,hb3])<;>(with_reducible and_intros)<;>first|assumption|rfl|omega|(unfold maxLen; omega)) (by first|rfl|(simp only [go_sem,hb2,hb3])<;>(with_reducible and_intros)<;>first|assumption|rfl|omega|(unfold maxLen; omega)) (by first|assumption|omega|(simp only [go_sem,hb2,hb3])<;>(with_reducible and_intros)<;>first|assumption|rfl|omega|(unfold maxLen; omega)) (by first|assumption|omega|(simp only [go_sem,hb2,hb3])<;>(with_reducible and_intros)<;>first|assumption|rfl|omega|(unfold maxLen; omega)) ?_
   refine zT [(2,.own 26000),(26,.bool true),(31,.bool (decide ((v0.1.getD 0 (0,0,0,0,0,0))=(0,0,0,0,1,12))))] [(26000,.arr 68 (.pair (.int .i64) (.pair (.int .i64) (.pair (.int .i64) (.pair (.int .i64) (.pair (.int .i64) (.int .i64)))))) v0.1)] gt ?_
   refine zS 2 [(2,.own 26000),(33,.bool (decide ((v0.1.getD 0 (0,0,0,0,0,0))=(0,0,0,0,1,12))))] [(26000,.arr 68 (.pair (.int .i64) (.pair (.int .i64) (.pair (.int .i64) (.pair (.int .i64) (.pair (.int .i64) (.int .i64)))))) v0.1)] ?_
   rcases zI h with ⟨hb17,h⟩|⟨hb17,h⟩
   ·obtain ⟨c18,h⟩:=ck_some.1 h
    refine zS 4 [(33,.bool true),(36,.agg [.int .i64 (v0.1.getD 1 (0,0,0,0,0,0)).1,.int .i64 (v0.1.getD 1 (0,0,0,0,0,0)).2.1,.int .i64 (v0.1.getD 1 (0,0,0,0,0,0)).2.2.1,.int .i64 (v0.1.getD 1 (0,0,0,0,0,0)).2.2.2.1,.int .i64 (v0.1.getD 1 (0,0,0,0,0,0)).2.2.2.2.1,.int .i64 (v0.1.getD 1 (0,0,0,0,0,0)).2.2.2.2.2]),(37,.agg [.int .i64 1,.int .i64 0,.int .i64 0,.int .i64 0,.int .i64 5,.int .i64 16])] [] ?_
    obtain ⟨c19,h⟩:=ck_some.1 h
    obtain ⟨c20,h⟩:=ck_some.1 h
    obtain ⟨c21,h⟩:=ck_some.1 h
    obtain ⟨c22,h⟩:=ck_some.1 h
    obtain ⟨c23,h⟩:=ck_some.1 h
    obtain ⟨c24,h⟩:=ck_some.1 h
    obtain ⟨c25,h⟩:=ck_some.1 h
    obtain ⟨c26,h⟩:=ck_some.1 h
    obtain ⟨c27,h⟩:=ck_some.1 h
    obtain ⟨c28,h⟩:=ck_some.1 h
    obtain ⟨c29,h⟩:=ck_some.1 h
    obtain ⟨c30,h⟩:=ck_some.1 h
    refine AO.aggEqG (neg:=false) eqty_68 (by decide) (.inr ⟨_,_,_,rfl,rfl,rfl⟩) rfl (lx:=[.int .i64 (v0.1.getD 1 (0,0,0,0,0,0)).1,.int .i64 (v0.1.getD 1 (0,0,0,0,0,0)).2.1,.int .i64 (v0.1.getD 1 (0,0,0,0,0,0)).2.2.1,.int .i64 (v0.1.getD 1 (0,0,0,0,0,0)).2.2.2.1,.int .i64 (v0.1.getD 1 (0,0,0,0,0,0)).2.2.2.2.1,.int .i64 (v0.1.getD 1 (0,0,0,0,0,0)).2.2.2.2.2]) (ly:=[.int .i64 1,.int .i64 0,.int .i64 0,.int .i64 0,.int .i64 5,.int .i64 16]) (by first|rfl|(simp only [go_sem,hb2,hb3,hb17])<;>(with_reducible and_intros)<;>first|assumption|rfl|omega|(unfold maxLen; omega)) (by first|rfl|(simp only [go_sem,hb2,hb3,hb17])<;>(with_reducible and_intros)<;>first|assumption|rfl|omega|(unfold maxLen; omega)) (by first|rfl|(simp only [go_sem,hb2,hb3,hb17])<;>(with_reducible and_intros)<;>first|assumption|rfl|omega|(unfold maxLen; omega)) (by first|rfl|(simp only [go_sem,hb2,hb3,hb17])<;>(with_reducible and_intros)<;>first|assumption|rfl|omega|(unfold maxLen; omega)) (by first|assumption|omega|(simp only [go_sem,hb2,hb3,hb17])<;>(with_reducible and_intros)<;>first|assumption|rfl|omega|(unfold maxLen; omega)) (by first|assumption|omega|(simp only [go_sem,hb2,hb3,hb17])<;>(with_reducible and_intros)<;>first|assumption|rfl|omega|(unfold maxLen; omega)) ?_
    refine zT [(33,.bool true),(38,.bool (decide ((v0.1.getD 1 (0,0,0,0,0,0))=(1,0,0,0,5,16))))] [] gt ?_
    refine zB [(0,.bool (decide ((v0.1.getD 1 (0,0,0,0,0,0))=(1,0,0,0,5,16))))] [] ?_
    refine AW.ret ?_
    obtain rfl:=Option.some.inj h
    exact zR [] [] []
   ·refine zS 4 [(33,.bool false),(36,.cv (undef)),(37,.cv (undef))] [] ?_
    refine zB [(0,.bool false)] [] ?_
    refine AW.ret ?_
    obtain rfl:=Option.some.inj h
    exact zR [] [] []
  ·refine zS 4 [(2,.own 26000),(26,.bool false),(29,.cv (undef)),(30,.cv (undef))] [(26000,.arr 68 (.pair (.int .i64) (.pair (.int .i64) (.pair (.int .i64) (.pair (.int .i64) (.pair (.int .i64) (.int .i64)))))) v0.1)] ?_
   refine zS 5 [(33,.bool false),(35,.cv (undef))] [] ?_
   refine zB [(0,.bool false)] [] ?_
   refine AW.ret ?_
   obtain rfl:=Option.some.inj h
   exact zR [] [] []
 ·refine zS 5 [(2,.own 26000),(26,.bool false)] [(26000,.arr 68 (.pair (.int .i64) (.pair (.int .i64) (.pair (.int .i64) (.pair (.int .i64) (.pair (.int .i64) (.int .i64)))))) v0.1)] ?_
  refine zS 4 [(2,.own 26000),(26,.bool false),(29,.cv (undef)),(30,.cv (undef))] [(26000,.arr 68 (.pair (.int .i64) (.pair (.int .i64) (.pair (.int .i64) (.pair (.int .i64) (.pair (.int .i64) (.int .i64)))))) v0.1)] ?_
  refine zS 5 [(33,.bool false),(35,.cv (undef))] [] ?_
  refine zB [(0,.bool false)] [] ?_
  refine AW.ret ?_
  obtain rfl:=Option.some.inj h
  exact zR [] [] []
theorem hc_linealref08_within (lo:Int) (n:Int) (hi:Int) {r:Bool} (h:linealref08_within lo n hi=some r):HC Try.prog 55 [] [.int .i64 lo,.int .i64 n,.int .i64 hi] [] (.bool r):=by
 unfold linealref08_within at h
 refine zH Try.func55 [.tmp 6] 15 ?_
 refine zo ?_
 refine zB [(0,.int .i64 lo),(1,.int .i64 n),(2,.int .i64 hi)] [] ?_
 refine zo ?_
 refine zS 4 [(1,.int .i64 n),(2,.int .i64 hi),(10,.bool (decide (lo≤n)))] [] ?_
 rcases zI h with ⟨hb1,h⟩|⟨hb1,h⟩
 ·refine zB [(6,.bool (decide (n≤hi)))] [] ?_
  refine AW.ret ?_
  obtain rfl:=Option.some.inj h
  exact zR [] [] []
 ·refine zB [(6,.bool false)] [] ?_
  refine AW.ret ?_
  obtain rfl:=Option.some.inj h
  exact zR [] [] []
theorem hc_linealref08_isRegister (n:Int) {r:Bool} (h:linealref08_isRegister n=some r):HC Try.prog 115 [] [.int .i64 n] [] (.bool r):=by
 unfold linealref08_isRegister at h
 refine zH Try.func115 [.tmp 2] 5 ?_
 refine zo ?_
 refine zB [(0,.int .i64 n)] [] ?_
 refine zo ?_
 refine zS 1 [(3,.int .i64 n)] [] ?_
 obtain ⟨v0,hv1,h⟩:=Option.bind_eq_some_iff.1 h
 refine zC [] [] (hc_linealref08_within 0 n 3 hv1) [(4,.bool v0)] [] ?_
 refine zB [(2,.bool v0)] [] ?_
 refine AW.ret ?_
 obtain rfl:=Option.some.inj h
 exact zR [] [] []
theorem hc_linealref08_isCell (n:Int) {r:Bool} (h:linealref08_isCell n=some r):HC Try.prog 87 [] [.int .i64 n] [] (.bool r):=by
 unfold linealref08_isCell at h
 refine zH Try.func87 [.tmp 2] 5 ?_
 refine zo ?_
 refine zB [(0,.int .i64 n)] [] ?_
 refine zo ?_
 refine zS 1 [(3,.int .i64 n)] [] ?_
 obtain ⟨v0,hv1,h⟩:=Option.bind_eq_some_iff.1 h
 refine zC [] [] (hc_linealref08_within 0 n 2 hv1) [(4,.bool v0)] [] ?_
 refine zB [(2,.bool v0)] [] ?_
 refine AW.ret ?_
 obtain rfl:=Option.some.inj h
 exact zR [] [] []
theorem hc_linealref08_isNumber (n:Int) {r:Bool} (h:linealref08_isNumber n=some r):HC Try.prog 116 [] [.int .i64 n] [] (.bool r):=by
 unfold linealref08_isNumber at h
 refine zH Try.func116 [.tmp 2] 5 ?_
 refine zo ?_
 refine zB [(0,.int .i64 n)] [] ?_
 refine zo ?_
 refine zS 1 [(3,.int .i64 n)] [] ?_
 obtain ⟨v0,hv1,h⟩:=Option.bind_eq_some_iff.1 h
 refine zC [] [] (hc_linealref08_within 0 n 9 hv1) [(4,.bool v0)] [] ?_
 refine zB [(2,.bool v0)] [] ?_
 refine AW.ret ?_
 obtain rfl:=Option.some.inj h
 exact zR [] [] []
theorem hc_linealref08_isLine (l:Int×Int×Int×Int) (lines:Int) {r:Bool} (h:linealref08_isLine l lines=some r):HC Try.prog 56 [] [.agg [.int .i64 l.1,.int .i64 l.2.1,.int .i64 l.2.2.1,.int .i64 l.2.2.2],.int .i64 lines] [] (.bool r):=by
 unfold linealref08_isLine at h
 refine zH Try.func56 [.tmp 4] 114 ?_
 refine zo ?_
 refine zB [(1,.int .i64 lines),(2,.bp 2 0)] [(2,.box 74 [.int .i64 l.1,.int .i64 l.2.1,.int .i64 l.2.2.1,.int .i64 l.2.2.2])] ?_
 refine AW.seq ?_
 refine zo ?_
 refine zB [(1,.int .i64 lines),(2,.bp 2 0),(6,.int .i64 l.1)] [(2,.box 74 [.int .i64 l.1,.int .i64 l.2.1,.int .i64 l.2.2.1,.int .i64 l.2.2.2])] ?_
 refine AW.block ?_
 refine zo ?_
 refine zB [(1,.int .i64 lines),(2,.bp 2 0),(6,.int .i64 l.1),(7,.bool (decide (l.1=1)))] [(2,.box 74 [.int .i64 l.1,.int .i64 l.2.1,.int .i64 l.2.2.1,.int .i64 l.2.2.2])] ?_
 refine zQ h (fun hb1 h=>?_) (fun hb1 h=>?_)
 ·refine zo ?_
  refine zS 2 [(2,.bp 2 0),(10,.int .i64 l.2.1)] [(2,.box 74 [.int .i64 l.1,.int .i64 l.2.1,.int .i64 l.2.2.1,.int .i64 l.2.2.2])] ?_
  obtain ⟨v0,hv2,h⟩:=Option.bind_eq_some_iff.1 h
  refine zC [] [] (hc_linealref08_isRegister l.2.1 hv2) [(2,.bp 2 0),(11,.bool v0)] [(2,.box 74 [.int .i64 l.1,.int .i64 l.2.1,.int .i64 l.2.2.1,.int .i64 l.2.2.2])] ?_
  refine zS 1 [(2,.bp 2 0),(12,.bool v0)] [(2,.box 74 [.int .i64 l.1,.int .i64 l.2.1,.int .i64 l.2.2.1,.int .i64 l.2.2.2])] ?_
  rcases zI h with ⟨hb3,h⟩|⟨hb3,h⟩
  ·refine zS 2 [(2,.bp 2 0),(12,.bool true),(14,.int .i64 l.2.2.1)] [(2,.box 74 [.int .i64 l.1,.int .i64 l.2.1,.int .i64 l.2.2.1,.int .i64 l.2.2.2])] ?_
   obtain ⟨v0_2,hv4,h⟩:=Option.bind_eq_some_iff.1 h
   refine zG [] [] (hc_linealref08_isCell l.2.2.1 hv4) [(2,.bp 2 0),(12,.bool true),(15,.bool v0_2)] [(2,.box 74 [.int .i64 l.1,.int .i64 l.2.1,.int .i64 l.2.2.1,.int .i64 l.2.2.2])] ?_
   refine zS 2 [(2,.bp 2 0),(17,.bool v0_2)] [(2,.box 74 [.int .i64 l.1,.int .i64 l.2.1,.int .i64 l.2.2.1,.int .i64 l.2.2.2])] ?_
   rcases zI h with ⟨hb5,h⟩|⟨hb5,h⟩
   ·refine zB [(4,.bool (decide (l.2.2.2=0)))] [] ?_
    refine AW.ret ?_
    refine ablock_r ?_
    refine athen_r ?_
    obtain rfl:=Option.some.inj h
    exact zR [] [] []
   ·refine zB [(4,.bool false)] [] ?_
    refine AW.ret ?_
    refine ablock_r ?_
    refine athen_r ?_
    obtain rfl:=Option.some.inj h
    exact zR [] [] []
  ·refine zS 5 [(2,.bp 2 0),(17,.bool false)] [(2,.box 74 [.int .i64 l.1,.int .i64 l.2.1,.int .i64 l.2.2.1,.int .i64 l.2.2.2])] ?_
   refine zB [(4,.bool false)] [] ?_
   refine AW.ret ?_
   refine ablock_r ?_
   refine athen_r ?_
   obtain rfl:=Option.some.inj h
   exact zR [] [] []
 ·refine zo ?_
  refine zB [(1,.int .i64 lines),(2,.bp 2 0),(6,.int .i64 l.1),(22,.bool (decide (l.1=2)))] [(2,.box 74 [.int .i64 l.1,.int .i64 l.2.1,.int .i64 l.2.2.1,.int .i64 l.2.2.2])] ?_
  refine zQ h (fun hb6 h=>?_) (fun hb6 h=>?_)
  ·refine zo ?_
   refine zS 2 [(2,.bp 2 0),(25,.int .i64 l.2.1)] [(2,.box 74 [.int .i64 l.1,.int .i64 l.2.1,.int .i64 l.2.2.1,.int .i64 l.2.2.2])] ?_
   obtain ⟨v0_3,hv7,h⟩:=Option.bind_eq_some_iff.1 h
   refine zC [] [] (hc_linealref08_isCell l.2.1 hv7) [(2,.bp 2 0),(26,.bool v0_3)] [(2,.box 74 [.int .i64 l.1,.int .i64 l.2.1,.int .i64 l.2.2.1,.int .i64 l.2.2.2])] ?_
   refine zS 1 [(2,.bp 2 0),(27,.bool v0_3)] [(2,.box 74 [.int .i64 l.1,.int .i64 l.2.1,.int .i64 l.2.2.1,.int .i64 l.2.2.2])] ?_
   rcases zI h with ⟨hb8,h⟩|⟨hb8,h⟩
   ·refine zS 2 [(2,.bp 2 0),(27,.bool true),(29,.int .i64 l.2.2.1)] [(2,.box 74 [.int .i64 l.1,.int .i64 l.2.1,.int .i64 l.2.2.1,.int .i64 l.2.2.2])] ?_
    obtain ⟨v0_4,hv9,h⟩:=Option.bind_eq_some_iff.1 h
    refine zG [] [] (hc_linealref08_isRegister l.2.2.1 hv9) [(2,.bp 2 0),(27,.bool true),(30,.bool v0_4)] [(2,.box 74 [.int .i64 l.1,.int .i64 l.2.1,.int .i64 l.2.2.1,.int .i64 l.2.2.2])] ?_
    refine zS 2 [(2,.bp 2 0),(32,.bool v0_4)] [(2,.box 74 [.int .i64 l.1,.int .i64 l.2.1,.int .i64 l.2.2.1,.int .i64 l.2.2.2])] ?_
    rcases zI h with ⟨hb10,h⟩|⟨hb10,h⟩
    ·refine zB [(4,.bool (decide (l.2.2.2=0)))] [] ?_
     refine AW.ret ?_
     refine ablock_r ?_
     refine athen_r ?_
     obtain rfl:=Option.some.inj h
     exact zR [] [] []
    ·refine zB [(4,.bool false)] [] ?_
     refine AW.ret ?_
     refine ablock_r ?_
     refine athen_r ?_
     obtain rfl:=Option.some.inj h
     exact zR [] [] []
   ·refine zS 5 [(2,.bp 2 0),(32,.bool false)] [(2,.box 74 [.int .i64 l.1,.int .i64 l.2.1,.int .i64 l.2.2.1,.int .i64 l.2.2.2])] ?_
    refine zB [(4,.bool false)] [] ?_
    refine AW.ret ?_
    refine ablock_r ?_
    refine athen_r ?_
    obtain rfl:=Option.some.inj h
    exact zR [] [] []
  ·refine zo ?_
   refine zB [(1,.int .i64 lines),(2,.bp 2 0),(6,.int .i64 l.1),(37,.bool (decide (l.1=3)))] [(2,.box 74 [.int .i64 l.1,.int .i64 l.2.1,.int .i64 l.2.2.1,.int .i64 l.2.2.2])] ?_
   refine zQ h (fun hb11 h=>?_) (fun hb11 h=>?_)
   ·refine zo ?_
    refine zS 2 [(2,.bp 2 0),(40,.int .i64 l.2.1)] [(2,.box 74 [.int .i64 l.1,.int .i64 l.2.1,.int .i64 l.2.2.1,.int .i64 l.2.2.2])] ?_
    obtain ⟨v0_5,hv12,h⟩:=Option.bind_eq_some_iff.1 h
    refine zC [] [] (hc_linealref08_isCell l.2.1 hv12) [(2,.bp 2 0),(41,.bool v0_5)] [(2,.box 74 [.int .i64 l.1,.int .i64 l.2.1,.int .i64 l.2.2.1,.int .i64 l.2.2.2])] ?_
    refine zS 1 [(2,.bp 2 0),(42,.bool v0_5)] [(2,.box 74 [.int .i64 l.1,.int .i64 l.2.1,.int .i64 l.2.2.1,.int .i64 l.2.2.2])] ?_
    rcases zI h with ⟨hb13,h⟩|⟨hb13,h⟩
    ·refine zS 2 [(2,.bp 2 0),(42,.bool true),(44,.int .i64 l.2.2.1)] [(2,.box 74 [.int .i64 l.1,.int .i64 l.2.1,.int .i64 l.2.2.1,.int .i64 l.2.2.2])] ?_
     obtain ⟨v0_6,hv14,h⟩:=Option.bind_eq_some_iff.1 h
     refine zG [] [] (hc_linealref08_isRegister l.2.2.1 hv14) [(2,.bp 2 0),(42,.bool true),(45,.bool v0_6)] [(2,.box 74 [.int .i64 l.1,.int .i64 l.2.1,.int .i64 l.2.2.1,.int .i64 l.2.2.2])] ?_
     refine zS 2 [(2,.bp 2 0),(47,.bool v0_6)] [(2,.box 74 [.int .i64 l.1,.int .i64 l.2.1,.int .i64 l.2.2.1,.int .i64 l.2.2.2])] ?_
     rcases zI h with ⟨hb15,h⟩|⟨hb15,h⟩
     ·refine zS 2 [(47,.bool true),(49,.int .i64 l.2.2.2)] [] ?_
      obtain ⟨v0_7,hv16,h⟩:=Option.bind_eq_some_iff.1 h
      refine zG [] [] (hc_linealref08_isRegister l.2.2.2 hv16) [(47,.bool true),(50,.bool v0_7)] [] ?_
      refine zB [(4,.bool v0_7)] [] ?_
      refine AW.ret ?_
      refine ablock_r ?_
      refine athen_r ?_
      obtain rfl:=Option.some.inj h
      exact zR [] [] []
     ·refine zB [(4,.bool false)] [] ?_
      refine AW.ret ?_
      refine ablock_r ?_
      refine athen_r ?_
      obtain rfl:=Option.some.inj h
      exact zR [] [] []
    ·refine zS 5 [(2,.bp 2 0),(47,.bool false)] [(2,.box 74 [.int .i64 l.1,.int .i64 l.2.1,.int .i64 l.2.2.1,.int .i64 l.2.2.2])] ?_
     refine zB [(4,.bool false)] [] ?_
     refine AW.ret ?_
     refine ablock_r ?_
     refine athen_r ?_
     obtain rfl:=Option.some.inj h
     exact zR [] [] []
   ·refine zo ?_
    refine zB [(1,.int .i64 lines),(2,.bp 2 0),(6,.int .i64 l.1),(52,.bool (decide (l.1=4)))] [(2,.box 74 [.int .i64 l.1,.int .i64 l.2.1,.int .i64 l.2.2.1,.int .i64 l.2.2.2])] ?_
    refine zQ h (fun hb17 h=>?_) (fun hb17 h=>?_)
    ·refine zo ?_
     refine zS 2 [(2,.bp 2 0),(55,.int .i64 l.2.1)] [(2,.box 74 [.int .i64 l.1,.int .i64 l.2.1,.int .i64 l.2.2.1,.int .i64 l.2.2.2])] ?_
     obtain ⟨v0_8,hv18,h⟩:=Option.bind_eq_some_iff.1 h
     refine zC [] [] (hc_linealref08_isRegister l.2.1 hv18) [(2,.bp 2 0),(56,.bool v0_8)] [(2,.box 74 [.int .i64 l.1,.int .i64 l.2.1,.int .i64 l.2.2.1,.int .i64 l.2.2.2])] ?_
     refine zS 1 [(2,.bp 2 0),(57,.bool v0_8)] [(2,.box 74 [.int .i64 l.1,.int .i64 l.2.1,.int .i64 l.2.2.1,.int .i64 l.2.2.2])] ?_
     rcases zI h with ⟨hb19,h⟩|⟨hb19,h⟩
     ·refine zS 2 [(2,.bp 2 0),(57,.bool true),(59,.int .i64 l.2.2.1)] [(2,.box 74 [.int .i64 l.1,.int .i64 l.2.1,.int .i64 l.2.2.1,.int .i64 l.2.2.2])] ?_
      obtain ⟨v0_9,hv20,h⟩:=Option.bind_eq_some_iff.1 h
      refine zG [] [] (hc_linealref08_isNumber l.2.2.1 hv20) [(2,.bp 2 0),(57,.bool true),(60,.bool v0_9)] [(2,.box 74 [.int .i64 l.1,.int .i64 l.2.1,.int .i64 l.2.2.1,.int .i64 l.2.2.2])] ?_
      refine zS 2 [(2,.bp 2 0),(62,.bool v0_9)] [(2,.box 74 [.int .i64 l.1,.int .i64 l.2.1,.int .i64 l.2.2.1,.int .i64 l.2.2.2])] ?_
      rcases zI h with ⟨hb21,h⟩|⟨hb21,h⟩
      ·refine zB [(4,.bool (decide (l.2.2.2=0)))] [] ?_
       refine AW.ret ?_
       refine ablock_r ?_
       refine athen_r ?_
       obtain rfl:=Option.some.inj h
       exact zR [] [] []
      ·refine zB [(4,.bool false)] [] ?_
       refine AW.ret ?_
       refine ablock_r ?_
       refine athen_r ?_
       obtain rfl:=Option.some.inj h
       exact zR [] [] []
     ·refine zS 5 [(2,.bp 2 0),(62,.bool false)] [(2,.box 74 [.int .i64 l.1,.int .i64 l.2.1,.int .i64 l.2.2.1,.int .i64 l.2.2.2])] ?_
      refine zB [(4,.bool false)] [] ?_
      refine AW.ret ?_
      refine ablock_r ?_
      refine athen_r ?_
      obtain rfl:=Option.some.inj h
      exact zR [] [] []
    ·refine zo ?_
     refine zB [(1,.int .i64 lines),(2,.bp 2 0),(6,.int .i64 l.1),(67,.bool (decide (l.1=5)))] [(2,.box 74 [.int .i64 l.1,.int .i64 l.2.1,.int .i64 l.2.2.1,.int .i64 l.2.2.2])] ?_
     refine zQ h (fun hb22 h=>?_) (fun hb22 h=>?_)
     ·refine zo ?_
      refine zS 2 [(2,.bp 2 0),(70,.int .i64 l.2.1)] [(2,.box 74 [.int .i64 l.1,.int .i64 l.2.1,.int .i64 l.2.2.1,.int .i64 l.2.2.2])] ?_
      obtain ⟨v0_10,hv23,h⟩:=Option.bind_eq_some_iff.1 h
      refine zC [] [] (hc_linealref08_isRegister l.2.1 hv23) [(2,.bp 2 0),(71,.bool v0_10)] [(2,.box 74 [.int .i64 l.1,.int .i64 l.2.1,.int .i64 l.2.2.1,.int .i64 l.2.2.2])] ?_
      refine zS 1 [(2,.bp 2 0),(72,.bool v0_10)] [(2,.box 74 [.int .i64 l.1,.int .i64 l.2.1,.int .i64 l.2.2.1,.int .i64 l.2.2.2])] ?_
      rcases zI h with ⟨hb24,h⟩|⟨hb24,h⟩
      ·refine zS 2 [(2,.bp 2 0),(72,.bool true),(74,.int .i64 l.2.2.1)] [(2,.box 74 [.int .i64 l.1,.int .i64 l.2.1,.int .i64 l.2.2.1,.int .i64 l.2.2.2])] ?_
       obtain ⟨v0_11,hv25,h⟩:=Option.bind_eq_some_iff.1 h
       refine zG [] [] (hc_linealref08_isRegister l.2.2.1 hv25) [(2,.bp 2 0),(72,.bool true),(75,.bool v0_11)] [(2,.box 74 [.int .i64 l.1,.int .i64 l.2.1,.int .i64 l.2.2.1,.int .i64 l.2.2.2])] ?_
       refine zS 2 [(2,.bp 2 0),(77,.bool v0_11)] [(2,.box 74 [.int .i64 l.1,.int .i64 l.2.1,.int .i64 l.2.2.1,.int .i64 l.2.2.2])] ?_
       rcases zI h with ⟨hb26,h⟩|⟨hb26,h⟩
       ·refine zS 2 [(77,.bool true),(79,.int .i64 l.2.2.2)] [] ?_
        obtain ⟨v0_12,hv27,h⟩:=Option.bind_eq_some_iff.1 h
        refine zG [] [] (hc_linealref08_isRegister l.2.2.2 hv27) [(77,.bool true),(80,.bool v0_12)] [] ?_
        refine zB [(4,.bool v0_12)] [] ?_
        refine AW.ret ?_
        refine ablock_r ?_
        refine athen_r ?_
        obtain rfl:=Option.some.inj h
        exact zR [] [] []
       ·refine zB [(4,.bool false)] [] ?_
        refine AW.ret ?_
        refine ablock_r ?_
        refine athen_r ?_
        obtain rfl:=Option.some.inj h
        exact zR [] [] []
      ·refine zS 5 [(2,.bp 2 0),(77,.bool false)] [(2,.box 74 [.int .i64 l.1,.int .i64 l.2.1,.int .i64 l.2.2.1,.int .i64 l.2.2.2])] ?_
       refine zB [(4,.bool false)] [] ?_
       refine AW.ret ?_
       refine ablock_r ?_
       refine athen_r ?_
       obtain rfl:=Option.some.inj h
       exact zR [] [] []
     ·refine zo ?_
      refine zB [(1,.int .i64 lines),(2,.bp 2 0),(6,.int .i64 l.1),(82,.bool (decide (l.1=6)))] [(2,.box 74 [.int .i64 l.1,.int .i64 l.2.1,.int .i64 l.2.2.1,.int .i64 l.2.2.2])] ?_
      refine zQ h (fun hb28 h=>?_) (fun hb28 h=>?_)
      ·refine zo ?_
       refine zS 2 [(1,.int .i64 lines),(2,.bp 2 0),(85,.int .i64 l.2.1)] [(2,.box 74 [.int .i64 l.1,.int .i64 l.2.1,.int .i64 l.2.2.1,.int .i64 l.2.2.2])] ?_
       obtain ⟨v0_13,hv29,h⟩:=Option.bind_eq_some_iff.1 h
       refine zC [] [] (hc_linealref08_isRegister l.2.1 hv29) [(1,.int .i64 lines),(2,.bp 2 0),(86,.bool v0_13)] [(2,.box 74 [.int .i64 l.1,.int .i64 l.2.1,.int .i64 l.2.2.1,.int .i64 l.2.2.2])] ?_
       refine zS 1 [(1,.int .i64 lines),(2,.bp 2 0),(87,.bool v0_13)] [(2,.box 74 [.int .i64 l.1,.int .i64 l.2.1,.int .i64 l.2.2.1,.int .i64 l.2.2.2])] ?_
       rcases zI h with ⟨hb30,h⟩|⟨hb30,h⟩
       ·obtain ⟨c31,h⟩:=ck_some.1 h
        refine zS 4 [(2,.bp 2 0),(87,.bool true),(89,.int .i64 l.2.2.1),(91,.int .i64 (lines - 1))] [(2,.box 74 [.int .i64 l.1,.int .i64 l.2.1,.int .i64 l.2.2.1,.int .i64 l.2.2.2])] ?_
        obtain ⟨v0_14,hv32,h⟩:=Option.bind_eq_some_iff.1 h
        refine zG [] [] (hc_linealref08_within 0 l.2.2.1 (lines - 1) hv32) [(2,.bp 2 0),(87,.bool true),(92,.bool v0_14)] [(2,.box 74 [.int .i64 l.1,.int .i64 l.2.1,.int .i64 l.2.2.1,.int .i64 l.2.2.2])] ?_
        refine zS 2 [(2,.bp 2 0),(94,.bool v0_14)] [(2,.box 74 [.int .i64 l.1,.int .i64 l.2.1,.int .i64 l.2.2.1,.int .i64 l.2.2.2])] ?_
        rcases zI h with ⟨hb33,h⟩|⟨hb33,h⟩
        ·refine zB [(4,.bool (decide (l.2.2.2=0)))] [] ?_
         refine AW.ret ?_
         refine ablock_r ?_
         refine athen_r ?_
         obtain rfl:=Option.some.inj h
         exact zR [] [] []
        ·refine zB [(4,.bool false)] [] ?_
         refine AW.ret ?_
         refine ablock_r ?_
         refine athen_r ?_
         obtain rfl:=Option.some.inj h
         exact zR [] [] []
       ·refine zS 4 [(2,.bp 2 0),(87,.bool false),(89,.cv (undef)),(91,.cv (undef))] [(2,.box 74 [.int .i64 l.1,.int .i64 l.2.1,.int .i64 l.2.2.1,.int .i64 l.2.2.2])] ?_
        refine zS 5 [(94,.bool false),(96,.cv (undef))] [] ?_
        refine zB [(4,.bool false)] [] ?_
        refine AW.ret ?_
        refine ablock_r ?_
        refine athen_r ?_
        obtain rfl:=Option.some.inj h
        exact zR [] [] []
      ·refine zo ?_
       refine zB [(2,.bp 2 0),(99,.bool (decide (l.1=7)))] [(2,.box 74 [.int .i64 l.1,.int .i64 l.2.1,.int .i64 l.2.2.1,.int .i64 l.2.2.2])] ?_
       refine zQ h (fun hb34 h=>?_) (fun hb34 h=>?_)
       ·refine zo ?_
        refine zS 2 [(2,.bp 2 0),(102,.int .i64 l.2.1)] [(2,.box 74 [.int .i64 l.1,.int .i64 l.2.1,.int .i64 l.2.2.1,.int .i64 l.2.2.2])] ?_
        obtain ⟨v0_15,hv35,h⟩:=Option.bind_eq_some_iff.1 h
        refine zC [] [] (hc_linealref08_isRegister l.2.1 hv35) [(2,.bp 2 0),(103,.bool v0_15)] [(2,.box 74 [.int .i64 l.1,.int .i64 l.2.1,.int .i64 l.2.2.1,.int .i64 l.2.2.2])] ?_
        refine zS 1 [(2,.bp 2 0),(104,.bool v0_15)] [(2,.box 74 [.int .i64 l.1,.int .i64 l.2.1,.int .i64 l.2.2.1,.int .i64 l.2.2.2])] ?_
        rcases zI h with ⟨hb36,h⟩|⟨hb36,h⟩
        ·refine zS 5 [(2,.bp 2 0),(109,.bool (decide (l.2.2.1=0)))] [(2,.box 74 [.int .i64 l.1,.int .i64 l.2.1,.int .i64 l.2.2.1,.int .i64 l.2.2.2])] ?_
         rcases zI h with ⟨hb37,h⟩|⟨hb37,h⟩
         ·refine zB [(4,.bool (decide (l.2.2.2=0)))] [] ?_
          refine AW.ret ?_
          refine ablock_r ?_
          refine athen_r ?_
          obtain rfl:=Option.some.inj h
          exact zR [] [] []
         ·refine zB [(4,.bool false)] [] ?_
          refine AW.ret ?_
          refine ablock_r ?_
          refine athen_r ?_
          obtain rfl:=Option.some.inj h
          exact zR [] [] []
        ·refine zS 5 [(2,.bp 2 0),(109,.bool false)] [(2,.box 74 [.int .i64 l.1,.int .i64 l.2.1,.int .i64 l.2.2.1,.int .i64 l.2.2.2])] ?_
         refine zB [(4,.bool false)] [] ?_
         refine AW.ret ?_
         refine ablock_r ?_
         refine athen_r ?_
         obtain rfl:=Option.some.inj h
         exact zR [] [] []
       ·refine zm ?_
        refine athen_n ?_
        refine zo ?_
        refine zB [(4,.bool false)] [] ?_
        refine AW.ret ?_
        obtain rfl:=Option.some.inj h
        exact zR [] [] []
theorem hc_linealref08_Valid (c:List (List (Int×Int×Int×Int))) {r:Bool} (h:linealref08_Valid c=some r):HC Try.prog 17 [] [.sl (.sl (.pair (.int .i64) (.pair (.int .i64) (.pair (.int .i64) (.int .i64))))) c] [] (.bool r):=by
 unfold linealref08_Valid at h
 refine zH Try.func17 [.tmp 2] 59 ?_
 refine zo ?_
 refine zB [(0,.sl (.sl (.pair (.int .i64) (.pair (.int .i64) (.pair (.int .i64) (.int .i64))))) c)] [] ?_
 refine AW.seq ?_
 refine zo ?_
 refine zS 2 [(0,.sl (.sl (.pair (.int .i64) (.pair (.int .i64) (.pair (.int .i64) (.int .i64))))) c),(6,.int .i64 (c.length:Int))] [] ?_
 obtain ⟨v0,hv1,h⟩:=Option.bind_eq_some_iff.1 h
 refine zC [] [] (hc_linealref08_within 1 (c.length:Int) 4 hv1) [(0,.sl (.sl (.pair (.int .i64) (.pair (.int .i64) (.pair (.int .i64) (.int .i64))))) c),(7,.bool v0)] [] ?_
 refine zB [(0,.sl (.sl (.pair (.int .i64) (.pair (.int .i64) (.pair (.int .i64) (.int .i64))))) c),(8,.bool (!v0))] [] ?_
 refine zQ h (fun hb2 h=>?_) (fun hb2 h=>?_)
 ·refine zo ?_
  refine zB [(2,.bool false)] [] ?_
  refine zr ?_
  obtain rfl:=Option.some.inj h
  exact zR [] [] []
 ·refine zk ?_
  refine AW.have1 (fun _:Unit=>linealref08_Valid_k1=some r) (fun _=>⟨fr [],hpGet [],gt⟩) (fun _ h=>?_) (fun hk_linealref08_Valid_k1=>?_)
  ·as_aux_lemma =>
    unfold linealref08_Valid_k1 at h
    refine zo ?_
    refine zB [(2,.bool true)] [] ?_
    refine AW.ret ?_
    obtain rfl:=Option.some.inj h
    exact zR [] [] []
  ·refine AW.seq ?_
   refine zo ?_
   refine zB [(0,.sl (.sl (.pair (.int .i64) (.pair (.int .i64) (.pair (.int .i64) (.int .i64))))) c),(3,.int .i64 0)] [] ?_
   refine AW.block ?_
   obtain ⟨rv7,hw3,ho4⟩:=Option.bind_eq_some_iff.1 h
   refine AW.loopO (linealref08_Valid_b1 c) (fun st1=>⟨fr [(0,.sl (.sl (.pair (.int .i64) (.pair (.int .i64) (.pair (.int .i64) (.int .i64))))) c),(3,.int .i64 st1)],hpGet [],gt⟩) 0 hw3 (zL [] [] []) ?_
   as_aux_lemma =>
    intro st1 x6 h hd5
    unfold linealref08_Valid_b1 at h
    refine AW.seq ?_
    refine zo ?_
    refine zB [(0,.sl (.sl (.pair (.int .i64) (.pair (.int .i64) (.pair (.int .i64) (.int .i64))))) c),(3,.int .i64 st1),(12,.bool (decide (st1<(c.length:Int))))] [] ?_
    refine zQ h (fun hb8 h=>?_) (fun hb8 h=>?_)
    ·refine zk ?_
     refine AW.have1 (fun _:Unit=>linealref08_Valid_k2 st1=some x6) (fun _=>⟨fr [(0,.sl (.sl (.pair (.int .i64) (.pair (.int .i64) (.pair (.int .i64) (.int .i64))))) c),(3,.int .i64 st1)],hpGet [],gt⟩) (fun _ h=>?_) (fun hk_linealref08_Valid_k2=>?_)
     ·as_aux_lemma =>
       unfold linealref08_Valid_k2 at h
       refine AW.ops ?_
       obtain ⟨c9,h⟩:=ck_some.1 h
       refine zA [(0,.sl (.sl (.pair (.int .i64) (.pair (.int .i64) (.pair (.int .i64) (.int .i64))))) c),(3,.int .i64 (st1+1))] [] ?_
       obtain rfl:=Option.some.inj h
       exact ⟨_,rfl,zL [] [] []⟩
     ·refine AW.seq ?_
      refine AW.block ?_
      refine AW.seq ?_
      refine zo ?_
      obtain ⟨c10,h⟩:=ck_some.1 h
      obtain ⟨c11,h⟩:=ck_some.1 h
      refine zS 5 [(0,.sl (.sl (.pair (.int .i64) (.pair (.int .i64) (.pair (.int .i64) (.int .i64))))) c),(3,.int .i64 st1),(19,.int .i64 ((c.getD st1.toNat []).length:Int))] [] ?_
      obtain ⟨v0_2,hv12,h⟩:=Option.bind_eq_some_iff.1 h
      refine zC [] [] (hc_linealref08_within 1 ((c.getD st1.toNat []).length:Int) 8 hv12) [(0,.sl (.sl (.pair (.int .i64) (.pair (.int .i64) (.pair (.int .i64) (.int .i64))))) c),(3,.int .i64 st1),(20,.bool v0_2)] [] ?_
      refine zB [(0,.sl (.sl (.pair (.int .i64) (.pair (.int .i64) (.pair (.int .i64) (.int .i64))))) c),(3,.int .i64 st1),(21,.bool (!v0_2))] [] ?_
      refine zQ h (fun hb13 h=>?_) (fun hb13 h=>?_)
      ·refine zo ?_
       refine zB [(2,.bool false)] [] ?_
       refine zr ?_
       refine ablock_r ?_
       refine athen_r ?_
       obtain rfl:=Option.some.inj h
       try rw [← hd5 _ rfl] at ho4
       have h:=ho4
       try simp only at h
       refine athen_r ?_
       refine ablock_r ?_
       refine athen_r ?_
       obtain rfl:=Option.some.inj h
       exact zR [] [] []
      ·refine zk ?_
       refine AW.have1 (fun _:Unit=>linealref08_Valid_k3 c st1=some x6) (fun _=>⟨fr [(0,.sl (.sl (.pair (.int .i64) (.pair (.int .i64) (.pair (.int .i64) (.int .i64))))) c),(3,.int .i64 st1)],hpGet [],gt⟩) (fun _ h=>?_) (fun hk_linealref08_Valid_k3=>?_)
       ·as_aux_lemma =>
         unfold linealref08_Valid_k3 at h
         refine AW.seq ?_
         refine AW.draw tab_ok mixed_ok [] [] (by decide) (lex_fast (by kernel_rfl)) ?_
         as_aux_lemma =>
          obtain ⟨c15,h⟩:=ck_some.1 h
          obtain ⟨c16,h⟩:=ck_some.1 h
          refine adops_cut 6 (fun K' hK14=>?_)
          try dsimp only [List.drop_succ_cons,List.drop_zero,List.take_succ_cons,List.take_zero]
          simp only [go_sem,hb2,hb8,hb13]
          repeat with_reducible refine zN ?_
          refine hK14 _ ?_
          as_aux_lemma =>
           obtain ⟨c18,h⟩:=ck_some.1 h
           obtain ⟨c19,h⟩:=ck_some.1 h
           obtain ⟨c20,h⟩:=ck_some.1 h
           obtain ⟨c21,h⟩:=ck_some.1 h
           obtain ⟨c22,h⟩:=ck_some.1 h
           refine adops_cut 6 (fun K' hK17=>?_)
           try dsimp only [List.drop_succ_cons,List.drop_zero,List.take_succ_cons,List.take_zero]
           simp only [go_sem,hb2,hb8,hb13]
           repeat with_reducible refine zN ?_
           refine hK17 _ ?_
           as_aux_lemma =>
            refine adops_cut 2 (fun K' hK23=>?_)
            try dsimp only [List.drop_succ_cons,List.drop_zero,List.take_succ_cons,List.take_zero]
            simp only [go_sem,hb2,hb8,hb13]
            repeat with_reducible refine zN ?_
            refine hK23 _ ?_
            refine adops_nil ?_
            refine athen_n ?_
            refine zV [(0,.sl (.sl (.pair (.int .i64) (.pair (.int .i64) (.pair (.int .i64) (.int .i64))))) c),(3,.int .i64 st1),(58,.bool (!(decide (((c.getD st1.toNat []).getD (((c.getD st1.toNat []).length:Int) - 1).toNat (0,0,0,0)).1=7))))] [] gt ?_
            as_aux_lemma =>
             refine zQ h (fun hb24 h=>?_) (fun hb24 h=>?_)
             ·refine zo ?_
              refine zB [(2,.bool false)] [] ?_
              refine AW.ret ?_
              refine ablock_r ?_
              refine athen_r ?_
              obtain rfl:=Option.some.inj h
              try rw [← hd5 _ rfl] at ho4
              have h:=ho4
              try simp only at h
              refine athen_r ?_
              refine ablock_r ?_
              refine athen_r ?_
              obtain rfl:=Option.some.inj h
              exact zR [] [] []
             ·refine zm ?_
              refine athen_n ?_
              exact AW.weaken (zL [] [] []) (hk_linealref08_Valid_k2 () h)
       ·refine AW.seq ?_
        refine zo ?_
        refine zB [(0,.sl (.sl (.pair (.int .i64) (.pair (.int .i64) (.pair (.int .i64) (.int .i64))))) c),(3,.int .i64 st1),(4,.int .i64 0)] [] ?_
        refine AW.block ?_
        obtain ⟨rv29,hw25,ho26⟩:=Option.bind_eq_some_iff.1 h
        refine AW.loopO (linealref08_Valid_b2 c st1) (fun st2=>⟨fr [(0,.sl (.sl (.pair (.int .i64) (.pair (.int .i64) (.pair (.int .i64) (.int .i64))))) c),(3,.int .i64 st1),(4,.int .i64 st2)],hpGet [],gt⟩) 0 hw25 (zL [] [] []) ?_
        as_aux_lemma =>
         intro st2 x28 h hd27
         unfold linealref08_Valid_b2 at h
         refine AW.seq ?_
         refine zo ?_
         obtain ⟨c30,h⟩:=ck_some.1 h
         obtain ⟨c31,h⟩:=ck_some.1 h
         refine zS 5 [(0,.sl (.sl (.pair (.int .i64) (.pair (.int .i64) (.pair (.int .i64) (.int .i64))))) c),(3,.int .i64 st1),(4,.int .i64 st2),(22,.int .i64 st2),(26,.sl (.pair (.int .i64) (.pair (.int .i64) (.pair (.int .i64) (.int .i64)))) (c.getD st1.toNat []))] [] ?_
         refine zB [(0,.sl (.sl (.pair (.int .i64) (.pair (.int .i64) (.pair (.int .i64) (.int .i64))))) c),(3,.int .i64 st1),(4,.int .i64 st2),(28,.bool (decide (st2<((c.getD st1.toNat []).length:Int))))] [] ?_
         refine zQ h (fun hb32 h=>?_) (fun hb32 h=>?_)
         ·refine zk ?_
          refine AW.seq ?_
          refine AW.block ?_
          refine AW.seq ?_
          refine AW.draw tab_ok mixed_ok [] [] (by decide) (lex_fast (by kernel_rfl)) ?_
          as_aux_lemma =>
           obtain ⟨c34,h⟩:=ck_some.1 h
           obtain ⟨c35,h⟩:=ck_some.1 h
           obtain ⟨c36,h⟩:=ck_some.1 h
           obtain ⟨c37,h⟩:=ck_some.1 h
           refine adops_cut 6 (fun K' hK33=>?_)
           try dsimp only [List.drop_succ_cons,List.drop_zero,List.take_succ_cons,List.take_zero]
           simp only [go_sem,hb2,hb8,hb13,hb32]
           repeat with_reducible refine zN ?_
           refine hK33 _ ?_
           as_aux_lemma =>
            obtain ⟨c39,h⟩:=ck_some.1 h
            obtain ⟨c40,h⟩:=ck_some.1 h
            refine adops_cut 6 (fun K' hK38=>?_)
            try dsimp only [List.drop_succ_cons,List.drop_zero,List.take_succ_cons,List.take_zero]
            simp only [go_sem,hb2,hb8,hb13,hb32]
            repeat with_reducible refine zN ?_
            refine hK38 _ ?_
            as_aux_lemma =>
             obtain ⟨v0_3,hv41,h⟩:=Option.bind_eq_some_iff.1 h
             refine adops.call (by first|trivial|rfl) rfl rfl rfl (fun _ h=>h) [] [] (hc_linealref08_isLine ((c.getD st1.toNat []).getD st2.toNat (0,0,0,0)) ((c.getD st1.toNat []).length:Int) hv41) rfl (by (simp only [go_sem,hb2,hb8,hb13,hb32])<;>(with_reducible and_intros)<;>first|assumption|rfl|omega|(unfold maxLen; omega)) (by (simp only [go_sem,hb2,hb8,hb13,hb32])<;>(with_reducible and_intros)<;>first|assumption|rfl|omega|(unfold maxLen; omega)) rfl ?_
             refine adops_cut 1 (fun K' hK42=>?_)
             try dsimp only [List.drop_succ_cons,List.drop_zero,List.take_succ_cons,List.take_zero]
             simp only [go_sem,hb2,hb8,hb13,hb32]
             repeat with_reducible refine zN ?_
             refine hK42 _ ?_
             refine adops_nil ?_
             refine athen_n ?_
             refine zV [(0,.sl (.sl (.pair (.int .i64) (.pair (.int .i64) (.pair (.int .i64) (.int .i64))))) c),(3,.int .i64 st1),(4,.int .i64 st2),(44,.bool (!v0_3))] [] gt ?_
             as_aux_lemma =>
              refine zQ h (fun hb43 h=>?_) (fun hb43 h=>?_)
              ·refine zo ?_
               refine zB [(2,.bool false)] [] ?_
               refine AW.ret ?_
               refine ablock_r ?_
               refine athen_r ?_
               obtain rfl:=Option.some.inj h
               try rw [← hd27 _ rfl] at ho26
               have h:=ho26
               try simp only at h
               refine athen_r ?_
               refine ablock_r ?_
               refine athen_r ?_
               refine ablock_r ?_
               refine athen_r ?_
               obtain rfl:=Option.some.inj h
               try rw [← hd5 _ rfl] at ho4
               have h:=ho4
               try simp only at h
               refine athen_r ?_
               refine ablock_r ?_
               refine athen_r ?_
               obtain rfl:=Option.some.inj h
               exact zR [] [] []
              ·refine zm ?_
               refine athen_n ?_
               refine AW.ops ?_
               obtain ⟨c44,h⟩:=ck_some.1 h
               refine zA [(0,.sl (.sl (.pair (.int .i64) (.pair (.int .i64) (.pair (.int .i64) (.int .i64))))) c),(3,.int .i64 st1),(4,.int .i64 (st2+1))] [] ?_
               obtain rfl:=Option.some.inj h
               exact ⟨_,rfl,zL [] [] []⟩
         ·refine AW.exit ?_
          refine athen_e ?_
          obtain rfl:=Option.some.inj h
          try rw [← hd27 _ rfl] at ho26
          have h:=ho26
          try simp only at h
          refine athen_e ?_
          refine ablock_s ?_
          refine athen_n ?_
          exact AW.weaken (zL [] [] []) (hk_linealref08_Valid_k3 () h)
    ·refine AW.exit ?_
     refine athen_e ?_
     obtain rfl:=Option.some.inj h
     try rw [← hd5 _ rfl] at ho4
     have h:=ho4
     try simp only at h
     refine athen_e ?_
     refine ablock_s ?_
     refine athen_n ?_
     exact AW.weaken (zL [] [] []) (hk_linealref08_Valid_k1 () h)
end Go.Proofs.Ytenchhmcjmjlbaa
