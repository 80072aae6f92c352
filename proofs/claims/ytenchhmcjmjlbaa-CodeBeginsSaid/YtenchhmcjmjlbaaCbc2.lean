import Derived.Test.YtenchhmcjmjlbaaCkp
import Derived.Test.YtenchhmcjmjlbaaShk
import Derived.Test.YtenchhmcjmjlbaaCbc1
namespace Go.Proofs.Ytenchhmcjmjlbaa
open Go.RowKit
set_option linter.unusedSimpArgs false
set_option linter.unusedVariables false
set_option linter.constructorNameAsVariable false
set_option maxRecDepth 100000
set_option maxHeartbeats 40000000
theorem hc_code_isLine (l:Int×Int×Int×Int) (lines:Int) {r:Bool} (h:code_isLine l lines=some r):HC Try.prog 112 [] [.agg [.int .i64 l.1,.int .i64 l.2.1,.int .i64 l.2.2.1,.int .i64 l.2.2.2],.int .i64 lines] [] (.bool r):=by
 unfold code_isLine at h
 refine zH Try.func112 [.tmp 4] 87 ?_
 refine zo ?_
 refine zB [(1,.int .i64 lines),(2,.bp 2 0)] [(2,.box 74 [.int .i64 l.1,.int .i64 l.2.1,.int .i64 l.2.2.1,.int .i64 l.2.2.2])] ?_
 refine AW.seq ?_
 refine AW.seq ?_
 refine AW.drawTail tab_ok mixed_ok 3 [] [] (by decide) (by kernel_rfl) (by kernel_rfl) (by decide) ?_
 dsimp only [List.take_succ_cons,List.take_zero]
 refine adops_cut 2 (fun K' hK1=>?_)
 try dsimp only [List.drop_succ_cons,List.drop_zero,List.take_succ_cons,List.take_zero]
 simp only [go_sem]
 repeat with_reducible refine zN ?_
 refine hK1 _ ?_
 as_aux_lemma =>
  obtain ⟨v0,hv2,h⟩:=Option.bind_eq_some_iff.1 h
  refine adops.call (by first|trivial|rfl) rfl rfl rfl (fun _ h=>h) [] [] (hc_code_bare l hv2) rfl (by (simp only [go_sem])<;>(with_reducible and_intros)<;>first|assumption|rfl|omega|(unfold maxLen; omega)) (by (simp only [go_sem])<;>(with_reducible and_intros)<;>first|assumption|rfl|omega|(unfold maxLen; omega)) rfl ?_
  refine adops_cut 0 (fun K' hK3=>?_)
  try dsimp only [List.drop_succ_cons,List.drop_zero,List.take_succ_cons,List.take_zero]
  simp only [go_sem]
  repeat with_reducible refine zN ?_
  refine hK3 _ ?_
  refine adops_nil ?_
  refine zT [(1,.int .i64 lines),(2,.bp 2 0),(5,.agg [.int .i64 l.1,.int .i64 l.2.1,.int .i64 l.2.2.1,.int .i64 l.2.2.2]),(7,.agg [.int .i64 l.1,.int .i64 l.2.1,.int .i64 v0.1,.int .i64 v0.2])] [(2,.box 74 [.int .i64 l.1,.int .i64 l.2.1,.int .i64 l.2.2.1,.int .i64 l.2.2.2])] gt ?_
  obtain ⟨c4,h⟩:=ck_some.1 h
  obtain ⟨c5,h⟩:=ck_some.1 h
  obtain ⟨c6,h⟩:=ck_some.1 h
  obtain ⟨c7,h⟩:=ck_some.1 h
  obtain ⟨c8,h⟩:=ck_some.1 h
  obtain ⟨c9,h⟩:=ck_some.1 h
  obtain ⟨c10,h⟩:=ck_some.1 h
  obtain ⟨c11,h⟩:=ck_some.1 h
  refine AO.aggEq (neg:=true) eqty_74 (by decide) rfl rfl (lx:=[.int .i64 l.1,.int .i64 l.2.1,.int .i64 l.2.2.1,.int .i64 l.2.2.2]) (ly:=[.int .i64 l.1,.int .i64 l.2.1,.int .i64 v0.1,.int .i64 v0.2]) (by first|rfl|(simp only [go_sem])<;>(with_reducible and_intros)<;>first|assumption|rfl|omega|(unfold maxLen; omega)) (by first|rfl|(simp only [go_sem])<;>(with_reducible and_intros)<;>first|assumption|rfl|omega|(unfold maxLen; omega)) (by first|rfl|(simp only [go_sem])<;>(with_reducible and_intros)<;>first|assumption|rfl|omega|(unfold maxLen; omega)) (by first|rfl|(simp only [go_sem])<;>(with_reducible and_intros)<;>first|assumption|rfl|omega|(unfold maxLen; omega)) (by first|assumption|omega|(simp only [go_sem])<;>(with_reducible and_intros)<;>first|assumption|rfl|omega|(unfold maxLen; omega)) (by first|assumption|omega|(simp only [go_sem])<;>(with_reducible and_intros)<;>first|assumption|rfl|omega|(unfold maxLen; omega)) ?_
  refine zT [(1,.int .i64 lines),(2,.bp 2 0),(8,.bool (!(decide (l=(l.1,l.2.1,v0)))))] [(2,.box 74 [.int .i64 l.1,.int .i64 l.2.1,.int .i64 l.2.2.1,.int .i64 l.2.2.2])] gt ?_
  refine zB [(1,.int .i64 lines),(2,.bp 2 0),(8,.bool (!(decide (l=(l.1,l.2.1,v0)))))] [(2,.box 74 [.int .i64 l.1,.int .i64 l.2.1,.int .i64 l.2.2.1,.int .i64 l.2.2.2])] ?_
  refine zQ h (fun hb12 h=>?_) (fun hb12 h=>?_)
  ·refine zo ?_
   refine zB [(4,.bool false)] [] ?_
   refine zr ?_
   obtain rfl:=Option.some.inj h
   exact zR [] [] []
  ·refine zk ?_
   refine AW.seq ?_
   refine zo ?_
   refine zB [(1,.int .i64 lines),(2,.bp 2 0),(10,.int .i64 l.1)] [(2,.box 74 [.int .i64 l.1,.int .i64 l.2.1,.int .i64 l.2.2.1,.int .i64 l.2.2.2])] ?_
   refine AW.block ?_
   refine zo ?_
   refine zB [(1,.int .i64 lines),(2,.bp 2 0),(10,.int .i64 l.1),(11,.bool (decide (l.1=1)))] [(2,.box 74 [.int .i64 l.1,.int .i64 l.2.1,.int .i64 l.2.2.1,.int .i64 l.2.2.2])] ?_
   refine zQ h (fun hb13 h=>?_) (fun hb13 h=>?_)
   ·refine zo ?_
    refine zS 2 [(2,.bp 2 0),(14,.int .i64 l.2.1)] [(2,.box 74 [.int .i64 l.1,.int .i64 l.2.1,.int .i64 l.2.2.1,.int .i64 l.2.2.2])] ?_
    obtain ⟨v0_2,hv14,h⟩:=Option.bind_eq_some_iff.1 h
    refine zC [] [] (hc_code_isRegister l.2.1 hv14) [(2,.bp 2 0),(15,.bool v0_2)] [(2,.box 74 [.int .i64 l.1,.int .i64 l.2.1,.int .i64 l.2.2.1,.int .i64 l.2.2.2])] ?_
    refine zS 1 [(2,.bp 2 0),(16,.bool v0_2)] [(2,.box 74 [.int .i64 l.1,.int .i64 l.2.1,.int .i64 l.2.2.1,.int .i64 l.2.2.2])] ?_
    rcases zI h with ⟨hb15,h⟩|⟨hb15,h⟩
    ·refine zS 2 [(16,.bool true),(18,.int .i64 l.2.2.1)] [] ?_
     obtain ⟨v0_3,hv16,h⟩:=Option.bind_eq_some_iff.1 h
     refine zG [] [] (hc_code_isCell l.2.2.1 hv16) [(16,.bool true),(19,.bool v0_3)] [] ?_
     refine zB [(4,.bool v0_3)] [] ?_
     refine AW.ret ?_
     refine ablock_r ?_
     refine athen_r ?_
     obtain rfl:=Option.some.inj h
     exact zR [] [] []
    ·refine zB [(4,.bool false)] [] ?_
     refine AW.ret ?_
     refine ablock_r ?_
     refine athen_r ?_
     obtain rfl:=Option.some.inj h
     exact zR [] [] []
   ·refine zo ?_
    refine zB [(1,.int .i64 lines),(2,.bp 2 0),(10,.int .i64 l.1),(21,.bool (decide (l.1=2)))] [(2,.box 74 [.int .i64 l.1,.int .i64 l.2.1,.int .i64 l.2.2.1,.int .i64 l.2.2.2])] ?_
    refine zQ h (fun hb17 h=>?_) (fun hb17 h=>?_)
    ·refine zo ?_
     refine zS 2 [(2,.bp 2 0),(24,.int .i64 l.2.1)] [(2,.box 74 [.int .i64 l.1,.int .i64 l.2.1,.int .i64 l.2.2.1,.int .i64 l.2.2.2])] ?_
     obtain ⟨v0_4,hv18,h⟩:=Option.bind_eq_some_iff.1 h
     refine zC [] [] (hc_code_isCell l.2.1 hv18) [(2,.bp 2 0),(25,.bool v0_4)] [(2,.box 74 [.int .i64 l.1,.int .i64 l.2.1,.int .i64 l.2.2.1,.int .i64 l.2.2.2])] ?_
     refine zS 1 [(2,.bp 2 0),(26,.bool v0_4)] [(2,.box 74 [.int .i64 l.1,.int .i64 l.2.1,.int .i64 l.2.2.1,.int .i64 l.2.2.2])] ?_
     rcases zI h with ⟨hb19,h⟩|⟨hb19,h⟩
     ·refine zS 2 [(26,.bool true),(28,.int .i64 l.2.2.1)] [] ?_
      obtain ⟨v0_5,hv20,h⟩:=Option.bind_eq_some_iff.1 h
      refine zG [] [] (hc_code_isRegister l.2.2.1 hv20) [(26,.bool true),(29,.bool v0_5)] [] ?_
      refine zB [(4,.bool v0_5)] [] ?_
      refine AW.ret ?_
      refine ablock_r ?_
      refine athen_r ?_
      obtain rfl:=Option.some.inj h
      exact zR [] [] []
     ·refine zB [(4,.bool false)] [] ?_
      refine AW.ret ?_
      refine ablock_r ?_
      refine athen_r ?_
      obtain rfl:=Option.some.inj h
      exact zR [] [] []
    ·refine zo ?_
     refine zB [(1,.int .i64 lines),(2,.bp 2 0),(10,.int .i64 l.1),(31,.bool (decide (l.1=3)))] [(2,.box 74 [.int .i64 l.1,.int .i64 l.2.1,.int .i64 l.2.2.1,.int .i64 l.2.2.2])] ?_
     refine zQ h (fun hb21 h=>?_) (fun hb21 h=>?_)
     ·refine zo ?_
      refine zS 2 [(2,.bp 2 0),(34,.int .i64 l.2.1)] [(2,.box 74 [.int .i64 l.1,.int .i64 l.2.1,.int .i64 l.2.2.1,.int .i64 l.2.2.2])] ?_
      obtain ⟨v0_6,hv22,h⟩:=Option.bind_eq_some_iff.1 h
      refine zC [] [] (hc_code_isCell l.2.1 hv22) [(2,.bp 2 0),(35,.bool v0_6)] [(2,.box 74 [.int .i64 l.1,.int .i64 l.2.1,.int .i64 l.2.2.1,.int .i64 l.2.2.2])] ?_
      refine zS 1 [(2,.bp 2 0),(36,.bool v0_6)] [(2,.box 74 [.int .i64 l.1,.int .i64 l.2.1,.int .i64 l.2.2.1,.int .i64 l.2.2.2])] ?_
      rcases zI h with ⟨hb23,h⟩|⟨hb23,h⟩
      ·refine zS 2 [(2,.bp 2 0),(36,.bool true),(38,.int .i64 l.2.2.1)] [(2,.box 74 [.int .i64 l.1,.int .i64 l.2.1,.int .i64 l.2.2.1,.int .i64 l.2.2.2])] ?_
       obtain ⟨v0_7,hv24,h⟩:=Option.bind_eq_some_iff.1 h
       refine zG [] [] (hc_code_isRegister l.2.2.1 hv24) [(2,.bp 2 0),(36,.bool true),(39,.bool v0_7)] [(2,.box 74 [.int .i64 l.1,.int .i64 l.2.1,.int .i64 l.2.2.1,.int .i64 l.2.2.2])] ?_
       refine zS 2 [(2,.bp 2 0),(41,.bool v0_7)] [(2,.box 74 [.int .i64 l.1,.int .i64 l.2.1,.int .i64 l.2.2.1,.int .i64 l.2.2.2])] ?_
       rcases zI h with ⟨hb25,h⟩|⟨hb25,h⟩
       ·refine zS 2 [(41,.bool true),(43,.int .i64 l.2.2.2)] [] ?_
        obtain ⟨v0_8,hv26,h⟩:=Option.bind_eq_some_iff.1 h
        refine zG [] [] (hc_code_isRegister l.2.2.2 hv26) [(41,.bool true),(44,.bool v0_8)] [] ?_
        refine zB [(4,.bool v0_8)] [] ?_
        refine AW.ret ?_
        refine ablock_r ?_
        refine athen_r ?_
        obtain rfl:=Option.some.inj h
        exact zR [] [] []
       ·refine zB [(4,.bool false)] [] ?_
        refine AW.ret ?_
        refine ablock_r ?_
        refine athen_r ?_
        obtain rfl:=Option.some.inj h
        exact zR [] [] []
      ·refine zS 5 [(2,.bp 2 0),(41,.bool false)] [(2,.box 74 [.int .i64 l.1,.int .i64 l.2.1,.int .i64 l.2.2.1,.int .i64 l.2.2.2])] ?_
       refine zB [(4,.bool false)] [] ?_
       refine AW.ret ?_
       refine ablock_r ?_
       refine athen_r ?_
       obtain rfl:=Option.some.inj h
       exact zR [] [] []
     ·refine zo ?_
      refine zB [(1,.int .i64 lines),(2,.bp 2 0),(10,.int .i64 l.1),(46,.bool (decide (l.1=4)))] [(2,.box 74 [.int .i64 l.1,.int .i64 l.2.1,.int .i64 l.2.2.1,.int .i64 l.2.2.2])] ?_
      refine zQ h (fun hb27 h=>?_) (fun hb27 h=>?_)
      ·refine zo ?_
       refine zS 2 [(2,.bp 2 0),(49,.int .i64 l.2.1)] [(2,.box 74 [.int .i64 l.1,.int .i64 l.2.1,.int .i64 l.2.2.1,.int .i64 l.2.2.2])] ?_
       obtain ⟨v0_9,hv28,h⟩:=Option.bind_eq_some_iff.1 h
       refine zC [] [] (hc_code_isRegister l.2.1 hv28) [(2,.bp 2 0),(50,.bool v0_9)] [(2,.box 74 [.int .i64 l.1,.int .i64 l.2.1,.int .i64 l.2.2.1,.int .i64 l.2.2.2])] ?_
       refine zS 1 [(2,.bp 2 0),(51,.bool v0_9)] [(2,.box 74 [.int .i64 l.1,.int .i64 l.2.1,.int .i64 l.2.2.1,.int .i64 l.2.2.2])] ?_
       rcases zI h with ⟨hb29,h⟩|⟨hb29,h⟩
       ·refine zS 2 [(51,.bool true),(53,.int .i64 l.2.2.1)] [] ?_
        obtain ⟨v0_10,hv30,h⟩:=Option.bind_eq_some_iff.1 h
        refine zG [] [] (hc_code_isBelow l.2.2.1 10 hv30) [(51,.bool true),(54,.bool v0_10)] [] ?_
        refine zB [(4,.bool v0_10)] [] ?_
        refine AW.ret ?_
        refine ablock_r ?_
        refine athen_r ?_
        obtain rfl:=Option.some.inj h
        exact zR [] [] []
       ·refine zB [(4,.bool false)] [] ?_
        refine AW.ret ?_
        refine ablock_r ?_
        refine athen_r ?_
        obtain rfl:=Option.some.inj h
        exact zR [] [] []
      ·refine zo ?_
       refine zB [(1,.int .i64 lines),(2,.bp 2 0),(10,.int .i64 l.1),(56,.bool (decide (l.1=5)))] [(2,.box 74 [.int .i64 l.1,.int .i64 l.2.1,.int .i64 l.2.2.1,.int .i64 l.2.2.2])] ?_
       refine zQ h (fun hb31 h=>?_) (fun hb31 h=>?_)
       ·refine zo ?_
        refine zS 2 [(2,.bp 2 0),(59,.int .i64 l.2.1)] [(2,.box 74 [.int .i64 l.1,.int .i64 l.2.1,.int .i64 l.2.2.1,.int .i64 l.2.2.2])] ?_
        obtain ⟨v0_11,hv32,h⟩:=Option.bind_eq_some_iff.1 h
        refine zC [] [] (hc_code_isRegister l.2.1 hv32) [(2,.bp 2 0),(60,.bool v0_11)] [(2,.box 74 [.int .i64 l.1,.int .i64 l.2.1,.int .i64 l.2.2.1,.int .i64 l.2.2.2])] ?_
        refine zS 1 [(2,.bp 2 0),(61,.bool v0_11)] [(2,.box 74 [.int .i64 l.1,.int .i64 l.2.1,.int .i64 l.2.2.1,.int .i64 l.2.2.2])] ?_
        rcases zI h with ⟨hb33,h⟩|⟨hb33,h⟩
        ·refine zS 2 [(2,.bp 2 0),(61,.bool true),(63,.int .i64 l.2.2.1)] [(2,.box 74 [.int .i64 l.1,.int .i64 l.2.1,.int .i64 l.2.2.1,.int .i64 l.2.2.2])] ?_
         obtain ⟨v0_12,hv34,h⟩:=Option.bind_eq_some_iff.1 h
         refine zG [] [] (hc_code_isRegister l.2.2.1 hv34) [(2,.bp 2 0),(61,.bool true),(64,.bool v0_12)] [(2,.box 74 [.int .i64 l.1,.int .i64 l.2.1,.int .i64 l.2.2.1,.int .i64 l.2.2.2])] ?_
         refine zS 2 [(2,.bp 2 0),(66,.bool v0_12)] [(2,.box 74 [.int .i64 l.1,.int .i64 l.2.1,.int .i64 l.2.2.1,.int .i64 l.2.2.2])] ?_
         rcases zI h with ⟨hb35,h⟩|⟨hb35,h⟩
         ·refine zS 2 [(66,.bool true),(68,.int .i64 l.2.2.2)] [] ?_
          obtain ⟨v0_13,hv36,h⟩:=Option.bind_eq_some_iff.1 h
          refine zG [] [] (hc_code_isRegister l.2.2.2 hv36) [(66,.bool true),(69,.bool v0_13)] [] ?_
          refine zB [(4,.bool v0_13)] [] ?_
          refine AW.ret ?_
          refine ablock_r ?_
          refine athen_r ?_
          obtain rfl:=Option.some.inj h
          exact zR [] [] []
         ·refine zB [(4,.bool false)] [] ?_
          refine AW.ret ?_
          refine ablock_r ?_
          refine athen_r ?_
          obtain rfl:=Option.some.inj h
          exact zR [] [] []
        ·refine zS 5 [(2,.bp 2 0),(66,.bool false)] [(2,.box 74 [.int .i64 l.1,.int .i64 l.2.1,.int .i64 l.2.2.1,.int .i64 l.2.2.2])] ?_
         refine zB [(4,.bool false)] [] ?_
         refine AW.ret ?_
         refine ablock_r ?_
         refine athen_r ?_
         obtain rfl:=Option.some.inj h
         exact zR [] [] []
       ·refine zo ?_
        refine zB [(1,.int .i64 lines),(2,.bp 2 0),(10,.int .i64 l.1),(71,.bool (decide (l.1=6)))] [(2,.box 74 [.int .i64 l.1,.int .i64 l.2.1,.int .i64 l.2.2.1,.int .i64 l.2.2.2])] ?_
        refine zQ h (fun hb37 h=>?_) (fun hb37 h=>?_)
        ·refine zo ?_
         refine zS 2 [(1,.int .i64 lines),(2,.bp 2 0),(74,.int .i64 l.2.1)] [(2,.box 74 [.int .i64 l.1,.int .i64 l.2.1,.int .i64 l.2.2.1,.int .i64 l.2.2.2])] ?_
         obtain ⟨v0_14,hv38,h⟩:=Option.bind_eq_some_iff.1 h
         refine zC [] [] (hc_code_isRegister l.2.1 hv38) [(1,.int .i64 lines),(2,.bp 2 0),(75,.bool v0_14)] [(2,.box 74 [.int .i64 l.1,.int .i64 l.2.1,.int .i64 l.2.2.1,.int .i64 l.2.2.2])] ?_
         refine zS 1 [(1,.int .i64 lines),(2,.bp 2 0),(76,.bool v0_14)] [(2,.box 74 [.int .i64 l.1,.int .i64 l.2.1,.int .i64 l.2.2.1,.int .i64 l.2.2.2])] ?_
         rcases zI h with ⟨hb39,h⟩|⟨hb39,h⟩
         ·refine zS 3 [(76,.bool true),(78,.int .i64 l.2.2.1),(79,.int .i64 lines)] [] ?_
          obtain ⟨v0_15,hv40,h⟩:=Option.bind_eq_some_iff.1 h
          refine zG [] [] (hc_code_isBelow l.2.2.1 lines hv40) [(76,.bool true),(80,.bool v0_15)] [] ?_
          refine zB [(4,.bool v0_15)] [] ?_
          refine AW.ret ?_
          refine ablock_r ?_
          refine athen_r ?_
          obtain rfl:=Option.some.inj h
          exact zR [] [] []
         ·refine zS 4 [(76,.bool false),(80,.cv (undef))] [] ?_
          refine zB [(4,.bool false)] [] ?_
          refine AW.ret ?_
          refine ablock_r ?_
          refine athen_r ?_
          obtain rfl:=Option.some.inj h
          exact zR [] [] []
        ·refine zo ?_
         refine zB [(2,.bp 2 0),(82,.bool (decide (l.1=7)))] [(2,.box 74 [.int .i64 l.1,.int .i64 l.2.1,.int .i64 l.2.2.1,.int .i64 l.2.2.2])] ?_
         refine zQ h (fun hb41 h=>?_) (fun hb41 h=>?_)
         ·refine zo ?_
          refine zS 2 [(85,.int .i64 l.2.1)] [] ?_
          obtain ⟨v0_16,hv42,h⟩:=Option.bind_eq_some_iff.1 h
          refine zC [] [] (hc_code_isRegister l.2.1 hv42) [(86,.bool v0_16)] [] ?_
          refine zB [(4,.bool v0_16)] [] ?_
          refine AW.ret ?_
          refine ablock_r ?_
          refine athen_r ?_
          obtain rfl:=Option.some.inj h
          exact zR [] [] []
         ·refine zm ?_
          refine athen_n ?_
          refine zo ?_
          refine zB [(4,.bool false)] [] ?_
          refine AW.ret ?_
          obtain rfl:=Option.some.inj h
          exact zR [] [] []
theorem hc_code_isCall_1 (l:Int×Int×Int×Int) (a1:Int) {r:Bool} (h:code_isCall_1 l a1=some r):HC Try.prog 111 [(1000,.box 3 [.int .i64 a1])] [.agg [.int .i64 l.1,.int .i64 l.2.1,.int .i64 l.2.2.1,.int .i64 l.2.2.2],.bp 1000 0] [(1000,.box 3 [.int .i64 a1])] (.bool r):=by
 unfold code_isCall_1 at h
 refine zH Try.func111 [.tmp 3] 8 ?_
 refine zo ?_
 refine zB [(1,.bp 1000 0),(2,.bp 2 0)] [(2,.box 74 [.int .i64 l.1,.int .i64 l.2.1,.int .i64 l.2.2.1,.int .i64 l.2.2.2]),(1000,.box 3 [.int .i64 a1])] ?_
 refine zo ?_
 refine zS 2 [(4,.agg [.int .i64 l.1,.int .i64 l.2.1,.int .i64 l.2.2.1,.int .i64 l.2.2.2]),(5,.int .i64 a1)] [(1000,.box 3 [.int .i64 a1])] ?_
 obtain ⟨v0,hv1,h⟩:=Option.bind_eq_some_iff.1 h
 refine zC [] [] (hc_code_isLine l a1 hv1) [(6,.bool v0)] [(1000,.box 3 [.int .i64 a1])] ?_
 refine zB [(3,.bool (!v0))] [(1000,.box 3 [.int .i64 a1])] ?_
 refine AW.ret ?_
 obtain rfl:=Option.some.inj h
 exact zR [] [] []
theorem hc_slices_IndexFunc_2 (s:List (Int×Int×Int×Int)) (c0:Int) {r:Int} (h:slices_IndexFunc_2 s c0=some r):HC Try.prog 147 [(1000,.box 3 [.int .i64 c0])] [.sl (.pair (.int .i64) (.pair (.int .i64) (.pair (.int .i64) (.int .i64)))) s,.fn (.func 111) [] [.bp 1000 0]] [(1000,.box 3 [.int .i64 c0])] (.int .i64 r):=by
 unfold slices_IndexFunc_2 at h
 refine zH Try.func147 [.tmp 4] 19 ?_
 refine zo ?_
 refine zB [(0,.sl (.pair (.int .i64) (.pair (.int .i64) (.pair (.int .i64) (.int .i64)))) s),(1,.fn (.func 111) [] [.bp 1000 0])] [(1000,.box 3 [.int .i64 c0])] ?_
 refine AW.have1 (fun _:Unit=>slices_IndexFunc_2_k1=some r) (fun _=>⟨fr [],hpGet [(1000,.box 3 [.int .i64 c0])],gt⟩) (fun _ h=>?_) (fun hk_slices_IndexFunc_2_k1=>?_)
 ·as_aux_lemma =>
   unfold slices_IndexFunc_2_k1 at h
   refine zo ?_
   refine zB [(4,.int .i64 (-1))] [(1000,.box 3 [.int .i64 c0])] ?_
   refine AW.ret ?_
   obtain rfl:=Option.some.inj h
   exact zR [] [] []
 ·refine AW.seq ?_
  refine zo ?_
  refine zB [(0,.sl (.pair (.int .i64) (.pair (.int .i64) (.pair (.int .i64) (.int .i64)))) s),(1,.fn (.func 111) [] [.bp 1000 0]),(7,.int .i64 (s.length:Int)),(8,.int .i64 0)] [(1000,.box 3 [.int .i64 c0])] ?_
  refine AW.block ?_
  obtain ⟨rv5,hw1,ho2⟩:=Option.bind_eq_some_iff.1 h
  refine AW.loopO (slices_IndexFunc_2_b1 s c0) (fun st1=>⟨fr [(0,.sl (.pair (.int .i64) (.pair (.int .i64) (.pair (.int .i64) (.int .i64)))) s),(1,.fn (.func 111) [] [.bp 1000 0]),(7,.int .i64 (s.length:Int)),(8,.int .i64 st1)],hpGet [(1000,.box 3 [.int .i64 c0])],gt⟩) 0 hw1 (zL [] [] []) ?_
  as_aux_lemma =>
   intro st1 x4 h hd3
   unfold slices_IndexFunc_2_b1 at h
   refine zo ?_
   refine zB [(0,.sl (.pair (.int .i64) (.pair (.int .i64) (.pair (.int .i64) (.int .i64)))) s),(1,.fn (.func 111) [] [.bp 1000 0]),(7,.int .i64 (s.length:Int)),(8,.int .i64 st1),(9,.bool (decide (st1<(s.length:Int))))] [(1000,.box 3 [.int .i64 c0])] ?_
   refine AW.seq ?_
   refine zQ h (fun hb6 h=>?_) (fun hb6 h=>?_)
   ·refine zk ?_
    refine AW.seq ?_
    refine AW.block ?_
    refine zo ?_
    refine zB [(0,.sl (.pair (.int .i64) (.pair (.int .i64) (.pair (.int .i64) (.int .i64)))) s),(1,.fn (.func 111) [] [.bp 1000 0]),(5,.int .i64 st1),(7,.int .i64 (s.length:Int)),(8,.int .i64 st1)] [(1000,.box 3 [.int .i64 c0])] ?_
    refine zo ?_
    obtain ⟨c7,h⟩:=ck_some.1 h
    obtain ⟨c8,h⟩:=ck_some.1 h
    refine zS 5 [(0,.sl (.pair (.int .i64) (.pair (.int .i64) (.pair (.int .i64) (.int .i64)))) s),(1,.fn (.func 111) [] [.bp 1000 0]),(5,.int .i64 st1),(7,.int .i64 (s.length:Int)),(8,.int .i64 st1),(11,.fn (.func 111) [] [.bp 1000 0]),(15,.agg [.int .i64 (s.getD st1.toNat (0,0,0,0)).1,.int .i64 (s.getD st1.toNat (0,0,0,0)).2.1,.int .i64 (s.getD st1.toNat (0,0,0,0)).2.2.1,.int .i64 (s.getD st1.toNat (0,0,0,0)).2.2.2])] [(1000,.box 3 [.int .i64 c0])] ?_
    obtain ⟨v0,hv9,h⟩:=Option.bind_eq_some_iff.1 h
    refine zC [] [(1000,1000)] (hc_code_isCall_1 (s.getD st1.toNat (0,0,0,0)) c0 hv9) [(0,.sl (.pair (.int .i64) (.pair (.int .i64) (.pair (.int .i64) (.int .i64)))) s),(1,.fn (.func 111) [] [.bp 1000 0]),(5,.int .i64 st1),(7,.int .i64 (s.length:Int)),(8,.int .i64 st1),(16,.bool v0)] [(1000,.box 3 [.int .i64 c0])] ?_
    refine zB [(0,.sl (.pair (.int .i64) (.pair (.int .i64) (.pair (.int .i64) (.int .i64)))) s),(1,.fn (.func 111) [] [.bp 1000 0]),(5,.int .i64 st1),(7,.int .i64 (s.length:Int)),(8,.int .i64 st1),(16,.bool v0)] [(1000,.box 3 [.int .i64 c0])] ?_
    refine zQ h (fun hb10 h=>?_) (fun hb10 h=>?_)
    ·refine zo ?_
     refine zB [(4,.int .i64 st1)] [(1000,.box 3 [.int .i64 c0])] ?_
     refine AW.ret ?_
     refine ablock_r ?_
     refine athen_r ?_
     obtain rfl:=Option.some.inj h
     rw [← hd3 _ rfl] at ho2
     have h:=ho2
     try simp only at h
     refine athen_r ?_
     refine ablock_r ?_
     refine athen_r ?_
     obtain rfl:=Option.some.inj h
     exact zR [] [] []
    ·refine zm ?_
     refine athen_n ?_
     refine AW.ops ?_
     obtain ⟨c11,h⟩:=ck_some.1 h
     refine zA [(0,.sl (.pair (.int .i64) (.pair (.int .i64) (.pair (.int .i64) (.int .i64)))) s),(1,.fn (.func 111) [] [.bp 1000 0]),(7,.int .i64 (s.length:Int)),(8,.int .i64 (st1+1))] [(1000,.box 3 [.int .i64 c0])] ?_
     obtain rfl:=Option.some.inj h
     exact ⟨_,rfl,zL [] [] []⟩
   ·refine AW.exit ?_
    refine athen_e ?_
    obtain rfl:=Option.some.inj h
    try rw [← hd3 _ rfl] at ho2
    have h:=ho2
    try simp only at h
    refine athen_e ?_
    refine ablock_s ?_
    refine athen_n ?_
    exact AW.weaken (zL [] [] []) (hk_slices_IndexFunc_2_k1 () h)
theorem hc_slices_ContainsFunc_2 (s:List (Int×Int×Int×Int)) (c0:Int) {r:Bool} (h:slices_ContainsFunc_2 s c0=some r):HC Try.prog 113 [(1000,.box 3 [.int .i64 c0])] [.sl (.pair (.int .i64) (.pair (.int .i64) (.pair (.int .i64) (.int .i64)))) s,.fn (.func 111) [] [.bp 1000 0]] [(1000,.box 3 [.int .i64 c0])] (.bool r):=by
 unfold slices_ContainsFunc_2 at h
 refine zH Try.func113 [.tmp 4] 9 ?_
 refine zo ?_
 refine zB [(0,.sl (.pair (.int .i64) (.pair (.int .i64) (.pair (.int .i64) (.int .i64)))) s),(1,.fn (.func 111) [] [.bp 1000 0])] [(1000,.box 3 [.int .i64 c0])] ?_
 refine zo ?_
 refine zS 2 [(5,.sl (.pair (.int .i64) (.pair (.int .i64) (.pair (.int .i64) (.int .i64)))) s),(6,.fn (.func 111) [] [.bp 1000 0])] [(1000,.box 3 [.int .i64 c0])] ?_
 obtain ⟨v0,hv1,h⟩:=Option.bind_eq_some_iff.1 h
 refine zC [] [(1000,1000)] (hc_slices_IndexFunc_2 s c0 hv1) [(7,.int .i64 v0)] [(1000,.box 3 [.int .i64 c0])] ?_
 refine zB [(4,.bool (decide (0≤v0)))] [(1000,.box 3 [.int .i64 c0])] ?_
 refine AW.ret ?_
 obtain rfl:=Option.some.inj h
 exact zR [] [] []
theorem hc_code_isCall (lines:List (Int×Int×Int×Int)) {r:Bool} (h:code_isCall lines=some r):HC Try.prog 53 [] [.sl (.pair (.int .i64) (.pair (.int .i64) (.pair (.int .i64) (.int .i64)))) lines] [] (.bool r):=by
 unfold code_isCall at h
 refine zH Try.func53 [.tmp 2] 27 ?_
 refine zo ?_
 refine zB [(0,.sl (.pair (.int .i64) (.pair (.int .i64) (.pair (.int .i64) (.int .i64)))) lines)] [] ?_
 refine zo ?_
 refine zB [(0,.sl (.pair (.int .i64) (.pair (.int .i64) (.pair (.int .i64) (.int .i64)))) lines),(3,.bp 3 0)] [(3,.box 3 [.int .i64 (lines.length:Int)])] ?_
 refine AW.seq ?_
 refine zo ?_
 refine zS 3 [(0,.sl (.pair (.int .i64) (.pair (.int .i64) (.pair (.int .i64) (.int .i64)))) lines),(3,.bp 3 0),(9,.bool (decide ((lines.length:Int)<1)))] [(3,.box 3 [.int .i64 (lines.length:Int)])] ?_
 rcases zI h with ⟨hb1,h⟩|⟨hb1,h⟩
 ·refine zS 5 [(0,.sl (.pair (.int .i64) (.pair (.int .i64) (.pair (.int .i64) (.int .i64)))) lines),(3,.bp 3 0),(13,.bool true),(14,.cv (undef))] [(3,.box 3 [.int .i64 (lines.length:Int)])] ?_
  refine zS 4 [(0,.sl (.pair (.int .i64) (.pair (.int .i64) (.pair (.int .i64) (.int .i64)))) lines),(3,.bp 3 0),(13,.bool true),(18,.cv (undef))] [(3,.box 3 [.int .i64 (lines.length:Int)])] ?_
  refine zB [(0,.sl (.pair (.int .i64) (.pair (.int .i64) (.pair (.int .i64) (.int .i64)))) lines),(3,.bp 3 0),(21,.bool true)] [(3,.box 3 [.int .i64 (lines.length:Int)])] ?_
  refine AW.cond (b:=true) rfl (fun _=>?_) (fun hb2=>by cases hb2)
  refine zo ?_
  refine zB [(2,.bool false)] [] ?_
  refine zr ?_
  obtain rfl:=Option.some.inj h
  exact zR [] [] []
 ·refine zS 4 [(0,.sl (.pair (.int .i64) (.pair (.int .i64) (.pair (.int .i64) (.int .i64)))) lines),(3,.bp 3 0),(13,.bool (decide (8<(lines.length:Int))))] [(3,.box 3 [.int .i64 (lines.length:Int)])] ?_
  rcases zI h with ⟨hb3,h⟩|⟨hb3,h⟩
  ·refine zS 4 [(0,.sl (.pair (.int .i64) (.pair (.int .i64) (.pair (.int .i64) (.int .i64)))) lines),(3,.bp 3 0),(13,.bool true),(17,.cv (undef))] [(3,.box 3 [.int .i64 (lines.length:Int)])] ?_
   refine zB [(0,.sl (.pair (.int .i64) (.pair (.int .i64) (.pair (.int .i64) (.int .i64)))) lines),(3,.bp 3 0),(21,.bool true)] [(3,.box 3 [.int .i64 (lines.length:Int)])] ?_
   refine AW.cond (b:=true) rfl (fun _=>?_) (fun hb4=>by cases hb4)
   refine zo ?_
   refine zB [(2,.bool false)] [] ?_
   refine zr ?_
   obtain rfl:=Option.some.inj h
   exact zR [] [] []
  ·obtain ⟨c5,h⟩:=ck_some.1 h
   obtain ⟨c6,h⟩:=ck_some.1 h
   obtain ⟨c7,h⟩:=ck_some.1 h
   refine zS 5 [(0,.sl (.pair (.int .i64) (.pair (.int .i64) (.pair (.int .i64) (.int .i64)))) lines),(3,.bp 3 0),(13,.bool false),(18,.dp (.pair (.int .i64) (.pair (.int .i64) (.pair (.int .i64) (.int .i64)))) (lines.getD ((lines.length:Int) - 1).toNat (0,0,0,0)) 0)] [(3,.box 3 [.int .i64 (lines.length:Int)])] ?_
   refine zB [(0,.sl (.pair (.int .i64) (.pair (.int .i64) (.pair (.int .i64) (.int .i64)))) lines),(3,.bp 3 0),(21,.bool (!(decide ((lines.getD ((lines.length:Int) - 1).toNat (0,0,0,0)).1=7))))] [(3,.box 3 [.int .i64 (lines.length:Int)])] ?_
   refine zQ h (fun hb8 h=>?_) (fun hb8 h=>?_)
   ·refine zo ?_
    refine zB [(2,.bool false)] [] ?_
    refine zr ?_
    obtain rfl:=Option.some.inj h
    exact zR [] [] []
   ·refine zk ?_
    refine zo ?_
    refine zB [(0,.sl (.pair (.int .i64) (.pair (.int .i64) (.pair (.int .i64) (.int .i64)))) lines),(4,.fn (.func 111) [] [.bp 3 0])] [(3,.box 3 [.int .i64 (lines.length:Int)])] ?_
    refine zo ?_
    refine zS 2 [(23,.sl (.pair (.int .i64) (.pair (.int .i64) (.pair (.int .i64) (.int .i64)))) lines),(24,.fn (.func 111) [] [.bp 3 0])] [(3,.box 3 [.int .i64 (lines.length:Int)])] ?_
    obtain ⟨v0,hv9,h⟩:=Option.bind_eq_some_iff.1 h
    refine zC [] [(1000,3)] (hc_slices_ContainsFunc_2 lines (lines.length:Int) hv9) [(25,.bool v0)] [] ?_
    refine zB [(2,.bool (!v0))] [] ?_
    refine AW.ret ?_
    obtain rfl:=Option.some.inj h
    exact zR [] [] []
theorem hc_code_Valid_1 (lines:List (Int×Int×Int×Int)) {r:Bool} (h:code_Valid_1 lines=some r):HC Try.prog 52 [] [.sl (.pair (.int .i64) (.pair (.int .i64) (.pair (.int .i64) (.int .i64)))) lines] [] (.bool r):=by
 unfold code_Valid_1 at h
 refine zH Try.func52 [.tmp 2] 6 ?_
 refine zo ?_
 refine zB [(0,.sl (.pair (.int .i64) (.pair (.int .i64) (.pair (.int .i64) (.int .i64)))) lines)] [] ?_
 refine zo ?_
 refine zS 1 [(3,.sl (.pair (.int .i64) (.pair (.int .i64) (.pair (.int .i64) (.int .i64)))) lines)] [] ?_
 obtain ⟨v0,hv1,h⟩:=Option.bind_eq_some_iff.1 h
 refine zC [] [] (hc_code_isCall lines hv1) [(4,.bool v0)] [] ?_
 refine zB [(2,.bool (!v0))] [] ?_
 refine AW.ret ?_
 obtain rfl:=Option.some.inj h
 exact zR [] [] []
theorem hc_slices_IndexFunc (s:List (List (Int×Int×Int×Int))) {r:Int} (h:slices_IndexFunc s=some r):HC Try.prog 114 [] [.sl (.sl (.pair (.int .i64) (.pair (.int .i64) (.pair (.int .i64) (.int .i64))))) s,.fn (.func 52) [] []] [] (.int .i64 r):=by
 unfold slices_IndexFunc at h
 refine zH Try.func114 [.tmp 4] 19 ?_
 refine zo ?_
 refine zB [(0,.sl (.sl (.pair (.int .i64) (.pair (.int .i64) (.pair (.int .i64) (.int .i64))))) s),(1,.fn (.func 52) [] [])] [] ?_
 refine AW.have1 (fun _:Unit=>slices_IndexFunc_k1=some r) (fun _=>⟨fr [],hpGet [],gt⟩) (fun _ h=>?_) (fun hk_slices_IndexFunc_k1=>?_)
 ·as_aux_lemma =>
   unfold slices_IndexFunc_k1 at h
   refine zo ?_
   refine zB [(4,.int .i64 (-1))] [] ?_
   refine AW.ret ?_
   obtain rfl:=Option.some.inj h
   exact zR [] [] []
 ·refine AW.seq ?_
  refine zo ?_
  refine zB [(0,.sl (.sl (.pair (.int .i64) (.pair (.int .i64) (.pair (.int .i64) (.int .i64))))) s),(1,.fn (.func 52) [] []),(7,.int .i64 (s.length:Int)),(8,.int .i64 0)] [] ?_
  refine AW.block ?_
  obtain ⟨rv5,hw1,ho2⟩:=Option.bind_eq_some_iff.1 h
  refine AW.loopO (slices_IndexFunc_b1 s) (fun st1=>⟨fr [(0,.sl (.sl (.pair (.int .i64) (.pair (.int .i64) (.pair (.int .i64) (.int .i64))))) s),(1,.fn (.func 52) [] []),(7,.int .i64 (s.length:Int)),(8,.int .i64 st1)],hpGet [],gt⟩) 0 hw1 (zL [] [] []) ?_
  as_aux_lemma =>
   intro st1 x4 h hd3
   unfold slices_IndexFunc_b1 at h
   refine zo ?_
   refine zB [(0,.sl (.sl (.pair (.int .i64) (.pair (.int .i64) (.pair (.int .i64) (.int .i64))))) s),(1,.fn (.func 52) [] []),(7,.int .i64 (s.length:Int)),(8,.int .i64 st1),(9,.bool (decide (st1<(s.length:Int))))] [] ?_
   refine AW.seq ?_
   refine zQ h (fun hb6 h=>?_) (fun hb6 h=>?_)
   ·refine zk ?_
    refine AW.seq ?_
    refine AW.block ?_
    refine zo ?_
    refine zB [(0,.sl (.sl (.pair (.int .i64) (.pair (.int .i64) (.pair (.int .i64) (.int .i64))))) s),(1,.fn (.func 52) [] []),(5,.int .i64 st1),(7,.int .i64 (s.length:Int)),(8,.int .i64 st1)] [] ?_
    refine zo ?_
    obtain ⟨c7,h⟩:=ck_some.1 h
    obtain ⟨c8,h⟩:=ck_some.1 h
    refine zS 5 [(0,.sl (.sl (.pair (.int .i64) (.pair (.int .i64) (.pair (.int .i64) (.int .i64))))) s),(1,.fn (.func 52) [] []),(5,.int .i64 st1),(7,.int .i64 (s.length:Int)),(8,.int .i64 st1),(11,.fn (.func 52) [] []),(15,.sl (.pair (.int .i64) (.pair (.int .i64) (.pair (.int .i64) (.int .i64)))) (s.getD st1.toNat []))] [] ?_
    obtain ⟨v0,hv9,h⟩:=Option.bind_eq_some_iff.1 h
    refine zC [] [] (hc_code_Valid_1 (s.getD st1.toNat []) hv9) [(0,.sl (.sl (.pair (.int .i64) (.pair (.int .i64) (.pair (.int .i64) (.int .i64))))) s),(1,.fn (.func 52) [] []),(5,.int .i64 st1),(7,.int .i64 (s.length:Int)),(8,.int .i64 st1),(16,.bool v0)] [] ?_
    refine zB [(0,.sl (.sl (.pair (.int .i64) (.pair (.int .i64) (.pair (.int .i64) (.int .i64))))) s),(1,.fn (.func 52) [] []),(5,.int .i64 st1),(7,.int .i64 (s.length:Int)),(8,.int .i64 st1),(16,.bool v0)] [] ?_
    refine zQ h (fun hb10 h=>?_) (fun hb10 h=>?_)
    ·refine zo ?_
     refine zB [(4,.int .i64 st1)] [] ?_
     refine AW.ret ?_
     refine ablock_r ?_
     refine athen_r ?_
     obtain rfl:=Option.some.inj h
     rw [← hd3 _ rfl] at ho2
     have h:=ho2
     try simp only at h
     refine athen_r ?_
     refine ablock_r ?_
     refine athen_r ?_
     obtain rfl:=Option.some.inj h
     exact zR [] [] []
    ·refine zm ?_
     refine athen_n ?_
     refine AW.ops ?_
     obtain ⟨c11,h⟩:=ck_some.1 h
     refine zA [(0,.sl (.sl (.pair (.int .i64) (.pair (.int .i64) (.pair (.int .i64) (.int .i64))))) s),(1,.fn (.func 52) [] []),(7,.int .i64 (s.length:Int)),(8,.int .i64 (st1+1))] [] ?_
     obtain rfl:=Option.some.inj h
     exact ⟨_,rfl,zL [] [] []⟩
   ·refine AW.exit ?_
    refine athen_e ?_
    obtain rfl:=Option.some.inj h
    try rw [← hd3 _ rfl] at ho2
    have h:=ho2
    try simp only at h
    refine athen_e ?_
    refine ablock_s ?_
    refine athen_n ?_
    exact AW.weaken (zL [] [] []) (hk_slices_IndexFunc_k1 () h)
theorem hc_slices_ContainsFunc (s:List (List (Int×Int×Int×Int))) {r:Bool} (h:slices_ContainsFunc s=some r):HC Try.prog 54 [] [.sl (.sl (.pair (.int .i64) (.pair (.int .i64) (.pair (.int .i64) (.int .i64))))) s,.fn (.func 52) [] []] [] (.bool r):=by
 unfold slices_ContainsFunc at h
 refine zH Try.func54 [.tmp 4] 9 ?_
 refine zo ?_
 refine zB [(0,.sl (.sl (.pair (.int .i64) (.pair (.int .i64) (.pair (.int .i64) (.int .i64))))) s),(1,.fn (.func 52) [] [])] [] ?_
 refine zo ?_
 refine zS 2 [(5,.sl (.sl (.pair (.int .i64) (.pair (.int .i64) (.pair (.int .i64) (.int .i64))))) s),(6,.fn (.func 52) [] [])] [] ?_
 obtain ⟨v0,hv1,h⟩:=Option.bind_eq_some_iff.1 h
 refine zC [] [] (hc_slices_IndexFunc s hv1) [(7,.int .i64 v0)] [] ?_
 refine zB [(4,.bool (decide (0≤v0)))] [] ?_
 refine AW.ret ?_
 obtain rfl:=Option.some.inj h
 exact zR [] [] []
theorem hc_code_Valid (c:List (List (Int×Int×Int×Int))) {r:Bool} (h:code_Valid c=some r):HC Try.prog 16 [] [.sl (.sl (.pair (.int .i64) (.pair (.int .i64) (.pair (.int .i64) (.int .i64))))) c] [] (.bool r):=by
 unfold code_Valid at h
 refine zH Try.func16 [.tmp 2] 18 ?_
 refine zo ?_
 refine zB [(0,.sl (.sl (.pair (.int .i64) (.pair (.int .i64) (.pair (.int .i64) (.int .i64))))) c)] [] ?_
 refine zo ?_
 refine zB [(0,.sl (.sl (.pair (.int .i64) (.pair (.int .i64) (.pair (.int .i64) (.int .i64))))) c),(3,.fn (.func 52) [] [])] [] ?_
 refine zo ?_
 refine zS 4 [(0,.sl (.sl (.pair (.int .i64) (.pair (.int .i64) (.pair (.int .i64) (.int .i64))))) c),(3,.fn (.func 52) [] []),(7,.bool (decide (1≤(c.length:Int))))] [] ?_
 rcases zI h with ⟨hb1,h⟩|⟨hb1,h⟩
 ·refine zS 5 [(0,.sl (.sl (.pair (.int .i64) (.pair (.int .i64) (.pair (.int .i64) (.int .i64))))) c),(3,.fn (.func 52) [] []),(12,.bool (decide ((c.length:Int)≤4)))] [] ?_
  rcases zI h with ⟨hb2,h⟩|⟨hb2,h⟩
  ·refine zS 2 [(12,.bool true),(13,.sl (.sl (.pair (.int .i64) (.pair (.int .i64) (.pair (.int .i64) (.int .i64))))) c),(14,.fn (.func 52) [] [])] [] ?_
   obtain ⟨v0,hv3,h⟩:=Option.bind_eq_some_iff.1 h
   refine zG [] [] (hc_slices_ContainsFunc c hv3) [(12,.bool true),(15,.bool v0)] [] ?_
   refine zB [(2,.bool (!v0))] [] ?_
   refine AW.ret ?_
   obtain rfl:=Option.some.inj h
   exact zR [] [] []
  ·refine zS 4 [(12,.bool false),(16,.cv (undef))] [] ?_
   refine zB [(2,.bool false)] [] ?_
   refine AW.ret ?_
   obtain rfl:=Option.some.inj h
   exact zR [] [] []
 ·refine zS 5 [(0,.sl (.sl (.pair (.int .i64) (.pair (.int .i64) (.pair (.int .i64) (.int .i64))))) c),(3,.fn (.func 52) [] []),(12,.bool false)] [] ?_
  refine zS 4 [(12,.bool false),(16,.cv (undef))] [] ?_
  refine zB [(2,.bool false)] [] ?_
  refine AW.ret ?_
  obtain rfl:=Option.some.inj h
  exact zR [] [] []
theorem hc_code_isWord_1 (op0:Int) (a1:List (List (Int×Int×Int×Int))) {r:Bool} (h:code_isWord_1 op0 a1=some r):HC Try.prog 128 [(1000,.box 25 [.sl (.sl (.pair (.int .i64) (.pair (.int .i64) (.pair (.int .i64) (.int .i64))))) a1])] [.int .i64 op0,.bp 1000 0] [(1000,.box 25 [.sl (.sl (.pair (.int .i64) (.pair (.int .i64) (.pair (.int .i64) (.int .i64))))) a1])] (.bool r):=by
 unfold code_isWord_1 at h
 refine zH Try.func128 [.tmp 3] 9 ?_
 refine zo ?_
 refine zB [(0,.int .i64 op0),(1,.bp 1000 0)] [(1000,.box 25 [.sl (.sl (.pair (.int .i64) (.pair (.int .i64) (.pair (.int .i64) (.int .i64))))) a1])] ?_
 refine zo ?_
 refine zS 3 [(4,.int .i64 op0),(6,.int .i64 (a1.length:Int))] [(1000,.box 25 [.sl (.sl (.pair (.int .i64) (.pair (.int .i64) (.pair (.int .i64) (.int .i64))))) a1])] ?_
 obtain ⟨v0,hv1,h⟩:=Option.bind_eq_some_iff.1 h
 refine zC [] [] (hc_code_isBelow op0 (a1.length:Int) hv1) [(7,.bool v0)] [(1000,.box 25 [.sl (.sl (.pair (.int .i64) (.pair (.int .i64) (.pair (.int .i64) (.int .i64))))) a1])] ?_
 refine zB [(3,.bool (!v0))] [(1000,.box 25 [.sl (.sl (.pair (.int .i64) (.pair (.int .i64) (.pair (.int .i64) (.int .i64))))) a1])] ?_
 refine AW.ret ?_
 obtain rfl:=Option.some.inj h
 exact zR [] [] []
theorem hc_slices_IndexFunc_4 (s:List Int) (c0:List (List (Int×Int×Int×Int))) {r:Int} (h:slices_IndexFunc_4 s c0=some r):HC Try.prog 171 [(1000,.box 25 [.sl (.sl (.pair (.int .i64) (.pair (.int .i64) (.pair (.int .i64) (.int .i64))))) c0])] [.sl (.int .i64) s,.fn (.func 128) [] [.bp 1000 0]] [(1000,.box 25 [.sl (.sl (.pair (.int .i64) (.pair (.int .i64) (.pair (.int .i64) (.int .i64))))) c0])] (.int .i64 r):=by
 unfold slices_IndexFunc_4 at h
 refine zH Try.func171 [.tmp 4] 19 ?_
 refine zo ?_
 refine zB [(0,.sl (.int .i64) s),(1,.fn (.func 128) [] [.bp 1000 0])] [(1000,.box 25 [.sl (.sl (.pair (.int .i64) (.pair (.int .i64) (.pair (.int .i64) (.int .i64))))) c0])] ?_
 refine AW.have1 (fun _:Unit=>slices_IndexFunc_4_k1=some r) (fun _=>⟨fr [],hpGet [(1000,.box 25 [.sl (.sl (.pair (.int .i64) (.pair (.int .i64) (.pair (.int .i64) (.int .i64))))) c0])],gt⟩) (fun _ h=>?_) (fun hk_slices_IndexFunc_4_k1=>?_)
 ·as_aux_lemma =>
   unfold slices_IndexFunc_4_k1 at h
   refine zo ?_
   refine zB [(4,.int .i64 (-1))] [(1000,.box 25 [.sl (.sl (.pair (.int .i64) (.pair (.int .i64) (.pair (.int .i64) (.int .i64))))) c0])] ?_
   refine AW.ret ?_
   obtain rfl:=Option.some.inj h
   exact zR [] [] []
 ·refine AW.seq ?_
  refine zo ?_
  refine zB [(0,.sl (.int .i64) s),(1,.fn (.func 128) [] [.bp 1000 0]),(7,.int .i64 (s.length:Int)),(8,.int .i64 0)] [(1000,.box 25 [.sl (.sl (.pair (.int .i64) (.pair (.int .i64) (.pair (.int .i64) (.int .i64))))) c0])] ?_
  refine AW.block ?_
  obtain ⟨rv5,hw1,ho2⟩:=Option.bind_eq_some_iff.1 h
  refine AW.loopO (slices_IndexFunc_4_b1 s c0) (fun st1=>⟨fr [(0,.sl (.int .i64) s),(1,.fn (.func 128) [] [.bp 1000 0]),(7,.int .i64 (s.length:Int)),(8,.int .i64 st1)],hpGet [(1000,.box 25 [.sl (.sl (.pair (.int .i64) (.pair (.int .i64) (.pair (.int .i64) (.int .i64))))) c0])],gt⟩) 0 hw1 (zL [] [] []) ?_
  as_aux_lemma =>
   intro st1 x4 h hd3
   unfold slices_IndexFunc_4_b1 at h
   refine zo ?_
   refine zB [(0,.sl (.int .i64) s),(1,.fn (.func 128) [] [.bp 1000 0]),(7,.int .i64 (s.length:Int)),(8,.int .i64 st1),(9,.bool (decide (st1<(s.length:Int))))] [(1000,.box 25 [.sl (.sl (.pair (.int .i64) (.pair (.int .i64) (.pair (.int .i64) (.int .i64))))) c0])] ?_
   refine AW.seq ?_
   refine zQ h (fun hb6 h=>?_) (fun hb6 h=>?_)
   ·refine zk ?_
    refine AW.seq ?_
    refine AW.block ?_
    refine zo ?_
    refine zB [(0,.sl (.int .i64) s),(1,.fn (.func 128) [] [.bp 1000 0]),(5,.int .i64 st1),(7,.int .i64 (s.length:Int)),(8,.int .i64 st1)] [(1000,.box 25 [.sl (.sl (.pair (.int .i64) (.pair (.int .i64) (.pair (.int .i64) (.int .i64))))) c0])] ?_
    refine zo ?_
    obtain ⟨c7,h⟩:=ck_some.1 h
    obtain ⟨c8,h⟩:=ck_some.1 h
    refine zS 5 [(0,.sl (.int .i64) s),(1,.fn (.func 128) [] [.bp 1000 0]),(5,.int .i64 st1),(7,.int .i64 (s.length:Int)),(8,.int .i64 st1),(11,.fn (.func 128) [] [.bp 1000 0]),(15,.int .i64 (s.getD st1.toNat 0))] [(1000,.box 25 [.sl (.sl (.pair (.int .i64) (.pair (.int .i64) (.pair (.int .i64) (.int .i64))))) c0])] ?_
    obtain ⟨v0,hv9,h⟩:=Option.bind_eq_some_iff.1 h
    refine zC [] [(1000,1000)] (hc_code_isWord_1 (s.getD st1.toNat 0) c0 hv9) [(0,.sl (.int .i64) s),(1,.fn (.func 128) [] [.bp 1000 0]),(5,.int .i64 st1),(7,.int .i64 (s.length:Int)),(8,.int .i64 st1),(16,.bool v0)] [(1000,.box 25 [.sl (.sl (.pair (.int .i64) (.pair (.int .i64) (.pair (.int .i64) (.int .i64))))) c0])] ?_
    refine zB [(0,.sl (.int .i64) s),(1,.fn (.func 128) [] [.bp 1000 0]),(5,.int .i64 st1),(7,.int .i64 (s.length:Int)),(8,.int .i64 st1),(16,.bool v0)] [(1000,.box 25 [.sl (.sl (.pair (.int .i64) (.pair (.int .i64) (.pair (.int .i64) (.int .i64))))) c0])] ?_
    refine zQ h (fun hb10 h=>?_) (fun hb10 h=>?_)
    ·refine zo ?_
     refine zB [(4,.int .i64 st1)] [(1000,.box 25 [.sl (.sl (.pair (.int .i64) (.pair (.int .i64) (.pair (.int .i64) (.int .i64))))) c0])] ?_
     refine AW.ret ?_
     refine ablock_r ?_
     refine athen_r ?_
     obtain rfl:=Option.some.inj h
     rw [← hd3 _ rfl] at ho2
     have h:=ho2
     try simp only at h
     refine athen_r ?_
     refine ablock_r ?_
     refine athen_r ?_
     obtain rfl:=Option.some.inj h
     exact zR [] [] []
    ·refine zm ?_
     refine athen_n ?_
     refine AW.ops ?_
     obtain ⟨c11,h⟩:=ck_some.1 h
     refine zA [(0,.sl (.int .i64) s),(1,.fn (.func 128) [] [.bp 1000 0]),(7,.int .i64 (s.length:Int)),(8,.int .i64 (st1+1))] [(1000,.box 25 [.sl (.sl (.pair (.int .i64) (.pair (.int .i64) (.pair (.int .i64) (.int .i64))))) c0])] ?_
     obtain rfl:=Option.some.inj h
     exact ⟨_,rfl,zL [] [] []⟩
   ·refine AW.exit ?_
    refine athen_e ?_
    obtain rfl:=Option.some.inj h
    try rw [← hd3 _ rfl] at ho2
    have h:=ho2
    try simp only at h
    refine athen_e ?_
    refine ablock_s ?_
    refine athen_n ?_
    exact AW.weaken (zL [] [] []) (hk_slices_IndexFunc_4_k1 () h)
theorem hc_slices_ContainsFunc_4 (s:List Int) (c0:List (List (Int×Int×Int×Int))) {r:Bool} (h:slices_ContainsFunc_4 s c0=some r):HC Try.prog 129 [(1000,.box 25 [.sl (.sl (.pair (.int .i64) (.pair (.int .i64) (.pair (.int .i64) (.int .i64))))) c0])] [.sl (.int .i64) s,.fn (.func 128) [] [.bp 1000 0]] [(1000,.box 25 [.sl (.sl (.pair (.int .i64) (.pair (.int .i64) (.pair (.int .i64) (.int .i64))))) c0])] (.bool r):=by
 unfold slices_ContainsFunc_4 at h
 refine zH Try.func129 [.tmp 4] 9 ?_
 refine zo ?_
 refine zB [(0,.sl (.int .i64) s),(1,.fn (.func 128) [] [.bp 1000 0])] [(1000,.box 25 [.sl (.sl (.pair (.int .i64) (.pair (.int .i64) (.pair (.int .i64) (.int .i64))))) c0])] ?_
 refine zo ?_
 refine zS 2 [(5,.sl (.int .i64) s),(6,.fn (.func 128) [] [.bp 1000 0])] [(1000,.box 25 [.sl (.sl (.pair (.int .i64) (.pair (.int .i64) (.pair (.int .i64) (.int .i64))))) c0])] ?_
 obtain ⟨v0,hv1,h⟩:=Option.bind_eq_some_iff.1 h
 refine zC [] [(1000,1000)] (hc_slices_IndexFunc_4 s c0 hv1) [(7,.int .i64 v0)] [(1000,.box 25 [.sl (.sl (.pair (.int .i64) (.pair (.int .i64) (.pair (.int .i64) (.int .i64))))) c0])] ?_
 refine zB [(4,.bool (decide (0≤v0)))] [(1000,.box 25 [.sl (.sl (.pair (.int .i64) (.pair (.int .i64) (.pair (.int .i64) (.int .i64))))) c0])] ?_
 refine AW.ret ?_
 obtain rfl:=Option.some.inj h
 exact zR [] [] []
theorem hc_code_isWord (c:List (List (Int×Int×Int×Int))) (word:List Int) {r:Bool} (h:code_isWord c word=some r):HC Try.prog 77 [] [.sl (.sl (.pair (.int .i64) (.pair (.int .i64) (.pair (.int .i64) (.int .i64))))) c,.sl (.int .i64) word] [] (.bool r):=by
 unfold code_isWord at h
 refine zH Try.func77 [.tmp 4] 16 ?_
 refine zo ?_
 refine zB [(1,.sl (.int .i64) word),(2,.bp 2 0)] [(2,.box 25 [.sl (.sl (.pair (.int .i64) (.pair (.int .i64) (.pair (.int .i64) (.int .i64))))) c])] ?_
 refine zo ?_
 refine zB [(1,.sl (.int .i64) word),(5,.fn (.func 128) [] [.bp 2 0])] [(2,.box 25 [.sl (.sl (.pair (.int .i64) (.pair (.int .i64) (.pair (.int .i64) (.int .i64))))) c])] ?_
 refine zo ?_
 refine zS 4 [(1,.sl (.int .i64) word),(5,.fn (.func 128) [] [.bp 2 0]),(10,.bool (decide ((word.length:Int)≤3)))] [(2,.box 25 [.sl (.sl (.pair (.int .i64) (.pair (.int .i64) (.pair (.int .i64) (.int .i64))))) c])] ?_
 rcases zI h with ⟨hb1,h⟩|⟨hb1,h⟩
 ·refine zS 2 [(10,.bool true),(11,.sl (.int .i64) word),(12,.fn (.func 128) [] [.bp 2 0])] [(2,.box 25 [.sl (.sl (.pair (.int .i64) (.pair (.int .i64) (.pair (.int .i64) (.int .i64))))) c])] ?_
  obtain ⟨v0,hv2,h⟩:=Option.bind_eq_some_iff.1 h
  refine zG [] [(1000,2)] (hc_slices_ContainsFunc_4 word c hv2) [(10,.bool true),(13,.bool v0)] [] ?_
  refine zB [(4,.bool (!v0))] [] ?_
  refine AW.ret ?_
  obtain rfl:=Option.some.inj h
  exact zR [] [] []
 ·refine zS 4 [(10,.bool false),(14,.cv (undef))] [] ?_
  refine zB [(4,.bool false)] [] ?_
  refine AW.ret ?_
  obtain rfl:=Option.some.inj h
  exact zR [] [] []
theorem hc_code_isUse_1 (word:List Int) (a1:List (List (Int×Int×Int×Int))) {r:Bool} (h:code_isUse_1 word a1=some r):HC Try.prog 105 [(1000,.box 25 [.sl (.sl (.pair (.int .i64) (.pair (.int .i64) (.pair (.int .i64) (.int .i64))))) a1])] [.sl (.int .i64) word,.bp 1000 0] [(1000,.box 25 [.sl (.sl (.pair (.int .i64) (.pair (.int .i64) (.pair (.int .i64) (.int .i64))))) a1])] (.bool r):=by
 unfold code_isUse_1 at h
 refine zH Try.func105 [.tmp 3] 8 ?_
 refine zo ?_
 refine zB [(0,.sl (.int .i64) word),(1,.bp 1000 0)] [(1000,.box 25 [.sl (.sl (.pair (.int .i64) (.pair (.int .i64) (.pair (.int .i64) (.int .i64))))) a1])] ?_
 refine zo ?_
 refine zS 2 [(4,.sl (.sl (.pair (.int .i64) (.pair (.int .i64) (.pair (.int .i64) (.int .i64))))) a1),(5,.sl (.int .i64) word)] [(1000,.box 25 [.sl (.sl (.pair (.int .i64) (.pair (.int .i64) (.pair (.int .i64) (.int .i64))))) a1])] ?_
 obtain ⟨v0,hv1,h⟩:=Option.bind_eq_some_iff.1 h
 refine zC [] [] (hc_code_isWord a1 word hv1) [(6,.bool v0)] [(1000,.box 25 [.sl (.sl (.pair (.int .i64) (.pair (.int .i64) (.pair (.int .i64) (.int .i64))))) a1])] ?_
 refine zB [(3,.bool (!v0))] [(1000,.box 25 [.sl (.sl (.pair (.int .i64) (.pair (.int .i64) (.pair (.int .i64) (.int .i64))))) a1])] ?_
 refine AW.ret ?_
 obtain rfl:=Option.some.inj h
 exact zR [] [] []
end Go.Proofs.Ytenchhmcjmjlbaa
