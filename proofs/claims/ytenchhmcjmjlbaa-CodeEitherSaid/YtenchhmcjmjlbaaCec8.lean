import Derived.Test.YtenchhmcjmjlbaaCkp
import Derived.Test.YtenchhmcjmjlbaaShk
import Derived.Test.YtenchhmcjmjlbaaCec7
namespace Go.Proofs.Ytenchhmcjmjlbaa
open Go.RowKit
set_option linter.unusedSimpArgs false
set_option linter.unusedVariables false
set_option linter.constructorNameAsVariable false
set_option maxRecDepth 100000
set_option maxHeartbeats 40000000
theorem a45 (c:Int×Int×Int×Int×Int×Int) {r:Bool} (h:S6 c=some r):HC Try.prog 176 [] [.agg [.ii c.1,.ii c.2.1,.ii c.2.2.1,.ii c.2.2.2.1,.ii c.2.2.2.2.1,.ii c.2.2.2.2.2]] [] (.bool r):=by
 unfold S6 at h
 refine zH Try.func176 [.tmp 2] 52 ?_
 refine zo ?_
 refine zB [(1,.bp 1 0)] [(1,.box 68 [.ii c.1,.ii c.2.1,.ii c.2.2.1,.ii c.2.2.2.1,.ii c.2.2.2.2.1,.ii c.2.2.2.2.2])] ?_
 refine AW.have1 (fun b1:Bool=>N6 c b1=some r) (fun b1=>⟨fr [(1,.bp 1 0),(3,.bool b1)],b6 [(1,.box 68 [.ii c.1,.ii c.2.1,.ii c.2.2.1,.ii c.2.2.2.1,.ii c.2.2.2.2.1,.ii c.2.2.2.2.2])],gt⟩) (fun b1 h=>?_) (fun hk_history_isCall_k1=>?_)
 ·as_aux_lemma =>
   unfold N6 at h
   refine AW.have1 (fun b2:Bool=>G8 c b1 b2=some r) (fun b2=>⟨fr [(1,.bp 1 0),(3,.bool b1),(4,.bool b2)],b6 [(1,.box 68 [.ii c.1,.ii c.2.1,.ii c.2.2.1,.ii c.2.2.2.1,.ii c.2.2.2.2.1,.ii c.2.2.2.2.2])],gt⟩) (fun b2 h=>?_) (fun hk_history_isCall_k2=>?_)
   ·as_aux_lemma =>
     unfold G8 at h
     refine zo ?_
     refine zS 2 [(1,.bp 1 0),(3,.bool b1),(4,.bool b2),(24,.ii c.1)] [(1,.box 68 [.ii c.1,.ii c.2.1,.ii c.2.2.1,.ii c.2.2.2.1,.ii c.2.2.2.2.1,.ii c.2.2.2.2.2])] ?_
     obtain ⟨v0,hv1,h⟩:=zw h
     refine zC [] [] (G9 c.1 0 3 hv1) [(1,.bp 1 0),(3,.bool b1),(4,.bool b2),(25,.bool v0)] [(1,.box 68 [.ii c.1,.ii c.2.1,.ii c.2.2.1,.ii c.2.2.2.1,.ii c.2.2.2.2.1,.ii c.2.2.2.2.2])] ?_
     refine zS 1 [(1,.bp 1 0),(3,.bool b1),(4,.bool b2),(26,.bool v0)] [(1,.box 68 [.ii c.1,.ii c.2.1,.ii c.2.2.1,.ii c.2.2.2.1,.ii c.2.2.2.2.1,.ii c.2.2.2.2.2])] ?_
     rcases zI h with ⟨hb2,h⟩|⟨hb2,h⟩
     ·refine zS 2 [(1,.bp 1 0),(3,.bool b1),(4,.bool b2),(26,.bool true),(28,.ii c.2.1)] [(1,.box 68 [.ii c.1,.ii c.2.1,.ii c.2.2.1,.ii c.2.2.2.1,.ii c.2.2.2.2.1,.ii c.2.2.2.2.2])] ?_
      obtain ⟨v0_2,hv3,h⟩:=zw h
      refine zG [] [] (G9 c.2.1 0 1 hv3) [(1,.bp 1 0),(3,.bool b1),(4,.bool b2),(26,.bool true),(29,.bool v0_2)] [(1,.box 68 [.ii c.1,.ii c.2.1,.ii c.2.2.1,.ii c.2.2.2.1,.ii c.2.2.2.2.1,.ii c.2.2.2.2.2])] ?_
      refine zS 2 [(1,.bp 1 0),(3,.bool b1),(4,.bool b2),(31,.bool v0_2)] [(1,.box 68 [.ii c.1,.ii c.2.1,.ii c.2.2.1,.ii c.2.2.2.1,.ii c.2.2.2.2.1,.ii c.2.2.2.2.2])] ?_
      rcases zI h with ⟨hb4,h⟩|⟨hb4,h⟩
      ·refine zS 2 [(1,.bp 1 0),(3,.bool b1),(4,.bool b2),(31,.bool true),(33,.ii c.2.2.1)] [(1,.box 68 [.ii c.1,.ii c.2.1,.ii c.2.2.1,.ii c.2.2.2.1,.ii c.2.2.2.2.1,.ii c.2.2.2.2.2])] ?_
       obtain ⟨v0_3,hv5,h⟩:=zw h
       refine zG [] [] (G9 c.2.2.1 0 3 hv5) [(1,.bp 1 0),(3,.bool b1),(4,.bool b2),(31,.bool true),(34,.bool v0_3)] [(1,.box 68 [.ii c.1,.ii c.2.1,.ii c.2.2.1,.ii c.2.2.2.1,.ii c.2.2.2.2.1,.ii c.2.2.2.2.2])] ?_
       refine zS 2 [(1,.bp 1 0),(3,.bool b1),(4,.bool b2),(36,.bool v0_3)] [(1,.box 68 [.ii c.1,.ii c.2.1,.ii c.2.2.1,.ii c.2.2.2.1,.ii c.2.2.2.2.1,.ii c.2.2.2.2.2])] ?_
       rcases zI h with ⟨hb6,h⟩|⟨hb6,h⟩
       ·refine zS 2 [(1,.bp 1 0),(3,.bool b1),(4,.bool b2),(36,.bool true),(38,.ii c.2.2.2.1)] [(1,.box 68 [.ii c.1,.ii c.2.1,.ii c.2.2.1,.ii c.2.2.2.1,.ii c.2.2.2.2.1,.ii c.2.2.2.2.2])] ?_
        obtain ⟨v0_4,hv7,h⟩:=zw h
        refine zG [] [] (G9 c.2.2.2.1 0 9 hv7) [(1,.bp 1 0),(3,.bool b1),(4,.bool b2),(36,.bool true),(39,.bool v0_4)] [(1,.box 68 [.ii c.1,.ii c.2.1,.ii c.2.2.1,.ii c.2.2.2.1,.ii c.2.2.2.2.1,.ii c.2.2.2.2.2])] ?_
        refine zS 2 [(1,.bp 1 0),(3,.bool b1),(4,.bool b2),(41,.bool v0_4)] [(1,.box 68 [.ii c.1,.ii c.2.1,.ii c.2.2.1,.ii c.2.2.2.1,.ii c.2.2.2.2.1,.ii c.2.2.2.2.2])] ?_
        rcases zI h with ⟨hb8,h⟩|⟨hb8,h⟩
        ·refine zS 2 [(3,.bool b1),(4,.bool b2),(41,.bool true),(43,.ii c.2.2.2.2.1)] [] ?_
         obtain ⟨v0_5,hv9,h⟩:=zw h
         refine zG [] [] (G9 c.2.2.2.2.1 1 100 hv9) [(3,.bool b1),(4,.bool b2),(41,.bool true),(44,.bool v0_5)] [] ?_
         refine zS 2 [(3,.bool b1),(4,.bool b2),(46,.bool v0_5)] [] ?_
         rcases zI h with ⟨hb10,h⟩|⟨hb10,h⟩
         ·refine zS 2 [(4,.bool b2),(46,.bool true),(48,.bool b1)] [] ?_
          rcases zI h with ⟨hb11,h⟩|⟨hb11,h⟩
          ·refine zB [(2,.bool true)] [] ?_
           refine AW.ret ?_
           obtain rfl:=zj h
           exact zR [] [] []
          refine zB [(2,.bool b2)] [] ?_
          refine AW.ret ?_
          obtain rfl:=zj h
          exact zR [] [] []
         refine zS 4 [(46,.bool false),(50,.cv (undef))] [] ?_
         refine zB [(2,.bool false)] [] ?_
         refine AW.ret ?_
         obtain rfl:=zj h
         exact zR [] [] []
        refine zS 5 [(3,.bool b1),(4,.bool b2),(46,.bool false)] [] ?_
        refine zS 4 [(46,.bool false),(50,.cv (undef))] [] ?_
        refine zB [(2,.bool false)] [] ?_
        refine AW.ret ?_
        obtain rfl:=zj h
        exact zR [] [] []
       refine zS 5 [(1,.bp 1 0),(3,.bool b1),(4,.bool b2),(41,.bool false)] [(1,.box 68 [.ii c.1,.ii c.2.1,.ii c.2.2.1,.ii c.2.2.2.1,.ii c.2.2.2.2.1,.ii c.2.2.2.2.2])] ?_
       refine zS 5 [(3,.bool b1),(4,.bool b2),(46,.bool false)] [] ?_
       refine zS 4 [(46,.bool false),(50,.cv (undef))] [] ?_
       refine zB [(2,.bool false)] [] ?_
       refine AW.ret ?_
       obtain rfl:=zj h
       exact zR [] [] []
      refine zS 5 [(1,.bp 1 0),(3,.bool b1),(4,.bool b2),(36,.bool false)] [(1,.box 68 [.ii c.1,.ii c.2.1,.ii c.2.2.1,.ii c.2.2.2.1,.ii c.2.2.2.2.1,.ii c.2.2.2.2.2])] ?_
      refine zS 5 [(1,.bp 1 0),(3,.bool b1),(4,.bool b2),(41,.bool false)] [(1,.box 68 [.ii c.1,.ii c.2.1,.ii c.2.2.1,.ii c.2.2.2.1,.ii c.2.2.2.2.1,.ii c.2.2.2.2.2])] ?_
      refine zS 5 [(3,.bool b1),(4,.bool b2),(46,.bool false)] [] ?_
      refine zS 4 [(46,.bool false),(50,.cv (undef))] [] ?_
      refine zB [(2,.bool false)] [] ?_
      refine AW.ret ?_
      obtain rfl:=zj h
      exact zR [] [] []
     refine zS 5 [(1,.bp 1 0),(3,.bool b1),(4,.bool b2),(31,.bool false)] [(1,.box 68 [.ii c.1,.ii c.2.1,.ii c.2.2.1,.ii c.2.2.2.1,.ii c.2.2.2.2.1,.ii c.2.2.2.2.2])] ?_
     refine zS 5 [(1,.bp 1 0),(3,.bool b1),(4,.bool b2),(36,.bool false)] [(1,.box 68 [.ii c.1,.ii c.2.1,.ii c.2.2.1,.ii c.2.2.2.1,.ii c.2.2.2.2.1,.ii c.2.2.2.2.2])] ?_
     refine zS 5 [(1,.bp 1 0),(3,.bool b1),(4,.bool b2),(41,.bool false)] [(1,.box 68 [.ii c.1,.ii c.2.1,.ii c.2.2.1,.ii c.2.2.2.1,.ii c.2.2.2.2.1,.ii c.2.2.2.2.2])] ?_
     refine zS 5 [(3,.bool b1),(4,.bool b2),(46,.bool false)] [] ?_
     refine zS 4 [(46,.bool false),(50,.cv (undef))] [] ?_
     refine zB [(2,.bool false)] [] ?_
     refine AW.ret ?_
     obtain rfl:=zj h
     exact zR [] [] []
   refine zo ?_
   refine zS 5 [(1,.bp 1 0),(3,.bool b1),(17,.bool (decide (c.2.2.2.2.1<c.2.2.2.2.2)))] [(1,.box 68 [.ii c.1,.ii c.2.1,.ii c.2.2.1,.ii c.2.2.2.1,.ii c.2.2.2.2.1,.ii c.2.2.2.2.2])] ?_
   refine zS 1 [(1,.bp 1 0),(3,.bool b1),(18,.bool (decide (c.2.2.2.2.1<c.2.2.2.2.2)))] [(1,.box 68 [.ii c.1,.ii c.2.1,.ii c.2.2.1,.ii c.2.2.2.1,.ii c.2.2.2.2.1,.ii c.2.2.2.2.2])] ?_
   rcases zI h with ⟨hb12,h⟩|⟨hb12,h⟩
   ·refine zB [(1,.bp 1 0),(3,.bool b1),(4,.bool (decide (c.2.2.2.2.2≤100)))] [(1,.box 68 [.ii c.1,.ii c.2.1,.ii c.2.2.1,.ii c.2.2.2.1,.ii c.2.2.2.2.1,.ii c.2.2.2.2.2])] ?_
    have hj:=hk_history_isCall_k2 _ h
    exact AW.weaken (zL [] [] []) hj
   refine zB [(1,.bp 1 0),(3,.bool b1),(4,.bool false)] [(1,.box 68 [.ii c.1,.ii c.2.1,.ii c.2.2.1,.ii c.2.2.2.1,.ii c.2.2.2.2.1,.ii c.2.2.2.2.2])] ?_
   have hj:=hk_history_isCall_k2 _ h
   exact AW.weaken (zL [] [] []) hj
 refine zo ?_
 refine zS 4 [(1,.bp 1 0),(8,.bool (decide (c.2.2.2.2.2=0)))] [(1,.box 68 [.ii c.1,.ii c.2.1,.ii c.2.2.1,.ii c.2.2.2.1,.ii c.2.2.2.2.1,.ii c.2.2.2.2.2])] ?_
 rcases zI h with ⟨hb13,h⟩|⟨hb13,h⟩
 ·refine zB [(1,.bp 1 0),(3,.bool (decide (c.2.2.2.1=0)))] [(1,.box 68 [.ii c.1,.ii c.2.1,.ii c.2.2.1,.ii c.2.2.2.1,.ii c.2.2.2.2.1,.ii c.2.2.2.2.2])] ?_
  have hj:=hk_history_isCall_k1 _ h
  exact AW.weaken (zL [] [] []) hj
 refine zB [(1,.bp 1 0),(3,.bool false)] [(1,.box 68 [.ii c.1,.ii c.2.1,.ii c.2.2.1,.ii c.2.2.2.1,.ii c.2.2.2.2.1,.ii c.2.2.2.2.2])] ?_
 have hj:=hk_history_isCall_k1 _ h
 exact AW.weaken (zL [] [] []) hj
theorem Z1 (a:Int×Int×Int×Int×Int×Int) (b:Int×Int×Int×Int×Int×Int) {r:Bool} (h:K7 a b=some r):HC Try.prog 141 [] [.agg [.ii a.1,.ii a.2.1,.ii a.2.2.1,.ii a.2.2.2.1,.ii a.2.2.2.2.1,.ii a.2.2.2.2.2],.agg [.ii b.1,.ii b.2.1,.ii b.2.2.1,.ii b.2.2.2.1,.ii b.2.2.2.2.1,.ii b.2.2.2.2.2]] [] (.bool r):=by
 unfold K7 at h
 refine zH Try.func141 [.tmp 4] 15 ?_
 refine zo ?_
 refine zB [(2,.bp 2 0),(3,.bp 3 0)] [(2,.box 68 [.ii a.1,.ii a.2.1,.ii a.2.2.1,.ii a.2.2.2.1,.ii a.2.2.2.2.1,.ii a.2.2.2.2.2]),(3,.box 68 [.ii b.1,.ii b.2.1,.ii b.2.2.1,.ii b.2.2.2.1,.ii b.2.2.2.2.1,.ii b.2.2.2.2.2])] ?_
 refine zo ?_
 refine zS 4 [(2,.bp 2 0),(3,.bp 3 0),(8,.bool (!(decide (a.2.2.2.2.2=0))))] [(2,.box 68 [.ii a.1,.ii a.2.1,.ii a.2.2.1,.ii a.2.2.2.1,.ii a.2.2.2.2.1,.ii a.2.2.2.2.2]),(3,.box 68 [.ii b.1,.ii b.2.1,.ii b.2.2.1,.ii b.2.2.2.1,.ii b.2.2.2.2.1,.ii b.2.2.2.2.2])] ?_
 rcases zI h with ⟨hb1,h⟩|⟨hb1,h⟩
 ·refine zS 5 [(8,.bool true),(13,.bool (decide (a.2.2.2.2.2<b.2.2.2.2.1)))] [] ?_
  refine zB [(4,.bool (decide (a.2.2.2.2.2<b.2.2.2.2.1)))] [] ?_
  refine AW.ret ?_
  obtain rfl:=zj h
  exact zR [] [] []
 refine zS 4 [(8,.bool false),(10,.cv (undef)),(12,.cv (undef))] [] ?_
 refine zB [(4,.bool false)] [] ?_
 refine AW.ret ?_
 obtain rfl:=zj h
 exact zR [] [] []
theorem a5O (a:Int×Int×Int×Int×Int×Int) (b:Int×Int×Int×Int×Int×Int) {r:Bool} (h:V1 a b=some r):HC Try.prog 177 [] [.agg [.ii a.1,.ii a.2.1,.ii a.2.2.1,.ii a.2.2.2.1,.ii a.2.2.2.2.1,.ii a.2.2.2.2.2],.agg [.ii b.1,.ii b.2.1,.ii b.2.2.1,.ii b.2.2.2.1,.ii b.2.2.2.2.1,.ii b.2.2.2.2.2]] [] (.bool r):=by
 unfold V1 at h
 refine zH Try.func177 [.tmp 4] 49 ?_
 refine zo ?_
 refine zB [(2,.bp 2 0),(3,.bp 3 0)] [(2,.box 68 [.ii a.1,.ii a.2.1,.ii a.2.2.1,.ii a.2.2.2.1,.ii a.2.2.2.2.1,.ii a.2.2.2.2.2]),(3,.box 68 [.ii b.1,.ii b.2.1,.ii b.2.2.1,.ii b.2.2.2.1,.ii b.2.2.2.2.1,.ii b.2.2.2.2.2])] ?_
 refine AW.seq ?_
 refine zo ?_
 refine zS 5 [(2,.bp 2 0),(3,.bp 3 0),(9,.bool (decide (a.2.2.2.2.1=b.2.2.2.2.1)))] [(2,.box 68 [.ii a.1,.ii a.2.1,.ii a.2.2.1,.ii a.2.2.2.1,.ii a.2.2.2.2.1,.ii a.2.2.2.2.2]),(3,.box 68 [.ii b.1,.ii b.2.1,.ii b.2.2.1,.ii b.2.2.2.1,.ii b.2.2.2.2.1,.ii b.2.2.2.2.2])] ?_
 refine zS 1 [(2,.bp 2 0),(3,.bp 3 0),(10,.bool (decide (a.2.2.2.2.1=b.2.2.2.2.1)))] [(2,.box 68 [.ii a.1,.ii a.2.1,.ii a.2.2.1,.ii a.2.2.2.1,.ii a.2.2.2.2.1,.ii a.2.2.2.2.2]),(3,.box 68 [.ii b.1,.ii b.2.1,.ii b.2.2.1,.ii b.2.2.2.1,.ii b.2.2.2.2.1,.ii b.2.2.2.2.2])] ?_
 rcases zI h with ⟨hb1,h⟩|⟨hb1,h⟩
 ·refine zS 4 [(2,.bp 2 0),(3,.bp 3 0),(10,.bool true),(12,.cv (undef)),(14,.cv (undef))] [(2,.box 68 [.ii a.1,.ii a.2.1,.ii a.2.2.1,.ii a.2.2.2.1,.ii a.2.2.2.2.1,.ii a.2.2.2.2.2]),(3,.box 68 [.ii b.1,.ii b.2.1,.ii b.2.2.1,.ii b.2.2.2.1,.ii b.2.2.2.2.1,.ii b.2.2.2.2.2])] ?_
  refine zS 5 [(2,.bp 2 0),(3,.bp 3 0),(17,.bool true),(19,.cv (undef))] [(2,.box 68 [.ii a.1,.ii a.2.1,.ii a.2.2.1,.ii a.2.2.2.1,.ii a.2.2.2.2.1,.ii a.2.2.2.2.2]),(3,.box 68 [.ii b.1,.ii b.2.1,.ii b.2.2.1,.ii b.2.2.2.1,.ii b.2.2.2.2.1,.ii b.2.2.2.2.2])] ?_
  refine zB [(2,.bp 2 0),(3,.bp 3 0),(23,.bool true)] [(2,.box 68 [.ii a.1,.ii a.2.1,.ii a.2.2.1,.ii a.2.2.2.1,.ii a.2.2.2.2.1,.ii a.2.2.2.2.2]),(3,.box 68 [.ii b.1,.ii b.2.1,.ii b.2.2.1,.ii b.2.2.2.1,.ii b.2.2.2.2.1,.ii b.2.2.2.2.2])] ?_
  refine AW.cond (b:=true) rfl (fun _=>?_) (fun hb2=>by cases hb2)
  refine zo ?_
  refine zB [(4,.bool false)] [] ?_
  refine zr ?_
  obtain rfl:=zj h
  exact zR [] [] []
 refine zS 5 [(2,.bp 2 0),(3,.bp 3 0),(10,.bool false),(15,.bool (decide (a.2.2.2.2.1=b.2.2.2.2.2)))] [(2,.box 68 [.ii a.1,.ii a.2.1,.ii a.2.2.1,.ii a.2.2.2.1,.ii a.2.2.2.2.1,.ii a.2.2.2.2.2]),(3,.box 68 [.ii b.1,.ii b.2.1,.ii b.2.2.1,.ii b.2.2.2.1,.ii b.2.2.2.2.1,.ii b.2.2.2.2.2])] ?_
 refine zS 2 [(2,.bp 2 0),(3,.bp 3 0),(17,.bool (decide (a.2.2.2.2.1=b.2.2.2.2.2)))] [(2,.box 68 [.ii a.1,.ii a.2.1,.ii a.2.2.1,.ii a.2.2.2.1,.ii a.2.2.2.2.1,.ii a.2.2.2.2.2]),(3,.box 68 [.ii b.1,.ii b.2.1,.ii b.2.2.1,.ii b.2.2.2.1,.ii b.2.2.2.2.1,.ii b.2.2.2.2.2])] ?_
 rcases zI h with ⟨hb3,h⟩|⟨hb3,h⟩
 ·refine zS 4 [(2,.bp 2 0),(3,.bp 3 0),(17,.bool true),(19,.cv (undef)),(21,.cv (undef))] [(2,.box 68 [.ii a.1,.ii a.2.1,.ii a.2.2.1,.ii a.2.2.2.1,.ii a.2.2.2.2.1,.ii a.2.2.2.2.2]),(3,.box 68 [.ii b.1,.ii b.2.1,.ii b.2.2.1,.ii b.2.2.2.1,.ii b.2.2.2.2.1,.ii b.2.2.2.2.2])] ?_
  refine zB [(2,.bp 2 0),(3,.bp 3 0),(23,.bool true)] [(2,.box 68 [.ii a.1,.ii a.2.1,.ii a.2.2.1,.ii a.2.2.2.1,.ii a.2.2.2.2.1,.ii a.2.2.2.2.2]),(3,.box 68 [.ii b.1,.ii b.2.1,.ii b.2.2.1,.ii b.2.2.2.1,.ii b.2.2.2.2.1,.ii b.2.2.2.2.2])] ?_
  refine AW.cond (b:=true) rfl (fun _=>?_) (fun hb4=>by cases hb4)
  refine zo ?_
  refine zB [(4,.bool false)] [] ?_
  refine zr ?_
  obtain rfl:=zj h
  exact zR [] [] []
 refine zS 5 [(2,.bp 2 0),(3,.bp 3 0),(17,.bool false),(22,.bool (decide (a.2.2.2.2.2=b.2.2.2.2.1)))] [(2,.box 68 [.ii a.1,.ii a.2.1,.ii a.2.2.1,.ii a.2.2.2.1,.ii a.2.2.2.2.1,.ii a.2.2.2.2.2]),(3,.box 68 [.ii b.1,.ii b.2.1,.ii b.2.2.1,.ii b.2.2.2.1,.ii b.2.2.2.2.1,.ii b.2.2.2.2.2])] ?_
 refine zB [(2,.bp 2 0),(3,.bp 3 0),(23,.bool (decide (a.2.2.2.2.2=b.2.2.2.2.1)))] [(2,.box 68 [.ii a.1,.ii a.2.1,.ii a.2.2.1,.ii a.2.2.2.1,.ii a.2.2.2.2.1,.ii a.2.2.2.2.2]),(3,.box 68 [.ii b.1,.ii b.2.1,.ii b.2.2.1,.ii b.2.2.2.1,.ii b.2.2.2.2.1,.ii b.2.2.2.2.2])] ?_
 refine zQ h (fun hb5 h=>?_) (fun hb5 h=>?_)
 ·refine zo ?_
  refine zB [(4,.bool false)] [] ?_
  refine zr ?_
  obtain rfl:=zj h
  exact zR [] [] []
 refine zk ?_
 refine AW.have1 (fun _:Unit=>J0 a b=some r) (fun _=>⟨fr [(2,.bp 2 0),(3,.bp 3 0)],b6 [(2,.box 68 [.ii a.1,.ii a.2.1,.ii a.2.2.1,.ii a.2.2.2.1,.ii a.2.2.2.2.1,.ii a.2.2.2.2.2]),(3,.box 68 [.ii b.1,.ii b.2.1,.ii b.2.2.1,.ii b.2.2.2.1,.ii b.2.2.2.2.1,.ii b.2.2.2.2.2])],gt⟩) (fun _ h=>?_) (fun hk_history_apart_k1=>?_)
 ·as_aux_lemma =>
   unfold J0 at h
   refine zo ?_
   refine zS 5 [(2,.bp 2 0),(3,.bp 3 0),(38,.bool (!(decide (a.1=b.1))))] [(2,.box 68 [.ii a.1,.ii a.2.1,.ii a.2.2.1,.ii a.2.2.2.1,.ii a.2.2.2.2.1,.ii a.2.2.2.2.2]),(3,.box 68 [.ii b.1,.ii b.2.1,.ii b.2.2.1,.ii b.2.2.2.1,.ii b.2.2.2.2.1,.ii b.2.2.2.2.2])] ?_
   refine zS 1 [(2,.bp 2 0),(3,.bp 3 0),(39,.bool (!(decide (a.1=b.1))))] [(2,.box 68 [.ii a.1,.ii a.2.1,.ii a.2.2.1,.ii a.2.2.2.1,.ii a.2.2.2.2.1,.ii a.2.2.2.2.2]),(3,.box 68 [.ii b.1,.ii b.2.1,.ii b.2.2.1,.ii b.2.2.2.1,.ii b.2.2.2.2.1,.ii b.2.2.2.2.2])] ?_
   rcases zI h with ⟨hb6,h⟩|⟨hb6,h⟩
   ·refine zS 5 [(2,.bp 2 0),(3,.bp 3 0),(44,.bool true)] [(2,.box 68 [.ii a.1,.ii a.2.1,.ii a.2.2.1,.ii a.2.2.2.1,.ii a.2.2.2.2.1,.ii a.2.2.2.2.2]),(3,.box 68 [.ii b.1,.ii b.2.1,.ii b.2.2.1,.ii b.2.2.2.1,.ii b.2.2.2.2.1,.ii b.2.2.2.2.2])] ?_
    refine zB [(4,.bool true)] [] ?_
    refine AW.ret ?_
    obtain rfl:=zj h
    exact zR [] [] []
   refine zS 2 [(2,.bp 2 0),(3,.bp 3 0),(39,.bool false),(40,.agg [.ii a.1,.ii a.2.1,.ii a.2.2.1,.ii a.2.2.2.1,.ii a.2.2.2.2.1,.ii a.2.2.2.2.2]),(41,.agg [.ii b.1,.ii b.2.1,.ii b.2.2.1,.ii b.2.2.2.1,.ii b.2.2.2.2.1,.ii b.2.2.2.2.2])] [(2,.box 68 [.ii a.1,.ii a.2.1,.ii a.2.2.1,.ii a.2.2.2.1,.ii a.2.2.2.2.1,.ii a.2.2.2.2.2]),(3,.box 68 [.ii b.1,.ii b.2.1,.ii b.2.2.1,.ii b.2.2.2.1,.ii b.2.2.2.2.1,.ii b.2.2.2.2.2])] ?_
   obtain ⟨v0,hv7,h⟩:=zw h
   refine zG [] [] (Z1 a b hv7) [(2,.bp 2 0),(3,.bp 3 0),(39,.bool false),(42,.bool v0)] [(2,.box 68 [.ii a.1,.ii a.2.1,.ii a.2.2.1,.ii a.2.2.2.1,.ii a.2.2.2.2.1,.ii a.2.2.2.2.2]),(3,.box 68 [.ii b.1,.ii b.2.1,.ii b.2.2.1,.ii b.2.2.2.1,.ii b.2.2.2.2.1,.ii b.2.2.2.2.2])] ?_
   refine zS 2 [(2,.bp 2 0),(3,.bp 3 0),(44,.bool v0)] [(2,.box 68 [.ii a.1,.ii a.2.1,.ii a.2.2.1,.ii a.2.2.2.1,.ii a.2.2.2.2.1,.ii a.2.2.2.2.2]),(3,.box 68 [.ii b.1,.ii b.2.1,.ii b.2.2.1,.ii b.2.2.2.1,.ii b.2.2.2.2.1,.ii b.2.2.2.2.2])] ?_
   rcases zI h with ⟨hb8,h⟩|⟨hb8,h⟩
   ·refine zB [(4,.bool true)] [] ?_
    refine AW.ret ?_
    obtain rfl:=zj h
    exact zR [] [] []
   refine zS 2 [(44,.bool false),(45,.agg [.ii b.1,.ii b.2.1,.ii b.2.2.1,.ii b.2.2.2.1,.ii b.2.2.2.2.1,.ii b.2.2.2.2.2]),(46,.agg [.ii a.1,.ii a.2.1,.ii a.2.2.1,.ii a.2.2.2.1,.ii a.2.2.2.2.1,.ii a.2.2.2.2.2])] [] ?_
   obtain ⟨v0_2,hv9,h⟩:=zw h
   refine zG [] [] (Z1 b a hv9) [(44,.bool false),(47,.bool v0_2)] [] ?_
   refine zB [(4,.bool v0_2)] [] ?_
   refine AW.ret ?_
   obtain rfl:=zj h
   exact zR [] [] []
 refine AW.seq ?_
 refine zo ?_
 refine zS 5 [(2,.bp 2 0),(3,.bp 3 0),(28,.bool (decide (a.2.2.2.2.2=b.2.2.2.2.2)))] [(2,.box 68 [.ii a.1,.ii a.2.1,.ii a.2.2.1,.ii a.2.2.2.1,.ii a.2.2.2.2.1,.ii a.2.2.2.2.2]),(3,.box 68 [.ii b.1,.ii b.2.1,.ii b.2.2.1,.ii b.2.2.2.1,.ii b.2.2.2.2.1,.ii b.2.2.2.2.2])] ?_
 refine zS 1 [(2,.bp 2 0),(3,.bp 3 0),(29,.bool (decide (a.2.2.2.2.2=b.2.2.2.2.2)))] [(2,.box 68 [.ii a.1,.ii a.2.1,.ii a.2.2.1,.ii a.2.2.2.1,.ii a.2.2.2.2.1,.ii a.2.2.2.2.2]),(3,.box 68 [.ii b.1,.ii b.2.1,.ii b.2.2.1,.ii b.2.2.2.1,.ii b.2.2.2.2.1,.ii b.2.2.2.2.2])] ?_
 rcases zI h with ⟨hb10,h⟩|⟨hb10,h⟩
 ·refine zB [(2,.bp 2 0),(3,.bp 3 0),(33,.bool (!(decide (a.2.2.2.2.2=0))))] [(2,.box 68 [.ii a.1,.ii a.2.1,.ii a.2.2.1,.ii a.2.2.2.1,.ii a.2.2.2.2.1,.ii a.2.2.2.2.2]),(3,.box 68 [.ii b.1,.ii b.2.1,.ii b.2.2.1,.ii b.2.2.2.1,.ii b.2.2.2.2.1,.ii b.2.2.2.2.2])] ?_
  refine zQ h (fun hb11 h=>?_) (fun hb11 h=>?_)
  ·refine zo ?_
   refine zB [(4,.bool false)] [] ?_
   refine zr ?_
   obtain rfl:=zj h
   exact zR [] [] []
  refine zk ?_
  exact AW.weaken (zL [] [] []) (hk_history_apart_k1 () h)
 refine zB [(2,.bp 2 0),(3,.bp 3 0),(33,.bool false)] [(2,.box 68 [.ii a.1,.ii a.2.1,.ii a.2.2.1,.ii a.2.2.2.1,.ii a.2.2.2.2.1,.ii a.2.2.2.2.2]),(3,.box 68 [.ii b.1,.ii b.2.1,.ii b.2.2.1,.ii b.2.2.2.1,.ii b.2.2.2.2.1,.ii b.2.2.2.2.2])] ?_
 refine AW.cond (b:=false) rfl (fun hb12=>by cases hb12) (fun _=>?_)
 refine zk ?_
 exact AW.weaken (zL [] [] []) (hk_history_apart_k1 () h)
theorem a5P (h0:ZH) {r:Bool} (h:V2 h0=some r):HC Try.prog 139 [] [.sl Y0 h0] [] (.bool r):=by
 unfold V2 at h
 refine zH Try.func139 [.tmp 2] 34 ?_
 refine zo ?_
 refine zB [(0,.sl Y0 h0)] [] ?_
 refine AW.seq ?_
 refine zo ?_
 refine zB [(0,.sl Y0 h0),(9,.bool (decide (8<(h0.length:Int))))] [] ?_
 refine zQ h (fun hb1 h=>?_) (fun hb1 h=>?_)
 ·refine zo ?_
  refine zB [(2,.bool false)] [] ?_
  refine zr ?_
  obtain rfl:=zj h
  exact zR [] [] []
 refine zk ?_
 refine AW.have1 (fun _:Unit=>U0=some r) (fun _=>⟨fr [],b6 [],gt⟩) (fun _ h=>?_) (fun hk_history_Valid_k1=>?_)
 ·as_aux_lemma =>
   unfold U0 at h
   refine zo ?_
   refine zB [(2,.bool true)] [] ?_
   refine AW.ret ?_
   obtain rfl:=zj h
   exact zR [] [] []
 refine AW.seq ?_
 refine zo ?_
 refine zB [(0,.sl Y0 h0),(10,.sl Y0 h0),(11,.ii (h0.length:Int)),(12,.ii 0)] [] ?_
 refine AW.block ?_
 obtain ⟨rv6,hw2,ho3⟩:=zw h
 refine AW.loopO (J2 h0) (fun st1=>⟨fr [(0,.sl Y0 h0),(10,.sl Y0 h0),(11,.ii (h0.length:Int)),(12,.ii st1)],b6 [],gt⟩) 0 hw2 (zL [] [] []) ?_
 as_aux_lemma =>
  intro st1 x5 h hd4
  unfold J2 at h
  refine zo ?_
  refine zB [(0,.sl Y0 h0),(10,.sl Y0 h0),(11,.ii (h0.length:Int)),(12,.ii st1),(13,.bool (decide (st1<(h0.length:Int))))] [] ?_
  refine AW.seq ?_
  refine zQ h (fun hb7 h=>?_) (fun hb7 h=>?_)
  ·refine zk ?_
   refine AW.have1 (fun _:Unit=>T9 st1=some x5) (fun _=>⟨fr [(0,.sl Y0 h0),(10,.sl Y0 h0),(11,.ii (h0.length:Int)),(12,.ii st1)],b6 [],gt⟩) (fun _ h=>?_) (fun hk_history_Valid_k2=>?_)
   ·as_aux_lemma =>
     unfold T9 at h
     refine AW.ops ?_
     obtain ⟨c8,h⟩:=b5.1 h
     refine zA [(0,.sl Y0 h0),(10,.sl Y0 h0),(11,.ii (h0.length:Int)),(12,.ii (st1+1))] [] ?_
     obtain rfl:=zj h
     exact ⟨_,rfl,zL [] [] []⟩
   refine AW.seq ?_
   refine AW.block ?_
   refine zo ?_
   obtain ⟨c9,h⟩:=b5.1 h
   obtain ⟨c10,h⟩:=b5.1 h
   refine zS 5 [(0,.sl Y0 h0),(3,.ii st1),(4,.bp 4 0),(10,.sl Y0 h0),(11,.ii (h0.length:Int)),(12,.ii st1),(16,.agg [.ii (h0.getD st1.toNat (0,0,0,0,0,0)).1,.ii (h0.getD st1.toNat (0,0,0,0,0,0)).2.1,.ii (h0.getD st1.toNat (0,0,0,0,0,0)).2.2.1,.ii (h0.getD st1.toNat (0,0,0,0,0,0)).2.2.2.1,.ii (h0.getD st1.toNat (0,0,0,0,0,0)).2.2.2.2.1,.ii (h0.getD st1.toNat (0,0,0,0,0,0)).2.2.2.2.2])] [(4,.box 68 [.ii 0,.ii 0,.ii 0,.ii 0,.ii 0,.ii 0])] ?_
   refine zB [(0,.sl Y0 h0),(3,.ii st1),(4,.bp 4 0),(10,.sl Y0 h0),(11,.ii (h0.length:Int)),(12,.ii st1)] [(4,.box 68 [.ii (h0.getD st1.toNat (0,0,0,0,0,0)).1,.ii (h0.getD st1.toNat (0,0,0,0,0,0)).2.1,.ii (h0.getD st1.toNat (0,0,0,0,0,0)).2.2.1,.ii (h0.getD st1.toNat (0,0,0,0,0,0)).2.2.2.1,.ii (h0.getD st1.toNat (0,0,0,0,0,0)).2.2.2.2.1,.ii (h0.getD st1.toNat (0,0,0,0,0,0)).2.2.2.2.2])] ?_
   refine AW.seq ?_
   refine zo ?_
   refine zS 1 [(0,.sl Y0 h0),(3,.ii st1),(4,.bp 4 0),(10,.sl Y0 h0),(11,.ii (h0.length:Int)),(12,.ii st1),(17,.agg [.ii (h0.getD st1.toNat (0,0,0,0,0,0)).1,.ii (h0.getD st1.toNat (0,0,0,0,0,0)).2.1,.ii (h0.getD st1.toNat (0,0,0,0,0,0)).2.2.1,.ii (h0.getD st1.toNat (0,0,0,0,0,0)).2.2.2.1,.ii (h0.getD st1.toNat (0,0,0,0,0,0)).2.2.2.2.1,.ii (h0.getD st1.toNat (0,0,0,0,0,0)).2.2.2.2.2])] [(4,.box 68 [.ii (h0.getD st1.toNat (0,0,0,0,0,0)).1,.ii (h0.getD st1.toNat (0,0,0,0,0,0)).2.1,.ii (h0.getD st1.toNat (0,0,0,0,0,0)).2.2.1,.ii (h0.getD st1.toNat (0,0,0,0,0,0)).2.2.2.1,.ii (h0.getD st1.toNat (0,0,0,0,0,0)).2.2.2.2.1,.ii (h0.getD st1.toNat (0,0,0,0,0,0)).2.2.2.2.2])] ?_
   obtain ⟨v0,hv11,h⟩:=zw h
   refine zC [] [] (a45 (h0.getD st1.toNat (0,0,0,0,0,0)) hv11) [(0,.sl Y0 h0),(3,.ii st1),(4,.bp 4 0),(10,.sl Y0 h0),(11,.ii (h0.length:Int)),(12,.ii st1),(18,.bool v0)] [(4,.box 68 [.ii (h0.getD st1.toNat (0,0,0,0,0,0)).1,.ii (h0.getD st1.toNat (0,0,0,0,0,0)).2.1,.ii (h0.getD st1.toNat (0,0,0,0,0,0)).2.2.1,.ii (h0.getD st1.toNat (0,0,0,0,0,0)).2.2.2.1,.ii (h0.getD st1.toNat (0,0,0,0,0,0)).2.2.2.2.1,.ii (h0.getD st1.toNat (0,0,0,0,0,0)).2.2.2.2.2])] ?_
   refine zB [(0,.sl Y0 h0),(3,.ii st1),(4,.bp 4 0),(10,.sl Y0 h0),(11,.ii (h0.length:Int)),(12,.ii st1),(19,.bool (!v0))] [(4,.box 68 [.ii (h0.getD st1.toNat (0,0,0,0,0,0)).1,.ii (h0.getD st1.toNat (0,0,0,0,0,0)).2.1,.ii (h0.getD st1.toNat (0,0,0,0,0,0)).2.2.1,.ii (h0.getD st1.toNat (0,0,0,0,0,0)).2.2.2.1,.ii (h0.getD st1.toNat (0,0,0,0,0,0)).2.2.2.2.1,.ii (h0.getD st1.toNat (0,0,0,0,0,0)).2.2.2.2.2])] ?_
   refine zQ h (fun hb12 h=>?_) (fun hb12 h=>?_)
   ·refine zo ?_
    refine zB [(2,.bool false)] [] ?_
    refine zr ?_
    refine d7 ?_
    refine b9 ?_
    obtain rfl:=zj h
    try rw [← hd4 _ rfl] at ho3
    have h:=ho3
    try simp only at h
    refine b9 ?_
    refine d7 ?_
    refine b9 ?_
    obtain rfl:=zj h
    exact zR [] [] []
   refine zk ?_
   refine zo ?_
   obtain ⟨c13,h⟩:=b5.1 h
   obtain ⟨c14,h⟩:=b5.1 h
   refine zB [(0,.sl Y0 h0),(4,.bp 4 0),(10,.sl Y0 h0),(11,.ii (h0.length:Int)),(12,.ii st1),(22,.sl Y0 (h0.take st1.toNat)),(23,.ii ((h0.take st1.toNat).length:Int)),(24,.ii 0)] [(4,.box 68 [.ii (h0.getD st1.toNat (0,0,0,0,0,0)).1,.ii (h0.getD st1.toNat (0,0,0,0,0,0)).2.1,.ii (h0.getD st1.toNat (0,0,0,0,0,0)).2.2.1,.ii (h0.getD st1.toNat (0,0,0,0,0,0)).2.2.2.1,.ii (h0.getD st1.toNat (0,0,0,0,0,0)).2.2.2.2.1,.ii (h0.getD st1.toNat (0,0,0,0,0,0)).2.2.2.2.2])] ?_
   refine AW.block ?_
   obtain ⟨rv19,hw15,ho16⟩:=zw h
   refine AW.loopO (J1 h0 st1) (fun st2=>⟨fr [(0,.sl Y0 h0),(4,.bp 4 0),(10,.sl Y0 h0),(11,.ii (h0.length:Int)),(12,.ii st1),(22,.sl Y0 (h0.take st1.toNat)),(23,.ii ((h0.take st1.toNat).length:Int)),(24,.ii st2)],b6 [(4,.box 68 [.ii (h0.getD st1.toNat (0,0,0,0,0,0)).1,.ii (h0.getD st1.toNat (0,0,0,0,0,0)).2.1,.ii (h0.getD st1.toNat (0,0,0,0,0,0)).2.2.1,.ii (h0.getD st1.toNat (0,0,0,0,0,0)).2.2.2.1,.ii (h0.getD st1.toNat (0,0,0,0,0,0)).2.2.2.2.1,.ii (h0.getD st1.toNat (0,0,0,0,0,0)).2.2.2.2.2])],gt⟩) 0 hw15 (zL [] [] []) ?_
   as_aux_lemma =>
    intro st2 x18 h hd17
    unfold J1 at h
    refine zo ?_
    refine zB [(0,.sl Y0 h0),(4,.bp 4 0),(10,.sl Y0 h0),(11,.ii (h0.length:Int)),(12,.ii st1),(22,.sl Y0 (h0.take st1.toNat)),(23,.ii ((h0.take st1.toNat).length:Int)),(24,.ii st2),(25,.bool (decide (st2<((h0.take st1.toNat).length:Int))))] [(4,.box 68 [.ii (h0.getD st1.toNat (0,0,0,0,0,0)).1,.ii (h0.getD st1.toNat (0,0,0,0,0,0)).2.1,.ii (h0.getD st1.toNat (0,0,0,0,0,0)).2.2.1,.ii (h0.getD st1.toNat (0,0,0,0,0,0)).2.2.2.1,.ii (h0.getD st1.toNat (0,0,0,0,0,0)).2.2.2.2.1,.ii (h0.getD st1.toNat (0,0,0,0,0,0)).2.2.2.2.2])] ?_
    refine AW.seq ?_
    refine zQ h (fun hb20 h=>?_) (fun hb20 h=>?_)
    ·refine zk ?_
     refine AW.seq ?_
     refine AW.block ?_
     refine zo ?_
     obtain ⟨c21,h⟩:=b5.1 h
     obtain ⟨c22,h⟩:=b5.1 h
     refine zB [(0,.sl Y0 h0),(4,.bp 4 0),(6,.bp 6 0),(10,.sl Y0 h0),(11,.ii (h0.length:Int)),(12,.ii st1),(22,.sl Y0 (h0.take st1.toNat)),(23,.ii ((h0.take st1.toNat).length:Int)),(24,.ii st2)] [(4,.box 68 [.ii (h0.getD st1.toNat (0,0,0,0,0,0)).1,.ii (h0.getD st1.toNat (0,0,0,0,0,0)).2.1,.ii (h0.getD st1.toNat (0,0,0,0,0,0)).2.2.1,.ii (h0.getD st1.toNat (0,0,0,0,0,0)).2.2.2.1,.ii (h0.getD st1.toNat (0,0,0,0,0,0)).2.2.2.2.1,.ii (h0.getD st1.toNat (0,0,0,0,0,0)).2.2.2.2.2]),(6,.box 68 [.ii ((h0.take st1.toNat).getD st2.toNat (0,0,0,0,0,0)).1,.ii ((h0.take st1.toNat).getD st2.toNat (0,0,0,0,0,0)).2.1,.ii ((h0.take st1.toNat).getD st2.toNat (0,0,0,0,0,0)).2.2.1,.ii ((h0.take st1.toNat).getD st2.toNat (0,0,0,0,0,0)).2.2.2.1,.ii ((h0.take st1.toNat).getD st2.toNat (0,0,0,0,0,0)).2.2.2.2.1,.ii ((h0.take st1.toNat).getD st2.toNat (0,0,0,0,0,0)).2.2.2.2.2])] ?_
     refine zo ?_
     refine zS 2 [(0,.sl Y0 h0),(4,.bp 4 0),(10,.sl Y0 h0),(11,.ii (h0.length:Int)),(12,.ii st1),(22,.sl Y0 (h0.take st1.toNat)),(23,.ii ((h0.take st1.toNat).length:Int)),(24,.ii st2),(28,.agg [.ii (h0.getD st1.toNat (0,0,0,0,0,0)).1,.ii (h0.getD st1.toNat (0,0,0,0,0,0)).2.1,.ii (h0.getD st1.toNat (0,0,0,0,0,0)).2.2.1,.ii (h0.getD st1.toNat (0,0,0,0,0,0)).2.2.2.1,.ii (h0.getD st1.toNat (0,0,0,0,0,0)).2.2.2.2.1,.ii (h0.getD st1.toNat (0,0,0,0,0,0)).2.2.2.2.2]),(29,.agg [.ii ((h0.take st1.toNat).getD st2.toNat (0,0,0,0,0,0)).1,.ii ((h0.take st1.toNat).getD st2.toNat (0,0,0,0,0,0)).2.1,.ii ((h0.take st1.toNat).getD st2.toNat (0,0,0,0,0,0)).2.2.1,.ii ((h0.take st1.toNat).getD st2.toNat (0,0,0,0,0,0)).2.2.2.1,.ii ((h0.take st1.toNat).getD st2.toNat (0,0,0,0,0,0)).2.2.2.2.1,.ii ((h0.take st1.toNat).getD st2.toNat (0,0,0,0,0,0)).2.2.2.2.2])] [(4,.box 68 [.ii (h0.getD st1.toNat (0,0,0,0,0,0)).1,.ii (h0.getD st1.toNat (0,0,0,0,0,0)).2.1,.ii (h0.getD st1.toNat (0,0,0,0,0,0)).2.2.1,.ii (h0.getD st1.toNat (0,0,0,0,0,0)).2.2.2.1,.ii (h0.getD st1.toNat (0,0,0,0,0,0)).2.2.2.2.1,.ii (h0.getD st1.toNat (0,0,0,0,0,0)).2.2.2.2.2])] ?_
     obtain ⟨v0_2,hv23,h⟩:=zw h
     refine zC [] [] (a5O (h0.getD st1.toNat (0,0,0,0,0,0)) ((h0.take st1.toNat).getD st2.toNat (0,0,0,0,0,0)) hv23) [(0,.sl Y0 h0),(4,.bp 4 0),(10,.sl Y0 h0),(11,.ii (h0.length:Int)),(12,.ii st1),(22,.sl Y0 (h0.take st1.toNat)),(23,.ii ((h0.take st1.toNat).length:Int)),(24,.ii st2),(30,.bool v0_2)] [(4,.box 68 [.ii (h0.getD st1.toNat (0,0,0,0,0,0)).1,.ii (h0.getD st1.toNat (0,0,0,0,0,0)).2.1,.ii (h0.getD st1.toNat (0,0,0,0,0,0)).2.2.1,.ii (h0.getD st1.toNat (0,0,0,0,0,0)).2.2.2.1,.ii (h0.getD st1.toNat (0,0,0,0,0,0)).2.2.2.2.1,.ii (h0.getD st1.toNat (0,0,0,0,0,0)).2.2.2.2.2])] ?_
     refine zB [(0,.sl Y0 h0),(4,.bp 4 0),(10,.sl Y0 h0),(11,.ii (h0.length:Int)),(12,.ii st1),(22,.sl Y0 (h0.take st1.toNat)),(23,.ii ((h0.take st1.toNat).length:Int)),(24,.ii st2),(31,.bool (!v0_2))] [(4,.box 68 [.ii (h0.getD st1.toNat (0,0,0,0,0,0)).1,.ii (h0.getD st1.toNat (0,0,0,0,0,0)).2.1,.ii (h0.getD st1.toNat (0,0,0,0,0,0)).2.2.1,.ii (h0.getD st1.toNat (0,0,0,0,0,0)).2.2.2.1,.ii (h0.getD st1.toNat (0,0,0,0,0,0)).2.2.2.2.1,.ii (h0.getD st1.toNat (0,0,0,0,0,0)).2.2.2.2.2])] ?_
     refine zQ h (fun hb24 h=>?_) (fun hb24 h=>?_)
     ·refine zo ?_
      refine zB [(2,.bool false)] [] ?_
      refine AW.ret ?_
      refine d7 ?_
      refine b9 ?_
      obtain rfl:=zj h
      try rw [← hd17 _ rfl] at ho16
      have h:=ho16
      try simp only at h
      refine b9 ?_
      refine d7 ?_
      refine d7 ?_
      refine b9 ?_
      obtain rfl:=zj h
      try rw [← hd4 _ rfl] at ho3
      have h:=ho3
      try simp only at h
      refine b9 ?_
      refine d7 ?_
      refine b9 ?_
      obtain rfl:=zj h
      exact zR [] [] []
     refine zm ?_
     refine g5 ?_
     refine AW.ops ?_
     obtain ⟨c25,h⟩:=b5.1 h
     refine zA [(0,.sl Y0 h0),(4,.bp 4 0),(10,.sl Y0 h0),(11,.ii (h0.length:Int)),(12,.ii st1),(22,.sl Y0 (h0.take st1.toNat)),(23,.ii ((h0.take st1.toNat).length:Int)),(24,.ii (st2+1))] [(4,.box 68 [.ii (h0.getD st1.toNat (0,0,0,0,0,0)).1,.ii (h0.getD st1.toNat (0,0,0,0,0,0)).2.1,.ii (h0.getD st1.toNat (0,0,0,0,0,0)).2.2.1,.ii (h0.getD st1.toNat (0,0,0,0,0,0)).2.2.2.1,.ii (h0.getD st1.toNat (0,0,0,0,0,0)).2.2.2.2.1,.ii (h0.getD st1.toNat (0,0,0,0,0,0)).2.2.2.2.2])] ?_
     obtain rfl:=zj h
     exact ⟨_,rfl,zL [] [] []⟩
    refine AW.exit ?_
    refine i6 ?_
    obtain rfl:=zj h
    try rw [← hd17 _ rfl] at ho16
    have h:=ho16
    try simp only at h
    refine i6 ?_
    refine m7 ?_
    refine p6 ?_
    refine g5 ?_
    exact AW.weaken (zL [] [] []) (hk_history_Valid_k2 () h)
  refine AW.exit ?_
  refine i6 ?_
  obtain rfl:=zj h
  try rw [← hd4 _ rfl] at ho3
  have h:=ho3
  try simp only at h
  refine i6 ?_
  refine m7 ?_
  refine g5 ?_
  exact AW.weaken (zL [] [] []) (hk_history_Valid_k1 () h)
theorem a2f (m:Int×Int×(List (List Int))×(List (List Int))) (n:Int) {r:Bool} (h:E9 m n=some r):HC Try.prog 163 [] [.agg [.ii m.1,.ii m.2.1,.sl (.sl .i) m.2.2.1,.sl (.sl .i) m.2.2.2],.ii n] [] (.bool r):=by
 unfold E9 at h
 refine zH Try.func163 [.tmp 4] 13 ?_
 refine zo ?_
 refine zB [(1,.ii n),(2,.bp 2 0)] [(2,.box 171 [.ii m.1,.ii m.2.1,.sl (.sl .i) m.2.2.1,.sl (.sl .i) m.2.2.2])] ?_
 refine zo ?_
 refine zS 3 [(1,.ii n),(2,.bp 2 0),(7,.bool (decide (0≤n)))] [(2,.box 171 [.ii m.1,.ii m.2.1,.sl (.sl .i) m.2.2.1,.sl (.sl .i) m.2.2.2])] ?_
 rcases zI h with ⟨hb1,h⟩|⟨hb1,h⟩
 ·refine zS 5 [(12,.bool (decide (n<m.1)))] [] ?_
  refine zB [(4,.bool (decide (n<m.1)))] [] ?_
  refine AW.ret ?_
  obtain rfl:=zj h
  exact zR [] [] []
 refine zS 4 [(7,.bool false),(11,.cv (undef))] [] ?_
 refine zB [(4,.bool false)] [] ?_
 refine AW.ret ?_
 obtain rfl:=zj h
 exact zR [] [] []
theorem b0h (is0:Int×Int×(List (List Int))×(List (List Int))) (numbers:List Int) {r:Bool} (h:a3g is0 numbers=some r):HC Try.prog 172 [] [.fn (.func 163) [.agg [.ii is0.1,.ii is0.2.1,.sl (.sl .i) is0.2.2.1,.sl (.sl .i) is0.2.2.2]] [],.sl .i numbers] [] (.bool r):=by
 unfold a3g at h
 refine zH Try.func172 [.tmp 4] 18 ?_
 refine zo ?_
 refine zB [(0,.fn (.func 163) [.agg [.ii is0.1,.ii is0.2.1,.sl (.sl .i) is0.2.2.1,.sl (.sl .i) is0.2.2.2]] []),(1,.sl .i numbers)] [] ?_
 refine AW.have1 (fun _:Unit=>a1v=some r) (fun _=>⟨fr [],b6 [],gt⟩) (fun _ h=>?_) (fun hk_spec_all_k1=>?_)
 ·as_aux_lemma =>
   unfold a1v at h
   refine zo ?_
   refine zB [(4,.bool true)] [] ?_
   refine AW.ret ?_
   obtain rfl:=zj h
   exact zR [] [] []
 refine AW.seq ?_
 refine zo ?_
 refine zB [(0,.fn (.func 163) [.agg [.ii is0.1,.ii is0.2.1,.sl (.sl .i) is0.2.2.1,.sl (.sl .i) is0.2.2.2]] []),(7,.sl .i numbers),(8,.ii (numbers.length:Int)),(9,.ii 0)] [] ?_
 refine AW.block ?_
 obtain ⟨rv5,hw1,ho2⟩:=zw h
 refine AW.loopO (a0s is0 numbers) (fun st1=>⟨fr [(0,.fn (.func 163) [.agg [.ii is0.1,.ii is0.2.1,.sl (.sl .i) is0.2.2.1,.sl (.sl .i) is0.2.2.2]] []),(7,.sl .i numbers),(8,.ii (numbers.length:Int)),(9,.ii st1)],b6 [],gt⟩) 0 hw1 (zL [] [] []) ?_
 as_aux_lemma =>
  intro st1 x4 h hd3
  unfold a0s at h
  refine zo ?_
  refine zB [(0,.fn (.func 163) [.agg [.ii is0.1,.ii is0.2.1,.sl (.sl .i) is0.2.2.1,.sl (.sl .i) is0.2.2.2]] []),(7,.sl .i numbers),(8,.ii (numbers.length:Int)),(9,.ii st1),(10,.bool (decide (st1<(numbers.length:Int))))] [] ?_
  refine AW.seq ?_
  refine zQ h (fun hb6 h=>?_) (fun hb6 h=>?_)
  ·refine zk ?_
   refine AW.seq ?_
   refine AW.block ?_
   refine zo ?_
   obtain ⟨c7,h⟩:=b5.1 h
   obtain ⟨c8,h⟩:=b5.1 h
   refine zB [(0,.fn (.func 163) [.agg [.ii is0.1,.ii is0.2.1,.sl (.sl .i) is0.2.2.1,.sl (.sl .i) is0.2.2.2]] []),(6,.ii (numbers.getD st1.toNat 0)),(7,.sl .i numbers),(8,.ii (numbers.length:Int)),(9,.ii st1)] [] ?_
   refine zo ?_
   refine zS 2 [(0,.fn (.func 163) [.agg [.ii is0.1,.ii is0.2.1,.sl (.sl .i) is0.2.2.1,.sl (.sl .i) is0.2.2.2]] []),(7,.sl .i numbers),(8,.ii (numbers.length:Int)),(9,.ii st1),(13,.fn (.func 163) [.agg [.ii is0.1,.ii is0.2.1,.sl (.sl .i) is0.2.2.1,.sl (.sl .i) is0.2.2.2]] []),(14,.ii (numbers.getD st1.toNat 0))] [] ?_
   obtain ⟨v0,hv9,h⟩:=zw h
   refine zC [] [] (a2f is0 (numbers.getD st1.toNat 0) hv9) [(0,.fn (.func 163) [.agg [.ii is0.1,.ii is0.2.1,.sl (.sl .i) is0.2.2.1,.sl (.sl .i) is0.2.2.2]] []),(7,.sl .i numbers),(8,.ii (numbers.length:Int)),(9,.ii st1),(15,.bool v0)] [] ?_
   refine zB [(0,.fn (.func 163) [.agg [.ii is0.1,.ii is0.2.1,.sl (.sl .i) is0.2.2.1,.sl (.sl .i) is0.2.2.2]] []),(7,.sl .i numbers),(8,.ii (numbers.length:Int)),(9,.ii st1),(16,.bool (!v0))] [] ?_
   refine zQ h (fun hb10 h=>?_) (fun hb10 h=>?_)
   ·refine zo ?_
    refine zB [(4,.bool false)] [] ?_
    refine AW.ret ?_
    refine d7 ?_
    refine b9 ?_
    obtain rfl:=zj h
    try rw [← hd3 _ rfl] at ho2
    have h:=ho2
    try simp only at h
    refine b9 ?_
    refine d7 ?_
    refine b9 ?_
    obtain rfl:=zj h
    exact zR [] [] []
   refine zm ?_
   refine g5 ?_
   refine AW.ops ?_
   obtain ⟨c11,h⟩:=b5.1 h
   refine zA [(0,.fn (.func 163) [.agg [.ii is0.1,.ii is0.2.1,.sl (.sl .i) is0.2.2.1,.sl (.sl .i) is0.2.2.2]] []),(7,.sl .i numbers),(8,.ii (numbers.length:Int)),(9,.ii (st1+1))] [] ?_
   obtain rfl:=zj h
   exact ⟨_,rfl,zL [] [] []⟩
  refine AW.exit ?_
  refine i6 ?_
  obtain rfl:=zj h
  try rw [← hd3 _ rfl] at ho2
  have h:=ho2
  try simp only at h
  refine i6 ?_
  refine m7 ?_
  refine g5 ?_
  exact AW.weaken (zL [] [] []) (hk_spec_all_k1 () h)
end Go.Proofs.Ytenchhmcjmjlbaa
