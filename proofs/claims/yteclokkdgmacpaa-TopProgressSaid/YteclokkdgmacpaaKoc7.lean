import Derived.Test.YteclokkdgmacpaaGrp
import Derived.Test.YteclokkdgmacpaaSh7
import Derived.Test.YteclokkdgmacpaaAvd
import Derived.Test.YteclokkdgmacpaaKoc6
import Derived.Test.YteclokkdgmacpaaYa7
namespace Go.Proofs.Yteclokkdgmacpaa
open Go.RowKit
set_option linter.unusedSimpArgs false
set_option linter.unusedVariables false
set_option linter.constructorNameAsVariable false
set_option maxRecDepth 100000
set_option maxHeartbeats 40000000
theorem hc_linealref07_Valid (g:Int×(List (Int×Int×Int×Bool))) {r:Bool} (h:linealref07_Valid g=some r):HC Try.prog 21 [] [.agg [.ii g.1,.sl Y7 g.2]] [] (.bool r):=by
 unfold linealref07_Valid at h
 refine zH Try.func21 [.tmp 2] 61 ?_
 refine zo ?_
 refine zB [(1,.bp 1 0)] [(1,.box 24 [.ii g.1,.sl Y7 g.2])] ?_
 refine AW.seq ?_
 refine zo ?_
 refine zS 4 [(1,.bp 1 0),(10,.bool (decide (g.1<1)))] [(1,.box 24 [.ii g.1,.sl Y7 g.2])] ?_
 rcases zI h with ⟨hb1,h⟩|⟨hb1,h⟩
 ·refine zS 5 [(1,.bp 1 0),(15,.bool true)] [(1,.box 24 [.ii g.1,.sl Y7 g.2])] ?_
  refine zS 4 [(1,.bp 1 0),(15,.bool true),(19,.cv (undef))] [(1,.box 24 [.ii g.1,.sl Y7 g.2])] ?_
  refine zB [(1,.bp 1 0),(20,.bool true)] [(1,.box 24 [.ii g.1,.sl Y7 g.2])] ?_
  refine AW.cond (b:=true) rfl (fun _=>?_) (fun hb2=>by cases hb2)
  refine zo ?_
  refine zB [(2,.bool false)] [] ?_
  refine zr ?_
  obtain rfl:=zj h
  exact zR [] [] []
 refine zS 5 [(1,.bp 1 0),(15,.bool (decide (8<g.1)))] [(1,.box 24 [.ii g.1,.sl Y7 g.2])] ?_
 rcases zI h with ⟨hb3,h⟩|⟨hb3,h⟩
 ·refine zS 4 [(1,.bp 1 0),(15,.bool true),(19,.cv (undef))] [(1,.box 24 [.ii g.1,.sl Y7 g.2])] ?_
  refine zB [(1,.bp 1 0),(20,.bool true)] [(1,.box 24 [.ii g.1,.sl Y7 g.2])] ?_
  refine AW.cond (b:=true) rfl (fun _=>?_) (fun hb4=>by cases hb4)
  refine zo ?_
  refine zB [(2,.bool false)] [] ?_
  refine zr ?_
  obtain rfl:=zj h
  exact zR [] [] []
 refine zB [(1,.bp 1 0),(20,.bool (decide (20<(g.2.length:Int))))] [(1,.box 24 [.ii g.1,.sl Y7 g.2])] ?_
 refine zQ h (fun hb5 h=>?_) (fun hb5 h=>?_)
 ·refine zo ?_
  refine zB [(2,.bool false)] [] ?_
  refine zr ?_
  obtain rfl:=zj h
  exact zR [] [] []
 refine zk ?_
 refine AW.have1 (fun _:Unit=>linealref07_Valid_k1=some r) (fun _=>⟨fr [],hpGet [],gt⟩) (fun _ h=>?_) (fun hk_linealref07_Valid_k1=>?_)
 ·as_aux_lemma =>
   unfold linealref07_Valid_k1 at h
   refine zo ?_
   refine zB [(2,.bool true)] [] ?_
   refine AW.ret ?_
   obtain rfl:=zj h
   exact zR [] [] []
 refine AW.seq ?_
 refine zo ?_
 refine zB [(1,.bp 1 0),(22,.sl Y7 g.2),(23,.ii (g.2.length:Int)),(24,.ii 0)] [(1,.box 24 [.ii g.1,.sl Y7 g.2])] ?_
 refine AW.block ?_
 obtain ⟨rv10,hw6,ho7⟩:=zw h
 refine AW.loopO (linealref07_Valid_b1 g) (fun st1=>⟨fr [(1,.bp 1 0),(22,.sl Y7 g.2),(23,.ii (g.2.length:Int)),(24,.ii st1)],hpGet [(1,.box 24 [.ii g.1,.sl Y7 g.2])],gt⟩) 0 hw6 (zL [] [] []) ?_
 as_aux_lemma =>
  intro st1 x9 h hd8
  unfold linealref07_Valid_b1 at h
  refine zo ?_
  refine zB [(1,.bp 1 0),(22,.sl Y7 g.2),(23,.ii (g.2.length:Int)),(24,.ii st1),(25,.bool (decide (st1<(g.2.length:Int))))] [(1,.box 24 [.ii g.1,.sl Y7 g.2])] ?_
  refine AW.seq ?_
  refine zQ h (fun hb11 h=>?_) (fun hb11 h=>?_)
  ·refine zk ?_
   refine AW.have1 (fun _:Unit=>linealref07_Valid_k2 st1=some x9) (fun _=>⟨fr [(1,.bp 1 0),(22,.sl Y7 g.2),(23,.ii (g.2.length:Int)),(24,.ii st1)],hpGet [(1,.box 24 [.ii g.1,.sl Y7 g.2])],gt⟩) (fun _ h=>?_) (fun hk_linealref07_Valid_k2=>?_)
   ·as_aux_lemma =>
     unfold linealref07_Valid_k2 at h
     refine AW.ops ?_
     obtain ⟨c12,h⟩:=ck_some.1 h
     refine zA [(1,.bp 1 0),(22,.sl Y7 g.2),(23,.ii (g.2.length:Int)),(24,.ii (st1+1))] [(1,.box 24 [.ii g.1,.sl Y7 g.2])] ?_
     obtain rfl:=zj h
     exact ⟨_,rfl,zL [] [] []⟩
   refine AW.seq ?_
   refine AW.block ?_
   refine zo ?_
   obtain ⟨c13,h⟩:=ck_some.1 h
   obtain ⟨c14,h⟩:=ck_some.1 h
   refine zS 5 [(1,.bp 1 0),(3,.ii st1),(4,.bp 4 0),(22,.sl Y7 g.2),(23,.ii (g.2.length:Int)),(24,.ii st1),(28,.agg [.ii (g.2.getD st1.toNat (0,0,0,false)).1,.ii (g.2.getD st1.toNat (0,0,0,false)).2.1,.ii (g.2.getD st1.toNat (0,0,0,false)).2.2.1,.bool (g.2.getD st1.toNat (0,0,0,false)).2.2.2])] [(1,.box 24 [.ii g.1,.sl Y7 g.2]),(4,.box 61 [.ii 0,.ii 0,.ii 0,.bool false])] ?_
   refine zB [(1,.bp 1 0),(3,.ii st1),(4,.bp 4 0),(22,.sl Y7 g.2),(23,.ii (g.2.length:Int)),(24,.ii st1)] [(1,.box 24 [.ii g.1,.sl Y7 g.2]),(4,.box 61 [.ii (g.2.getD st1.toNat (0,0,0,false)).1,.ii (g.2.getD st1.toNat (0,0,0,false)).2.1,.ii (g.2.getD st1.toNat (0,0,0,false)).2.2.1,.bool (g.2.getD st1.toNat (0,0,0,false)).2.2.2])] ?_
   refine AW.seq ?_
   refine zo ?_
   refine zS 3 [(1,.bp 1 0),(3,.ii st1),(4,.bp 4 0),(22,.sl Y7 g.2),(23,.ii (g.2.length:Int)),(24,.ii st1),(29,.agg [.ii g.1,.sl Y7 g.2]),(31,.ii (g.2.getD st1.toNat (0,0,0,false)).1)] [(1,.box 24 [.ii g.1,.sl Y7 g.2]),(4,.box 61 [.ii (g.2.getD st1.toNat (0,0,0,false)).1,.ii (g.2.getD st1.toNat (0,0,0,false)).2.1,.ii (g.2.getD st1.toNat (0,0,0,false)).2.2.1,.bool (g.2.getD st1.toNat (0,0,0,false)).2.2.2])] ?_
   obtain ⟨v0,hv15,h⟩:=zw h
   refine zC [] [] (hc_linealref07_IsPlace g (g.2.getD st1.toNat (0,0,0,false)).1 hv15) [(1,.bp 1 0),(3,.ii st1),(4,.bp 4 0),(22,.sl Y7 g.2),(23,.ii (g.2.length:Int)),(24,.ii st1),(32,.bool v0)] [(1,.box 24 [.ii g.1,.sl Y7 g.2]),(4,.box 61 [.ii (g.2.getD st1.toNat (0,0,0,false)).1,.ii (g.2.getD st1.toNat (0,0,0,false)).2.1,.ii (g.2.getD st1.toNat (0,0,0,false)).2.2.1,.bool (g.2.getD st1.toNat (0,0,0,false)).2.2.2])] ?_
   refine zS 2 [(1,.bp 1 0),(3,.ii st1),(4,.bp 4 0),(22,.sl Y7 g.2),(23,.ii (g.2.length:Int)),(24,.ii st1),(34,.bool (!v0))] [(1,.box 24 [.ii g.1,.sl Y7 g.2]),(4,.box 61 [.ii (g.2.getD st1.toNat (0,0,0,false)).1,.ii (g.2.getD st1.toNat (0,0,0,false)).2.1,.ii (g.2.getD st1.toNat (0,0,0,false)).2.2.1,.bool (g.2.getD st1.toNat (0,0,0,false)).2.2.2])] ?_
   rcases zI h with ⟨hb16,h⟩|⟨hb16,h⟩
   ·refine zS 4 [(1,.bp 1 0),(3,.ii st1),(4,.bp 4 0),(22,.sl Y7 g.2),(23,.ii (g.2.length:Int)),(24,.ii st1),(34,.bool true),(38,.cv (undef))] [(1,.box 24 [.ii g.1,.sl Y7 g.2]),(4,.box 61 [.ii (g.2.getD st1.toNat (0,0,0,false)).1,.ii (g.2.getD st1.toNat (0,0,0,false)).2.1,.ii (g.2.getD st1.toNat (0,0,0,false)).2.2.1,.bool (g.2.getD st1.toNat (0,0,0,false)).2.2.2])] ?_
    refine zS 5 [(1,.bp 1 0),(3,.ii st1),(4,.bp 4 0),(22,.sl Y7 g.2),(23,.ii (g.2.length:Int)),(24,.ii st1),(41,.bool true),(43,.cv (undef))] [(1,.box 24 [.ii g.1,.sl Y7 g.2]),(4,.box 61 [.ii (g.2.getD st1.toNat (0,0,0,false)).1,.ii (g.2.getD st1.toNat (0,0,0,false)).2.1,.ii (g.2.getD st1.toNat (0,0,0,false)).2.2.1,.bool (g.2.getD st1.toNat (0,0,0,false)).2.2.2])] ?_
    refine zB [(1,.bp 1 0),(3,.ii st1),(4,.bp 4 0),(22,.sl Y7 g.2),(23,.ii (g.2.length:Int)),(24,.ii st1),(46,.bool true)] [(1,.box 24 [.ii g.1,.sl Y7 g.2]),(4,.box 61 [.ii (g.2.getD st1.toNat (0,0,0,false)).1,.ii (g.2.getD st1.toNat (0,0,0,false)).2.1,.ii (g.2.getD st1.toNat (0,0,0,false)).2.2.1,.bool (g.2.getD st1.toNat (0,0,0,false)).2.2.2])] ?_
    refine AW.cond (b:=true) rfl (fun _=>?_) (fun hb17=>by cases hb17)
    refine zo ?_
    refine zB [(2,.bool false)] [] ?_
    refine zr ?_
    refine ablock_r ?_
    refine athen_r ?_
    obtain rfl:=zj h
    rw [← hd8 _ rfl] at ho7
    have h:=ho7
    try simp only at h
    refine athen_r ?_
    refine ablock_r ?_
    refine athen_r ?_
    obtain rfl:=zj h
    exact zR [] [] []
   refine zS 3 [(1,.bp 1 0),(3,.ii st1),(4,.bp 4 0),(22,.sl Y7 g.2),(23,.ii (g.2.length:Int)),(24,.ii st1),(34,.bool false),(35,.agg [.ii g.1,.sl Y7 g.2]),(37,.ii (g.2.getD st1.toNat (0,0,0,false)).2.2.1)] [(1,.box 24 [.ii g.1,.sl Y7 g.2]),(4,.box 61 [.ii (g.2.getD st1.toNat (0,0,0,false)).1,.ii (g.2.getD st1.toNat (0,0,0,false)).2.1,.ii (g.2.getD st1.toNat (0,0,0,false)).2.2.1,.bool (g.2.getD st1.toNat (0,0,0,false)).2.2.2])] ?_
   obtain ⟨v0_2,hv18,h⟩:=zw h
   refine zG [] [] (hc_linealref07_IsPlace g (g.2.getD st1.toNat (0,0,0,false)).2.2.1 hv18) [(1,.bp 1 0),(3,.ii st1),(4,.bp 4 0),(22,.sl Y7 g.2),(23,.ii (g.2.length:Int)),(24,.ii st1),(34,.bool false),(38,.bool v0_2)] [(1,.box 24 [.ii g.1,.sl Y7 g.2]),(4,.box 61 [.ii (g.2.getD st1.toNat (0,0,0,false)).1,.ii (g.2.getD st1.toNat (0,0,0,false)).2.1,.ii (g.2.getD st1.toNat (0,0,0,false)).2.2.1,.bool (g.2.getD st1.toNat (0,0,0,false)).2.2.2])] ?_
   refine zS 3 [(1,.bp 1 0),(3,.ii st1),(4,.bp 4 0),(22,.sl Y7 g.2),(23,.ii (g.2.length:Int)),(24,.ii st1),(41,.bool (!v0_2))] [(1,.box 24 [.ii g.1,.sl Y7 g.2]),(4,.box 61 [.ii (g.2.getD st1.toNat (0,0,0,false)).1,.ii (g.2.getD st1.toNat (0,0,0,false)).2.1,.ii (g.2.getD st1.toNat (0,0,0,false)).2.2.1,.bool (g.2.getD st1.toNat (0,0,0,false)).2.2.2])] ?_
   rcases zI h with ⟨hb19,h⟩|⟨hb19,h⟩
   ·refine zS 4 [(1,.bp 1 0),(3,.ii st1),(4,.bp 4 0),(22,.sl Y7 g.2),(23,.ii (g.2.length:Int)),(24,.ii st1),(41,.bool true),(45,.cv (undef))] [(1,.box 24 [.ii g.1,.sl Y7 g.2]),(4,.box 61 [.ii (g.2.getD st1.toNat (0,0,0,false)).1,.ii (g.2.getD st1.toNat (0,0,0,false)).2.1,.ii (g.2.getD st1.toNat (0,0,0,false)).2.2.1,.bool (g.2.getD st1.toNat (0,0,0,false)).2.2.2])] ?_
    refine zB [(1,.bp 1 0),(3,.ii st1),(4,.bp 4 0),(22,.sl Y7 g.2),(23,.ii (g.2.length:Int)),(24,.ii st1),(46,.bool true)] [(1,.box 24 [.ii g.1,.sl Y7 g.2]),(4,.box 61 [.ii (g.2.getD st1.toNat (0,0,0,false)).1,.ii (g.2.getD st1.toNat (0,0,0,false)).2.1,.ii (g.2.getD st1.toNat (0,0,0,false)).2.2.1,.bool (g.2.getD st1.toNat (0,0,0,false)).2.2.2])] ?_
    refine AW.cond (b:=true) rfl (fun _=>?_) (fun hb20=>by cases hb20)
    refine zo ?_
    refine zB [(2,.bool false)] [] ?_
    refine zr ?_
    refine ablock_r ?_
    refine athen_r ?_
    obtain rfl:=zj h
    rw [← hd8 _ rfl] at ho7
    have h:=ho7
    try simp only at h
    refine athen_r ?_
    refine ablock_r ?_
    refine athen_r ?_
    obtain rfl:=zj h
    exact zR [] [] []
   refine zS 2 [(1,.bp 1 0),(3,.ii st1),(4,.bp 4 0),(22,.sl Y7 g.2),(23,.ii (g.2.length:Int)),(24,.ii st1),(41,.bool false),(43,.ii (g.2.getD st1.toNat (0,0,0,false)).2.1)] [(1,.box 24 [.ii g.1,.sl Y7 g.2]),(4,.box 61 [.ii (g.2.getD st1.toNat (0,0,0,false)).1,.ii (g.2.getD st1.toNat (0,0,0,false)).2.1,.ii (g.2.getD st1.toNat (0,0,0,false)).2.2.1,.bool (g.2.getD st1.toNat (0,0,0,false)).2.2.2])] ?_
   obtain ⟨v0_3,hv21,h⟩:=zw h
   refine zG [] [] (hc_linealref07_IsThread (g.2.getD st1.toNat (0,0,0,false)).2.1 hv21) [(1,.bp 1 0),(3,.ii st1),(4,.bp 4 0),(22,.sl Y7 g.2),(23,.ii (g.2.length:Int)),(24,.ii st1),(41,.bool false),(44,.bool v0_3)] [(1,.box 24 [.ii g.1,.sl Y7 g.2]),(4,.box 61 [.ii (g.2.getD st1.toNat (0,0,0,false)).1,.ii (g.2.getD st1.toNat (0,0,0,false)).2.1,.ii (g.2.getD st1.toNat (0,0,0,false)).2.2.1,.bool (g.2.getD st1.toNat (0,0,0,false)).2.2.2])] ?_
   refine zB [(1,.bp 1 0),(3,.ii st1),(4,.bp 4 0),(22,.sl Y7 g.2),(23,.ii (g.2.length:Int)),(24,.ii st1),(46,.bool (!v0_3))] [(1,.box 24 [.ii g.1,.sl Y7 g.2]),(4,.box 61 [.ii (g.2.getD st1.toNat (0,0,0,false)).1,.ii (g.2.getD st1.toNat (0,0,0,false)).2.1,.ii (g.2.getD st1.toNat (0,0,0,false)).2.2.1,.bool (g.2.getD st1.toNat (0,0,0,false)).2.2.2])] ?_
   refine zQ h (fun hb22 h=>?_) (fun hb22 h=>?_)
   ·refine zo ?_
    refine zB [(2,.bool false)] [] ?_
    refine zr ?_
    refine ablock_r ?_
    refine athen_r ?_
    obtain rfl:=zj h
    rw [← hd8 _ rfl] at ho7
    have h:=ho7
    try simp only at h
    refine athen_r ?_
    refine ablock_r ?_
    refine athen_r ?_
    obtain rfl:=zj h
    exact zR [] [] []
   refine zk ?_
   refine zo ?_
   obtain ⟨c23,h⟩:=ck_some.1 h
   obtain ⟨c24,h⟩:=ck_some.1 h
   refine zS 5 [(1,.bp 1 0),(4,.bp 4 0),(22,.sl Y7 g.2),(23,.ii (g.2.length:Int)),(24,.ii st1),(50,.sl Y7 (g.2.take st1.toNat)),(51,.ii ((g.2.take st1.toNat).length:Int))] [(1,.box 24 [.ii g.1,.sl Y7 g.2]),(4,.box 61 [.ii (g.2.getD st1.toNat (0,0,0,false)).1,.ii (g.2.getD st1.toNat (0,0,0,false)).2.1,.ii (g.2.getD st1.toNat (0,0,0,false)).2.2.1,.bool (g.2.getD st1.toNat (0,0,0,false)).2.2.2])] ?_
   refine zB [(1,.bp 1 0),(4,.bp 4 0),(22,.sl Y7 g.2),(23,.ii (g.2.length:Int)),(24,.ii st1),(50,.sl Y7 (g.2.take st1.toNat)),(51,.ii ((g.2.take st1.toNat).length:Int)),(52,.ii 0)] [(1,.box 24 [.ii g.1,.sl Y7 g.2]),(4,.box 61 [.ii (g.2.getD st1.toNat (0,0,0,false)).1,.ii (g.2.getD st1.toNat (0,0,0,false)).2.1,.ii (g.2.getD st1.toNat (0,0,0,false)).2.2.1,.bool (g.2.getD st1.toNat (0,0,0,false)).2.2.2])] ?_
   refine AW.block ?_
   obtain ⟨rv29,hw25,ho26⟩:=zw h
   refine AW.loopO (linealref07_Valid_b2 g st1) (fun st2=>⟨fr [(1,.bp 1 0),(4,.bp 4 0),(22,.sl Y7 g.2),(23,.ii (g.2.length:Int)),(24,.ii st1),(50,.sl Y7 (g.2.take st1.toNat)),(51,.ii ((g.2.take st1.toNat).length:Int)),(52,.ii st2)],hpGet [(1,.box 24 [.ii g.1,.sl Y7 g.2]),(4,.box 61 [.ii (g.2.getD st1.toNat (0,0,0,false)).1,.ii (g.2.getD st1.toNat (0,0,0,false)).2.1,.ii (g.2.getD st1.toNat (0,0,0,false)).2.2.1,.bool (g.2.getD st1.toNat (0,0,0,false)).2.2.2])],gt⟩) 0 hw25 (zL [] [] []) ?_
   as_aux_lemma =>
    intro st2 x28 h hd27
    unfold linealref07_Valid_b2 at h
    refine zo ?_
    refine zB [(1,.bp 1 0),(4,.bp 4 0),(22,.sl Y7 g.2),(23,.ii (g.2.length:Int)),(24,.ii st1),(50,.sl Y7 (g.2.take st1.toNat)),(51,.ii ((g.2.take st1.toNat).length:Int)),(52,.ii st2),(53,.bool (decide (st2<((g.2.take st1.toNat).length:Int))))] [(1,.box 24 [.ii g.1,.sl Y7 g.2]),(4,.box 61 [.ii (g.2.getD st1.toNat (0,0,0,false)).1,.ii (g.2.getD st1.toNat (0,0,0,false)).2.1,.ii (g.2.getD st1.toNat (0,0,0,false)).2.2.1,.bool (g.2.getD st1.toNat (0,0,0,false)).2.2.2])] ?_
    refine AW.seq ?_
    refine zQ h (fun hb30 h=>?_) (fun hb30 h=>?_)
    ·refine zk ?_
     refine AW.seq ?_
     refine AW.block ?_
     refine zo ?_
     obtain ⟨c31,h⟩:=ck_some.1 h
     obtain ⟨c32,h⟩:=ck_some.1 h
     refine zB [(1,.bp 1 0),(4,.bp 4 0),(6,.bp 6 0),(22,.sl Y7 g.2),(23,.ii (g.2.length:Int)),(24,.ii st1),(50,.sl Y7 (g.2.take st1.toNat)),(51,.ii ((g.2.take st1.toNat).length:Int)),(52,.ii st2)] [(1,.box 24 [.ii g.1,.sl Y7 g.2]),(4,.box 61 [.ii (g.2.getD st1.toNat (0,0,0,false)).1,.ii (g.2.getD st1.toNat (0,0,0,false)).2.1,.ii (g.2.getD st1.toNat (0,0,0,false)).2.2.1,.bool (g.2.getD st1.toNat (0,0,0,false)).2.2.2]),(6,.box 61 [.ii ((g.2.take st1.toNat).getD st2.toNat (0,0,0,false)).1,.ii ((g.2.take st1.toNat).getD st2.toNat (0,0,0,false)).2.1,.ii ((g.2.take st1.toNat).getD st2.toNat (0,0,0,false)).2.2.1,.bool ((g.2.take st1.toNat).getD st2.toNat (0,0,0,false)).2.2.2])] ?_
     refine zo ?_
     refine zS 2 [(1,.bp 1 0),(4,.bp 4 0),(22,.sl Y7 g.2),(23,.ii (g.2.length:Int)),(24,.ii st1),(50,.sl Y7 (g.2.take st1.toNat)),(51,.ii ((g.2.take st1.toNat).length:Int)),(52,.ii st2),(56,.agg [.ii (g.2.getD st1.toNat (0,0,0,false)).1,.ii (g.2.getD st1.toNat (0,0,0,false)).2.1,.ii (g.2.getD st1.toNat (0,0,0,false)).2.2.1,.bool (g.2.getD st1.toNat (0,0,0,false)).2.2.2]),(57,.agg [.ii ((g.2.take st1.toNat).getD st2.toNat (0,0,0,false)).1,.ii ((g.2.take st1.toNat).getD st2.toNat (0,0,0,false)).2.1,.ii ((g.2.take st1.toNat).getD st2.toNat (0,0,0,false)).2.2.1,.bool ((g.2.take st1.toNat).getD st2.toNat (0,0,0,false)).2.2.2])] [(1,.box 24 [.ii g.1,.sl Y7 g.2]),(4,.box 61 [.ii (g.2.getD st1.toNat (0,0,0,false)).1,.ii (g.2.getD st1.toNat (0,0,0,false)).2.1,.ii (g.2.getD st1.toNat (0,0,0,false)).2.2.1,.bool (g.2.getD st1.toNat (0,0,0,false)).2.2.2])] ?_
     obtain ⟨c33,h⟩:=ck_some.1 h
     obtain ⟨c34,h⟩:=ck_some.1 h
     obtain ⟨c35,h⟩:=ck_some.1 h
     obtain ⟨c36,h⟩:=ck_some.1 h
     obtain ⟨c37,h⟩:=ck_some.1 h
     obtain ⟨c38,h⟩:=ck_some.1 h
     refine AO.aggEq (neg:=false) eqty_61 (by decide) rfl rfl (lx:=[.ii (g.2.getD st1.toNat (0,0,0,false)).1,.ii (g.2.getD st1.toNat (0,0,0,false)).2.1,.ii (g.2.getD st1.toNat (0,0,0,false)).2.2.1,.bool (g.2.getD st1.toNat (0,0,0,false)).2.2.2]) (ly:=[.ii ((g.2.take st1.toNat).getD st2.toNat (0,0,0,false)).1,.ii ((g.2.take st1.toNat).getD st2.toNat (0,0,0,false)).2.1,.ii ((g.2.take st1.toNat).getD st2.toNat (0,0,0,false)).2.2.1,.bool ((g.2.take st1.toNat).getD st2.toNat (0,0,0,false)).2.2.2]) (by first|rfl|(simp only [go_sem,hb1,hb3,hb5,hb11,hb16,hb19,hb22,hb30])<;>(with_reducible and_intros)<;>first|assumption|rfl|omega|(unfold maxLen; omega)) (by first|rfl|(simp only [go_sem,hb1,hb3,hb5,hb11,hb16,hb19,hb22,hb30])<;>(with_reducible and_intros)<;>first|assumption|rfl|omega|(unfold maxLen; omega)) (by first|rfl|(simp only [go_sem,hb1,hb3,hb5,hb11,hb16,hb19,hb22,hb30])<;>(with_reducible and_intros)<;>first|assumption|rfl|omega|(unfold maxLen; omega)) (by first|rfl|(simp only [go_sem,hb1,hb3,hb5,hb11,hb16,hb19,hb22,hb30])<;>(with_reducible and_intros)<;>first|assumption|rfl|omega|(unfold maxLen; omega)) (by first|assumption|omega|(simp only [go_sem,hb1,hb3,hb5,hb11,hb16,hb19,hb22,hb30])<;>(with_reducible and_intros)<;>first|assumption|rfl|omega|(unfold maxLen; omega)) (by first|assumption|omega|(simp only [go_sem,hb1,hb3,hb5,hb11,hb16,hb19,hb22,hb30])<;>(with_reducible and_intros)<;>first|assumption|rfl|omega|(unfold maxLen; omega)) ?_
     refine zT [(1,.bp 1 0),(4,.bp 4 0),(22,.sl Y7 g.2),(23,.ii (g.2.length:Int)),(24,.ii st1),(50,.sl Y7 (g.2.take st1.toNat)),(51,.ii ((g.2.take st1.toNat).length:Int)),(52,.ii st2),(58,.bool (decide ((g.2.getD st1.toNat (0,0,0,false))=((g.2.take st1.toNat).getD st2.toNat (0,0,0,false)))))] [(1,.box 24 [.ii g.1,.sl Y7 g.2]),(4,.box 61 [.ii (g.2.getD st1.toNat (0,0,0,false)).1,.ii (g.2.getD st1.toNat (0,0,0,false)).2.1,.ii (g.2.getD st1.toNat (0,0,0,false)).2.2.1,.bool (g.2.getD st1.toNat (0,0,0,false)).2.2.2])] gt ?_
     refine zB [(1,.bp 1 0),(4,.bp 4 0),(22,.sl Y7 g.2),(23,.ii (g.2.length:Int)),(24,.ii st1),(50,.sl Y7 (g.2.take st1.toNat)),(51,.ii ((g.2.take st1.toNat).length:Int)),(52,.ii st2),(58,.bool (decide ((g.2.getD st1.toNat (0,0,0,false))=((g.2.take st1.toNat).getD st2.toNat (0,0,0,false)))))] [(1,.box 24 [.ii g.1,.sl Y7 g.2]),(4,.box 61 [.ii (g.2.getD st1.toNat (0,0,0,false)).1,.ii (g.2.getD st1.toNat (0,0,0,false)).2.1,.ii (g.2.getD st1.toNat (0,0,0,false)).2.2.1,.bool (g.2.getD st1.toNat (0,0,0,false)).2.2.2])] ?_
     refine zQ h (fun hb39 h=>?_) (fun hb39 h=>?_)
     ·refine zo ?_
      refine zB [(2,.bool false)] [] ?_
      refine AW.ret ?_
      refine ablock_r ?_
      refine athen_r ?_
      obtain rfl:=zj h
      rw [← hd27 _ rfl] at ho26
      have h:=ho26
      try simp only at h
      refine athen_r ?_
      refine ablock_r ?_
      refine ablock_r ?_
      refine athen_r ?_
      obtain rfl:=zj h
      rw [← hd8 _ rfl] at ho7
      have h:=ho7
      try simp only at h
      refine athen_r ?_
      refine ablock_r ?_
      refine athen_r ?_
      obtain rfl:=zj h
      exact zR [] [] []
     refine zm ?_
     refine athen_n ?_
     refine AW.ops ?_
     obtain ⟨c40,h⟩:=ck_some.1 h
     refine zA [(1,.bp 1 0),(4,.bp 4 0),(22,.sl Y7 g.2),(23,.ii (g.2.length:Int)),(24,.ii st1),(50,.sl Y7 (g.2.take st1.toNat)),(51,.ii ((g.2.take st1.toNat).length:Int)),(52,.ii (st2+1))] [(1,.box 24 [.ii g.1,.sl Y7 g.2]),(4,.box 61 [.ii (g.2.getD st1.toNat (0,0,0,false)).1,.ii (g.2.getD st1.toNat (0,0,0,false)).2.1,.ii (g.2.getD st1.toNat (0,0,0,false)).2.2.1,.bool (g.2.getD st1.toNat (0,0,0,false)).2.2.2])] ?_
     obtain rfl:=zj h
     exact ⟨_,rfl,zL [] [] []⟩
    refine AW.exit ?_
    refine athen_e ?_
    obtain rfl:=zj h
    rw [← hd27 _ rfl] at ho26
    have h:=ho26
    try simp only at h
    refine athen_e ?_
    refine ablock_s ?_
    refine ablock_n ?_
    refine athen_n ?_
    exact AW.weaken (zL [] [] []) (hk_linealref07_Valid_k2 () h)
  refine AW.exit ?_
  refine athen_e ?_
  obtain rfl:=zj h
  rw [← hd8 _ rfl] at ho7
  have h:=ho7
  try simp only at h
  refine athen_e ?_
  refine ablock_s ?_
  refine athen_n ?_
  exact AW.weaken (zL [] [] []) (hk_linealref07_Valid_k1 () h)
theorem hc_linealref07_IsMove (g:Int×(List (Int×Int×Int×Bool))) (i:Int) {r:Bool} (h:linealref07_IsMove g i=some r):HC Try.prog 83 [] [.agg [.ii g.1,.sl Y7 g.2],.ii i] [] (.bool r):=by
 unfold linealref07_IsMove at h
 refine zH Try.func83 [.tmp 4] 14 ?_
 refine zo ?_
 refine zB [(1,.ii i),(2,.bp 2 0)] [(2,.box 24 [.ii g.1,.sl Y7 g.2])] ?_
 refine zo ?_
 refine zS 3 [(1,.ii i),(2,.bp 2 0),(7,.bool (decide (0≤i)))] [(2,.box 24 [.ii g.1,.sl Y7 g.2])] ?_
 rcases zI h with ⟨hb1,h⟩|⟨hb1,h⟩
 ·refine zS 5 [(7,.bool true),(12,.bool (decide (i<(g.2.length:Int))))] [] ?_
  refine zB [(4,.bool (decide (i<(g.2.length:Int))))] [] ?_
  refine AW.ret ?_
  obtain rfl:=zj h
  exact zR [] [] []
 refine zS 4 [(7,.bool false),(8,.cv (undef)),(11,.cv (undef))] [] ?_
 refine zB [(4,.bool false)] [] ?_
 refine AW.ret ?_
 obtain rfl:=zj h
 exact zR [] [] []
theorem hc_linealref07_isPath (g:Int×(List (Int×Int×Int×Bool))) (path:List Int) {r:Bool} (h:linealref07_isPath g path=some r):HC Try.prog 58 [] [.agg [.ii g.1,.sl Y7 g.2],.sl (.int .i64) path] [] (.bool r):=by
 unfold linealref07_isPath at h
 refine zH Try.func58 [.tmp 4] 45 ?_
 refine zo ?_
 refine zB [(1,.sl (.int .i64) path),(2,.bp 2 0)] [(2,.box 24 [.ii g.1,.sl Y7 g.2])] ?_
 refine AW.seq ?_
 refine zo ?_
 refine zB [(1,.sl (.int .i64) path),(2,.bp 2 0),(9,.bool (decide (1000<(path.length:Int))))] [(2,.box 24 [.ii g.1,.sl Y7 g.2])] ?_
 refine zQ h (fun hb1 h=>?_) (fun hb1 h=>?_)
 ·refine zo ?_
  refine zB [(4,.bool false)] [] ?_
  refine zr ?_
  obtain rfl:=zj h
  exact zR [] [] []
 refine zk ?_
 refine AW.have1 (fun _:Unit=>linealref07_isPath_k1=some r) (fun _=>⟨fr [],hpGet [],gt⟩) (fun _ h=>?_) (fun hk_linealref07_isPath_k1=>?_)
 ·as_aux_lemma =>
   unfold linealref07_isPath_k1 at h
   refine zo ?_
   refine zB [(4,.bool true)] [] ?_
   refine AW.ret ?_
   obtain rfl:=zj h
   exact zR [] [] []
 refine AW.seq ?_
 refine zo ?_
 refine zB [(1,.sl (.int .i64) path),(2,.bp 2 0),(10,.sl (.int .i64) path),(11,.ii (path.length:Int)),(12,.ii 0)] [(2,.box 24 [.ii g.1,.sl Y7 g.2])] ?_
 refine AW.block ?_
 obtain ⟨rv6,hw2,ho3⟩:=zw h
 refine AW.loopO (linealref07_isPath_b1 g path) (fun st1=>⟨fr [(1,.sl (.int .i64) path),(2,.bp 2 0),(10,.sl (.int .i64) path),(11,.ii (path.length:Int)),(12,.ii st1)],hpGet [(2,.box 24 [.ii g.1,.sl Y7 g.2])],gt⟩) 0 hw2 (zL [] [] []) ?_
 as_aux_lemma =>
  intro st1 x5 h hd4
  unfold linealref07_isPath_b1 at h
  refine zo ?_
  refine zB [(1,.sl (.int .i64) path),(2,.bp 2 0),(10,.sl (.int .i64) path),(11,.ii (path.length:Int)),(12,.ii st1),(13,.bool (decide (st1<(path.length:Int))))] [(2,.box 24 [.ii g.1,.sl Y7 g.2])] ?_
  refine AW.seq ?_
  refine zQ h (fun hb7 h=>?_) (fun hb7 h=>?_)
  ·refine zk ?_
   refine AW.seq ?_
   refine AW.block ?_
   refine zo ?_
   obtain ⟨c8,h⟩:=ck_some.1 h
   obtain ⟨c9,h⟩:=ck_some.1 h
   refine zB [(1,.sl (.int .i64) path),(2,.bp 2 0),(5,.ii st1),(6,.ii (path.getD st1.toNat 0)),(10,.sl (.int .i64) path),(11,.ii (path.length:Int)),(12,.ii st1)] [(2,.box 24 [.ii g.1,.sl Y7 g.2])] ?_
   refine AW.seq ?_
   refine AW.draw tab_ok mixed_ok [] [] (by decide) (lex_fast (by kernel_rfl)) ?_
   as_aux_lemma =>
    refine adops_cut 2 (fun K' hK10=>?_)
    try dsimp only [y1,y2,y3,y4]
    simp only [go_sem,hb1,hb7]
    repeat with_reducible refine zN ?_
    refine hK10 _ ?_
    as_aux_lemma =>
     obtain ⟨v0,hv11,h⟩:=zw h
     refine adops.call (by first|trivial|rfl) rfl rfl rfl (fun _ h=>h) [] [] (hc_linealref07_IsMove g (path.getD st1.toNat 0) hv11) rfl (by (simp only [go_sem,hb1,hb7])<;>(with_reducible and_intros)<;>first|assumption|rfl|omega|(unfold maxLen; omega)) (by (simp only [go_sem,hb1,hb7])<;>(with_reducible and_intros)<;>first|assumption|rfl|omega|(unfold maxLen; omega)) rfl ?_
     refine adops_cut 2 (fun K' hK12=>?_)
     try dsimp only [y1,y2,y3,y4]
     simp only [go_sem,hb1,hb7]
     repeat with_reducible refine zN ?_
     refine hK12 _ ?_
     as_aux_lemma =>
      rcases zI h with ⟨hb13,h⟩|⟨hb13,h⟩
      ·simp only [hb13]
       as_aux_lemma =>
        refine adops_cut 4 (fun K' hK14=>?_)
        try dsimp only [y1,y2,y3,y4]
        simp only [go_sem,hb1,hb7,hb13]
        repeat with_reducible refine zN ?_
        refine hK14 _ ?_
        as_aux_lemma =>
         refine adops_cut 4 (fun K' hK15=>?_)
         try dsimp only [y1,y2,y3,y4]
         simp only [go_sem,hb1,hb7,hb13]
         repeat with_reducible refine zN ?_
         refine hK15 _ ?_
         as_aux_lemma =>
          refine adops_cut 4 (fun K' hK16=>?_)
          try dsimp only [y1,y2,y3,y4]
          simp only [go_sem,hb1,hb7,hb13]
          repeat with_reducible refine zN ?_
          refine hK16 _ ?_
          as_aux_lemma =>
           refine adops_cut 4 (fun K' hK17=>?_)
           try dsimp only [y1,y2,y3,y4]
           simp only [go_sem,hb1,hb7,hb13]
           repeat with_reducible refine zN ?_
           refine hK17 _ ?_
           as_aux_lemma =>
            refine adops_cut 4 (fun K' hK18=>?_)
            try dsimp only [y1,y2,y3,y4]
            simp only [go_sem,hb1,hb7,hb13]
            repeat with_reducible refine zN ?_
            refine hK18 _ ?_
            as_aux_lemma =>
             refine adops_cut 2 (fun K' hK19=>?_)
             try dsimp only [y1,y2,y3,y4]
             simp only [go_sem,hb1,hb7,hb13]
             repeat with_reducible refine zN ?_
             refine hK19 _ ?_
             refine adops_nil ?_
             refine athen_n ?_
             refine zV [(1,.sl (.int .i64) path),(2,.bp 2 0),(10,.sl (.int .i64) path),(11,.ii (path.length:Int)),(12,.ii st1),(43,.bool true)] [(2,.box 24 [.ii g.1,.sl Y7 g.2])] gt ?_
             as_aux_lemma =>
              refine AW.cond (b:=true) rfl (fun _=>?_) (fun hb20=>by cases hb20)
              refine zo ?_
              refine zB [(4,.bool false)] [] ?_
              refine AW.ret ?_
              refine ablock_r ?_
              refine athen_r ?_
              obtain rfl:=zj h
              rw [← hd4 _ rfl] at ho3
              have h:=ho3
              try simp only at h
              refine athen_r ?_
              refine ablock_r ?_
              refine athen_r ?_
              obtain rfl:=zj h
              exact zR [] [] []
      simp only [hb13]
      as_aux_lemma =>
       refine adops_cut 3 (fun K' hK21=>?_)
       try dsimp only [y1,y2,y3,y4]
       simp only [go_sem,hb1,hb7,hb13]
       repeat with_reducible refine zN ?_
       refine hK21 _ ?_
       as_aux_lemma =>
        rcases zI h with ⟨hb22,h⟩|⟨hb22,h⟩
        ·simp only [hb22]
         as_aux_lemma =>
          obtain ⟨c24,h⟩:=ck_some.1 h
          obtain ⟨c25,h⟩:=ck_some.1 h
          obtain ⟨c26,h⟩:=ck_some.1 h
          refine adops_cut 6 (fun K' hK23=>?_)
          try dsimp only [y1,y2,y3,y4]
          simp only [go_sem,hb1,hb7,hb13,hb22]
          repeat with_reducible refine zN ?_
          refine hK23 _ ?_
          as_aux_lemma =>
           obtain ⟨c28,h⟩:=ck_some.1 h
           obtain ⟨c29,h⟩:=ck_some.1 h
           refine adops_cut 6 (fun K' hK27=>?_)
           try dsimp only [y1,y2,y3,y4]
           simp only [go_sem,hb1,hb7,hb13,hb22]
           repeat with_reducible refine zN ?_
           refine hK27 _ ?_
           as_aux_lemma =>
            obtain ⟨c31,h⟩:=ck_some.1 h
            obtain ⟨c32,h⟩:=ck_some.1 h
            refine adops_cut 6 (fun K' hK30=>?_)
            try dsimp only [y1,y2,y3,y4]
            simp only [go_sem,hb1,hb7,hb13,hb22]
            repeat with_reducible refine zN ?_
            refine hK30 _ ?_
            as_aux_lemma =>
             refine adops_cut 1 (fun K' hK33=>?_)
             try dsimp only [y1,y2,y3,y4]
             simp only [go_sem,hb1,hb7,hb13,hb22]
             repeat with_reducible refine zN ?_
             refine hK33 _ ?_
             refine adops_nil ?_
             refine athen_n ?_
             refine zV [(1,.sl (.int .i64) path),(2,.bp 2 0),(10,.sl (.int .i64) path),(11,.ii (path.length:Int)),(12,.ii st1),(43,.bool (!(decide ((g.2.getD (path.getD (st1 - 1).toNat 0).toNat (0,0,0,false)).2.2.1=(g.2.getD (path.getD st1.toNat 0).toNat (0,0,0,false)).1))))] [(2,.box 24 [.ii g.1,.sl Y7 g.2])] gt ?_
             as_aux_lemma =>
              refine zQ h (fun hb34 h=>?_) (fun hb34 h=>?_)
              ·refine zo ?_
               refine zB [(4,.bool false)] [] ?_
               refine AW.ret ?_
               refine ablock_r ?_
               refine athen_r ?_
               obtain rfl:=zj h
               rw [← hd4 _ rfl] at ho3
               have h:=ho3
               try simp only at h
               refine athen_r ?_
               refine ablock_r ?_
               refine athen_r ?_
               obtain rfl:=zj h
               exact zR [] [] []
              refine zm ?_
              refine athen_n ?_
              refine AW.ops ?_
              obtain ⟨c35,h⟩:=ck_some.1 h
              refine zA [(1,.sl (.int .i64) path),(2,.bp 2 0),(10,.sl (.int .i64) path),(11,.ii (path.length:Int)),(12,.ii (st1+1))] [(2,.box 24 [.ii g.1,.sl Y7 g.2])] ?_
              obtain rfl:=zj h
              exact ⟨_,rfl,zL [] [] []⟩
        simp only [hb22]
        as_aux_lemma =>
         refine adops_cut 4 (fun K' hK36=>?_)
         try dsimp only [y1,y2,y3,y4]
         simp only [go_sem,hb1,hb7,hb13,hb22]
         repeat with_reducible refine zN ?_
         refine hK36 _ ?_
         as_aux_lemma =>
          refine adops_cut 4 (fun K' hK37=>?_)
          try dsimp only [y1,y2,y3,y4]
          simp only [go_sem,hb1,hb7,hb13,hb22]
          repeat with_reducible refine zN ?_
          refine hK37 _ ?_
          as_aux_lemma =>
           refine adops_cut 4 (fun K' hK38=>?_)
           try dsimp only [y1,y2,y3,y4]
           simp only [go_sem,hb1,hb7,hb13,hb22]
           repeat with_reducible refine zN ?_
           refine hK38 _ ?_
           as_aux_lemma =>
            refine adops_cut 4 (fun K' hK39=>?_)
            try dsimp only [y1,y2,y3,y4]
            simp only [go_sem,hb1,hb7,hb13,hb22]
            repeat with_reducible refine zN ?_
            refine hK39 _ ?_
            as_aux_lemma =>
             refine adops_cut 3 (fun K' hK40=>?_)
             try dsimp only [y1,y2,y3,y4]
             simp only [go_sem,hb1,hb7,hb13,hb22]
             repeat with_reducible refine zN ?_
             refine hK40 _ ?_
             refine adops_nil ?_
             refine athen_n ?_
             refine zV [(1,.sl (.int .i64) path),(2,.bp 2 0),(10,.sl (.int .i64) path),(11,.ii (path.length:Int)),(12,.ii st1),(43,.bool false)] [(2,.box 24 [.ii g.1,.sl Y7 g.2])] gt ?_
             as_aux_lemma =>
              refine AW.cond (b:=false) rfl (fun hb41=>by cases hb41) (fun _=>?_)
              refine zm ?_
              refine athen_n ?_
              refine AW.ops ?_
              obtain ⟨c42,h⟩:=ck_some.1 h
              refine zA [(1,.sl (.int .i64) path),(2,.bp 2 0),(10,.sl (.int .i64) path),(11,.ii (path.length:Int)),(12,.ii (st1+1))] [(2,.box 24 [.ii g.1,.sl Y7 g.2])] ?_
              obtain rfl:=zj h
              exact ⟨_,rfl,zL [] [] []⟩
  refine AW.exit ?_
  refine athen_e ?_
  obtain rfl:=zj h
  rw [← hd4 _ rfl] at ho3
  have h:=ho3
  try simp only at h
  refine athen_e ?_
  refine ablock_s ?_
  refine athen_n ?_
  exact AW.weaken (zL [] [] []) (hk_linealref07_isPath_k1 () h)
end Go.Proofs.Yteclokkdgmacpaa
