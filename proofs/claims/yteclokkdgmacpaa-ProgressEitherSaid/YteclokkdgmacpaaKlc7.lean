/-
  Made by wip/tool/dc.py out of the print of the program: contracts.
-/
import Derived.Test.YteclokkdgmacpaaGrp
import Derived.Test.YteclokkdgmacpaaSh7
import Derived.Test.YteclokkdgmacpaaKlc1
import Derived.Test.YteclokkdgmacpaaKlc2
import Derived.Test.YteclokkdgmacpaaKlc3
import Derived.Test.YteclokkdgmacpaaKlc4
import Derived.Test.YteclokkdgmacpaaKlc5
import Derived.Test.YteclokkdgmacpaaKlc6
import Derived.Test.YteclokkdgmacpaaYa7
namespace Go.Proofs.Yteclokkdgmacpaa
open Go.RowKit
set_option linter.unusedSimpArgs false
set_option linter.unusedVariables false
set_option linter.constructorNameAsVariable false
set_option maxRecDepth 100000
set_option maxHeartbeats 2000000
theorem hc_linealref07_Valid (g:Int×(List (Int×Int×Int×Bool))) {r:Bool} (h:linealref07_Valid g=some r):HC Try.prog 21 [] [.agg [.int .i64 g.1,.sl Y7 g.2]] [] (.bool r):=by
 unfold linealref07_Valid at h
 refine zH Try.func21 [.tmp 2] 61 ?_
 refine zo ?_
 refine zB [(1,.bp 1 0)] [(1,.box 24 [.int .i64 g.1,.sl Y7 g.2])] ?_
 refine AW.seq ?_
 refine zo ?_
 refine zS 4 [(1,.bp 1 0),(10,.bool (decide (g.1 < 1)))] [(1,.box 24 [.int .i64 g.1,.sl Y7 g.2])] ?_
 rcases zI h with ⟨hb1,h⟩ | ⟨hb1,h⟩
 ·refine zS 5 [(1,.bp 1 0),(15,.bool true)] [(1,.box 24 [.int .i64 g.1,.sl Y7 g.2])] ?_
  refine zS 4 [(1,.bp 1 0),(15,.bool true),(19,.cv (undef))] [(1,.box 24 [.int .i64 g.1,.sl Y7 g.2])] ?_
  refine zB [(1,.bp 1 0),(20,.bool true)] [(1,.box 24 [.int .i64 g.1,.sl Y7 g.2])] ?_
  refine AW.cond (b:=true) rfl (fun _=>?_) (fun hb2=>by cases hb2)
  refine zo ?_
  refine zB [(2,.bool false)] [] ?_
  refine zr ?_
  obtain rfl:=Option.some.inj h
  exact zR [] [] []
 ·refine zS 5 [(1,.bp 1 0),(15,.bool (decide (8 < g.1)))] [(1,.box 24 [.int .i64 g.1,.sl Y7 g.2])] ?_
  rcases zI h with ⟨hb3,h⟩ | ⟨hb3,h⟩
  ·refine zS 4 [(1,.bp 1 0),(15,.bool true),(19,.cv (undef))] [(1,.box 24 [.int .i64 g.1,.sl Y7 g.2])] ?_
   refine zB [(1,.bp 1 0),(20,.bool true)] [(1,.box 24 [.int .i64 g.1,.sl Y7 g.2])] ?_
   refine AW.cond (b:=true) rfl (fun _=>?_) (fun hb4=>by cases hb4)
   refine zo ?_
   refine zB [(2,.bool false)] [] ?_
   refine zr ?_
   obtain rfl:=Option.some.inj h
   exact zR [] [] []
  ·refine zB [(1,.bp 1 0),(20,.bool (decide (20 < (g.2.length:Int))))] [(1,.box 24 [.int .i64 g.1,.sl Y7 g.2])] ?_
   refine zQ h (fun hb5 h=>?_) (fun hb5 h=>?_)
   ·refine zo ?_
    refine zB [(2,.bool false)] [] ?_
    refine zr ?_
    obtain rfl:=Option.some.inj h
    exact zR [] [] []
   ·refine zk ?_
    refine AW.have1 (fun _:Unit=>linealref07_Valid_k1=some r) (fun _=>⟨fr [],hpGet [],gt⟩) (fun _ h=>?_) (fun hk_linealref07_Valid_k1=>?_)
    ·as_aux_lemma =>
      unfold linealref07_Valid_k1 at h
      refine zo ?_
      refine zB [(2,.bool true)] [] ?_
      refine AW.ret ?_
      obtain rfl:=Option.some.inj h
      exact zR [] [] []
    ·refine AW.seq ?_
     refine zo ?_
     refine zB [(1,.bp 1 0),(22,.sl Y7 g.2),(23,.int .i64 (g.2.length:Int)),(24,.int .i64 0)] [(1,.box 24 [.int .i64 g.1,.sl Y7 g.2])] ?_
     refine AW.block ?_
     obtain ⟨rv10,hw6,ho7⟩:=Option.bind_eq_some_iff.1 h
     refine AW.loopO (linealref07_Valid_b1 g) (fun st1=>⟨fr [(1,.bp 1 0),(22,.sl Y7 g.2),(23,.int .i64 (g.2.length:Int)),(24,.int .i64 st1)],hpGet [(1,.box 24 [.int .i64 g.1,.sl Y7 g.2])],gt⟩) 0 hw6 (zL [] [] []) ?_
     as_aux_lemma =>
      intro st1 x9 h hd8
      unfold linealref07_Valid_b1 at h
      refine zo ?_
      refine zB [(1,.bp 1 0),(22,.sl Y7 g.2),(23,.int .i64 (g.2.length:Int)),(24,.int .i64 st1),(25,.bool (decide (st1 < (g.2.length:Int))))] [(1,.box 24 [.int .i64 g.1,.sl Y7 g.2])] ?_
      refine AW.seq ?_
      refine zQ h (fun hb11 h=>?_) (fun hb11 h=>?_)
      ·refine zk ?_
       refine AW.have1 (fun _:Unit=>linealref07_Valid_k2 st1=some x9) (fun _=>⟨fr [(1,.bp 1 0),(22,.sl Y7 g.2),(23,.int .i64 (g.2.length:Int)),(24,.int .i64 st1)],hpGet [(1,.box 24 [.int .i64 g.1,.sl Y7 g.2])],gt⟩) (fun _ h=>?_) (fun hk_linealref07_Valid_k2=>?_)
       ·as_aux_lemma =>
         unfold linealref07_Valid_k2 at h
         refine AW.ops ?_
         obtain ⟨c12,h⟩:=ck_some.1 h
         refine zA [(1,.bp 1 0),(22,.sl Y7 g.2),(23,.int .i64 (g.2.length:Int)),(24,.int .i64 (st1 + 1))] [(1,.box 24 [.int .i64 g.1,.sl Y7 g.2])] ?_
         obtain rfl:=Option.some.inj h
         exact ⟨_,rfl,zL [] [] []⟩
       ·refine AW.seq ?_
        refine AW.block ?_
        refine zo ?_
        obtain ⟨c13,h⟩:=ck_some.1 h
        obtain ⟨c14,h⟩:=ck_some.1 h
        refine zS 5 [(1,.bp 1 0),(3,.int .i64 st1),(4,.bp 4 0),(22,.sl Y7 g.2),(23,.int .i64 (g.2.length:Int)),(24,.int .i64 st1),(28,.agg [.int .i64 (g.2.getD st1.toNat (0,0,0,false)).1,.int .i64 (g.2.getD st1.toNat (0,0,0,false)).2.1,.int .i64 (g.2.getD st1.toNat (0,0,0,false)).2.2.1,.bool (g.2.getD st1.toNat (0,0,0,false)).2.2.2])] [(1,.box 24 [.int .i64 g.1,.sl Y7 g.2]),(4,.box 61 [.int .i64 0,.int .i64 0,.int .i64 0,.bool false])] ?_
        refine zB [(1,.bp 1 0),(3,.int .i64 st1),(4,.bp 4 0),(22,.sl Y7 g.2),(23,.int .i64 (g.2.length:Int)),(24,.int .i64 st1)] [(1,.box 24 [.int .i64 g.1,.sl Y7 g.2]),(4,.box 61 [.int .i64 (g.2.getD st1.toNat (0,0,0,false)).1,.int .i64 (g.2.getD st1.toNat (0,0,0,false)).2.1,.int .i64 (g.2.getD st1.toNat (0,0,0,false)).2.2.1,.bool (g.2.getD st1.toNat (0,0,0,false)).2.2.2])] ?_
        refine AW.seq ?_
        refine zo ?_
        refine zS 3 [(1,.bp 1 0),(3,.int .i64 st1),(4,.bp 4 0),(22,.sl Y7 g.2),(23,.int .i64 (g.2.length:Int)),(24,.int .i64 st1),(29,.agg [.int .i64 g.1,.sl Y7 g.2]),(31,.int .i64 (g.2.getD st1.toNat (0,0,0,false)).1)] [(1,.box 24 [.int .i64 g.1,.sl Y7 g.2]),(4,.box 61 [.int .i64 (g.2.getD st1.toNat (0,0,0,false)).1,.int .i64 (g.2.getD st1.toNat (0,0,0,false)).2.1,.int .i64 (g.2.getD st1.toNat (0,0,0,false)).2.2.1,.bool (g.2.getD st1.toNat (0,0,0,false)).2.2.2])] ?_
        obtain ⟨v0,hv15,h⟩:=Option.bind_eq_some_iff.1 h
        refine zC [] [] (hc_linealref07_IsPlace g (g.2.getD st1.toNat (0,0,0,false)).1 hv15) [(1,.bp 1 0),(3,.int .i64 st1),(4,.bp 4 0),(22,.sl Y7 g.2),(23,.int .i64 (g.2.length:Int)),(24,.int .i64 st1),(32,.bool v0)] [(1,.box 24 [.int .i64 g.1,.sl Y7 g.2]),(4,.box 61 [.int .i64 (g.2.getD st1.toNat (0,0,0,false)).1,.int .i64 (g.2.getD st1.toNat (0,0,0,false)).2.1,.int .i64 (g.2.getD st1.toNat (0,0,0,false)).2.2.1,.bool (g.2.getD st1.toNat (0,0,0,false)).2.2.2])] ?_
        refine zS 2 [(1,.bp 1 0),(3,.int .i64 st1),(4,.bp 4 0),(22,.sl Y7 g.2),(23,.int .i64 (g.2.length:Int)),(24,.int .i64 st1),(34,.bool (!v0))] [(1,.box 24 [.int .i64 g.1,.sl Y7 g.2]),(4,.box 61 [.int .i64 (g.2.getD st1.toNat (0,0,0,false)).1,.int .i64 (g.2.getD st1.toNat (0,0,0,false)).2.1,.int .i64 (g.2.getD st1.toNat (0,0,0,false)).2.2.1,.bool (g.2.getD st1.toNat (0,0,0,false)).2.2.2])] ?_
        rcases zI h with ⟨hb16,h⟩ | ⟨hb16,h⟩
        ·refine zS 4 [(1,.bp 1 0),(3,.int .i64 st1),(4,.bp 4 0),(22,.sl Y7 g.2),(23,.int .i64 (g.2.length:Int)),(24,.int .i64 st1),(34,.bool true),(38,.cv (undef))] [(1,.box 24 [.int .i64 g.1,.sl Y7 g.2]),(4,.box 61 [.int .i64 (g.2.getD st1.toNat (0,0,0,false)).1,.int .i64 (g.2.getD st1.toNat (0,0,0,false)).2.1,.int .i64 (g.2.getD st1.toNat (0,0,0,false)).2.2.1,.bool (g.2.getD st1.toNat (0,0,0,false)).2.2.2])] ?_
         refine zS 5 [(1,.bp 1 0),(3,.int .i64 st1),(4,.bp 4 0),(22,.sl Y7 g.2),(23,.int .i64 (g.2.length:Int)),(24,.int .i64 st1),(41,.bool true),(43,.cv (undef))] [(1,.box 24 [.int .i64 g.1,.sl Y7 g.2]),(4,.box 61 [.int .i64 (g.2.getD st1.toNat (0,0,0,false)).1,.int .i64 (g.2.getD st1.toNat (0,0,0,false)).2.1,.int .i64 (g.2.getD st1.toNat (0,0,0,false)).2.2.1,.bool (g.2.getD st1.toNat (0,0,0,false)).2.2.2])] ?_
         refine zB [(1,.bp 1 0),(3,.int .i64 st1),(4,.bp 4 0),(22,.sl Y7 g.2),(23,.int .i64 (g.2.length:Int)),(24,.int .i64 st1),(46,.bool true)] [(1,.box 24 [.int .i64 g.1,.sl Y7 g.2]),(4,.box 61 [.int .i64 (g.2.getD st1.toNat (0,0,0,false)).1,.int .i64 (g.2.getD st1.toNat (0,0,0,false)).2.1,.int .i64 (g.2.getD st1.toNat (0,0,0,false)).2.2.1,.bool (g.2.getD st1.toNat (0,0,0,false)).2.2.2])] ?_
         refine AW.cond (b:=true) rfl (fun _=>?_) (fun hb17=>by cases hb17)
         refine zo ?_
         refine zB [(2,.bool false)] [] ?_
         refine zr ?_
         refine ablock_r ?_
         refine athen_r ?_
         obtain rfl:=Option.some.inj h
         rw [← hd8 _ rfl] at ho7
         have h:=ho7
         try simp only at h
         refine athen_r ?_
         refine ablock_r ?_
         refine athen_r ?_
         obtain rfl:=Option.some.inj h
         exact zR [] [] []
        ·refine zS 3 [(1,.bp 1 0),(3,.int .i64 st1),(4,.bp 4 0),(22,.sl Y7 g.2),(23,.int .i64 (g.2.length:Int)),(24,.int .i64 st1),(34,.bool false),(35,.agg [.int .i64 g.1,.sl Y7 g.2]),(37,.int .i64 (g.2.getD st1.toNat (0,0,0,false)).2.2.1)] [(1,.box 24 [.int .i64 g.1,.sl Y7 g.2]),(4,.box 61 [.int .i64 (g.2.getD st1.toNat (0,0,0,false)).1,.int .i64 (g.2.getD st1.toNat (0,0,0,false)).2.1,.int .i64 (g.2.getD st1.toNat (0,0,0,false)).2.2.1,.bool (g.2.getD st1.toNat (0,0,0,false)).2.2.2])] ?_
         obtain ⟨v0_2,hv18,h⟩:=Option.bind_eq_some_iff.1 h
         refine zG [] [] (hc_linealref07_IsPlace g (g.2.getD st1.toNat (0,0,0,false)).2.2.1 hv18) [(1,.bp 1 0),(3,.int .i64 st1),(4,.bp 4 0),(22,.sl Y7 g.2),(23,.int .i64 (g.2.length:Int)),(24,.int .i64 st1),(34,.bool false),(38,.bool v0_2)] [(1,.box 24 [.int .i64 g.1,.sl Y7 g.2]),(4,.box 61 [.int .i64 (g.2.getD st1.toNat (0,0,0,false)).1,.int .i64 (g.2.getD st1.toNat (0,0,0,false)).2.1,.int .i64 (g.2.getD st1.toNat (0,0,0,false)).2.2.1,.bool (g.2.getD st1.toNat (0,0,0,false)).2.2.2])] ?_
         refine zS 3 [(1,.bp 1 0),(3,.int .i64 st1),(4,.bp 4 0),(22,.sl Y7 g.2),(23,.int .i64 (g.2.length:Int)),(24,.int .i64 st1),(41,.bool (!v0_2))] [(1,.box 24 [.int .i64 g.1,.sl Y7 g.2]),(4,.box 61 [.int .i64 (g.2.getD st1.toNat (0,0,0,false)).1,.int .i64 (g.2.getD st1.toNat (0,0,0,false)).2.1,.int .i64 (g.2.getD st1.toNat (0,0,0,false)).2.2.1,.bool (g.2.getD st1.toNat (0,0,0,false)).2.2.2])] ?_
         rcases zI h with ⟨hb19,h⟩ | ⟨hb19,h⟩
         ·refine zS 4 [(1,.bp 1 0),(3,.int .i64 st1),(4,.bp 4 0),(22,.sl Y7 g.2),(23,.int .i64 (g.2.length:Int)),(24,.int .i64 st1),(41,.bool true),(45,.cv (undef))] [(1,.box 24 [.int .i64 g.1,.sl Y7 g.2]),(4,.box 61 [.int .i64 (g.2.getD st1.toNat (0,0,0,false)).1,.int .i64 (g.2.getD st1.toNat (0,0,0,false)).2.1,.int .i64 (g.2.getD st1.toNat (0,0,0,false)).2.2.1,.bool (g.2.getD st1.toNat (0,0,0,false)).2.2.2])] ?_
          refine zB [(1,.bp 1 0),(3,.int .i64 st1),(4,.bp 4 0),(22,.sl Y7 g.2),(23,.int .i64 (g.2.length:Int)),(24,.int .i64 st1),(46,.bool true)] [(1,.box 24 [.int .i64 g.1,.sl Y7 g.2]),(4,.box 61 [.int .i64 (g.2.getD st1.toNat (0,0,0,false)).1,.int .i64 (g.2.getD st1.toNat (0,0,0,false)).2.1,.int .i64 (g.2.getD st1.toNat (0,0,0,false)).2.2.1,.bool (g.2.getD st1.toNat (0,0,0,false)).2.2.2])] ?_
          refine AW.cond (b:=true) rfl (fun _=>?_) (fun hb20=>by cases hb20)
          refine zo ?_
          refine zB [(2,.bool false)] [] ?_
          refine zr ?_
          refine ablock_r ?_
          refine athen_r ?_
          obtain rfl:=Option.some.inj h
          rw [← hd8 _ rfl] at ho7
          have h:=ho7
          try simp only at h
          refine athen_r ?_
          refine ablock_r ?_
          refine athen_r ?_
          obtain rfl:=Option.some.inj h
          exact zR [] [] []
         ·refine zS 2 [(1,.bp 1 0),(3,.int .i64 st1),(4,.bp 4 0),(22,.sl Y7 g.2),(23,.int .i64 (g.2.length:Int)),(24,.int .i64 st1),(41,.bool false),(43,.int .i64 (g.2.getD st1.toNat (0,0,0,false)).2.1)] [(1,.box 24 [.int .i64 g.1,.sl Y7 g.2]),(4,.box 61 [.int .i64 (g.2.getD st1.toNat (0,0,0,false)).1,.int .i64 (g.2.getD st1.toNat (0,0,0,false)).2.1,.int .i64 (g.2.getD st1.toNat (0,0,0,false)).2.2.1,.bool (g.2.getD st1.toNat (0,0,0,false)).2.2.2])] ?_
          obtain ⟨v0_3,hv21,h⟩:=Option.bind_eq_some_iff.1 h
          refine zG [] [] (hc_linealref07_IsThread (g.2.getD st1.toNat (0,0,0,false)).2.1 hv21) [(1,.bp 1 0),(3,.int .i64 st1),(4,.bp 4 0),(22,.sl Y7 g.2),(23,.int .i64 (g.2.length:Int)),(24,.int .i64 st1),(41,.bool false),(44,.bool v0_3)] [(1,.box 24 [.int .i64 g.1,.sl Y7 g.2]),(4,.box 61 [.int .i64 (g.2.getD st1.toNat (0,0,0,false)).1,.int .i64 (g.2.getD st1.toNat (0,0,0,false)).2.1,.int .i64 (g.2.getD st1.toNat (0,0,0,false)).2.2.1,.bool (g.2.getD st1.toNat (0,0,0,false)).2.2.2])] ?_
          refine zB [(1,.bp 1 0),(3,.int .i64 st1),(4,.bp 4 0),(22,.sl Y7 g.2),(23,.int .i64 (g.2.length:Int)),(24,.int .i64 st1),(46,.bool (!v0_3))] [(1,.box 24 [.int .i64 g.1,.sl Y7 g.2]),(4,.box 61 [.int .i64 (g.2.getD st1.toNat (0,0,0,false)).1,.int .i64 (g.2.getD st1.toNat (0,0,0,false)).2.1,.int .i64 (g.2.getD st1.toNat (0,0,0,false)).2.2.1,.bool (g.2.getD st1.toNat (0,0,0,false)).2.2.2])] ?_
          refine zQ h (fun hb22 h=>?_) (fun hb22 h=>?_)
          ·refine zo ?_
           refine zB [(2,.bool false)] [] ?_
           refine zr ?_
           refine ablock_r ?_
           refine athen_r ?_
           obtain rfl:=Option.some.inj h
           rw [← hd8 _ rfl] at ho7
           have h:=ho7
           try simp only at h
           refine athen_r ?_
           refine ablock_r ?_
           refine athen_r ?_
           obtain rfl:=Option.some.inj h
           exact zR [] [] []
          ·refine zk ?_
           refine zo ?_
           obtain ⟨c23,h⟩:=ck_some.1 h
           obtain ⟨c24,h⟩:=ck_some.1 h
           refine zS 5 [(1,.bp 1 0),(4,.bp 4 0),(22,.sl Y7 g.2),(23,.int .i64 (g.2.length:Int)),(24,.int .i64 st1),(50,.sl Y7 (g.2.take st1.toNat)),(51,.int .i64 ((g.2.take st1.toNat).length:Int))] [(1,.box 24 [.int .i64 g.1,.sl Y7 g.2]),(4,.box 61 [.int .i64 (g.2.getD st1.toNat (0,0,0,false)).1,.int .i64 (g.2.getD st1.toNat (0,0,0,false)).2.1,.int .i64 (g.2.getD st1.toNat (0,0,0,false)).2.2.1,.bool (g.2.getD st1.toNat (0,0,0,false)).2.2.2])] ?_
           refine zB [(1,.bp 1 0),(4,.bp 4 0),(22,.sl Y7 g.2),(23,.int .i64 (g.2.length:Int)),(24,.int .i64 st1),(50,.sl Y7 (g.2.take st1.toNat)),(51,.int .i64 ((g.2.take st1.toNat).length:Int)),(52,.int .i64 0)] [(1,.box 24 [.int .i64 g.1,.sl Y7 g.2]),(4,.box 61 [.int .i64 (g.2.getD st1.toNat (0,0,0,false)).1,.int .i64 (g.2.getD st1.toNat (0,0,0,false)).2.1,.int .i64 (g.2.getD st1.toNat (0,0,0,false)).2.2.1,.bool (g.2.getD st1.toNat (0,0,0,false)).2.2.2])] ?_
           refine AW.block ?_
           obtain ⟨rv29,hw25,ho26⟩:=Option.bind_eq_some_iff.1 h
           refine AW.loopO (linealref07_Valid_b2 g st1) (fun st2=>⟨fr [(1,.bp 1 0),(4,.bp 4 0),(22,.sl Y7 g.2),(23,.int .i64 (g.2.length:Int)),(24,.int .i64 st1),(50,.sl Y7 (g.2.take st1.toNat)),(51,.int .i64 ((g.2.take st1.toNat).length:Int)),(52,.int .i64 st2)],hpGet [(1,.box 24 [.int .i64 g.1,.sl Y7 g.2]),(4,.box 61 [.int .i64 (g.2.getD st1.toNat (0,0,0,false)).1,.int .i64 (g.2.getD st1.toNat (0,0,0,false)).2.1,.int .i64 (g.2.getD st1.toNat (0,0,0,false)).2.2.1,.bool (g.2.getD st1.toNat (0,0,0,false)).2.2.2])],gt⟩) 0 hw25 (zL [] [] []) ?_
           as_aux_lemma =>
            intro st2 x28 h hd27
            unfold linealref07_Valid_b2 at h
            refine zo ?_
            refine zB [(1,.bp 1 0),(4,.bp 4 0),(22,.sl Y7 g.2),(23,.int .i64 (g.2.length:Int)),(24,.int .i64 st1),(50,.sl Y7 (g.2.take st1.toNat)),(51,.int .i64 ((g.2.take st1.toNat).length:Int)),(52,.int .i64 st2),(53,.bool (decide (st2 < ((g.2.take st1.toNat).length:Int))))] [(1,.box 24 [.int .i64 g.1,.sl Y7 g.2]),(4,.box 61 [.int .i64 (g.2.getD st1.toNat (0,0,0,false)).1,.int .i64 (g.2.getD st1.toNat (0,0,0,false)).2.1,.int .i64 (g.2.getD st1.toNat (0,0,0,false)).2.2.1,.bool (g.2.getD st1.toNat (0,0,0,false)).2.2.2])] ?_
            refine AW.seq ?_
            refine zQ h (fun hb30 h=>?_) (fun hb30 h=>?_)
            ·refine zk ?_
             refine AW.seq ?_
             refine AW.block ?_
             refine zo ?_
             obtain ⟨c31,h⟩:=ck_some.1 h
             obtain ⟨c32,h⟩:=ck_some.1 h
             refine zB [(1,.bp 1 0),(4,.bp 4 0),(6,.bp 6 0),(22,.sl Y7 g.2),(23,.int .i64 (g.2.length:Int)),(24,.int .i64 st1),(50,.sl Y7 (g.2.take st1.toNat)),(51,.int .i64 ((g.2.take st1.toNat).length:Int)),(52,.int .i64 st2)] [(1,.box 24 [.int .i64 g.1,.sl Y7 g.2]),(4,.box 61 [.int .i64 (g.2.getD st1.toNat (0,0,0,false)).1,.int .i64 (g.2.getD st1.toNat (0,0,0,false)).2.1,.int .i64 (g.2.getD st1.toNat (0,0,0,false)).2.2.1,.bool (g.2.getD st1.toNat (0,0,0,false)).2.2.2]),(6,.box 61 [.int .i64 ((g.2.take st1.toNat).getD st2.toNat (0,0,0,false)).1,.int .i64 ((g.2.take st1.toNat).getD st2.toNat (0,0,0,false)).2.1,.int .i64 ((g.2.take st1.toNat).getD st2.toNat (0,0,0,false)).2.2.1,.bool ((g.2.take st1.toNat).getD st2.toNat (0,0,0,false)).2.2.2])] ?_
             refine zo ?_
             refine zS 2 [(1,.bp 1 0),(4,.bp 4 0),(22,.sl Y7 g.2),(23,.int .i64 (g.2.length:Int)),(24,.int .i64 st1),(50,.sl Y7 (g.2.take st1.toNat)),(51,.int .i64 ((g.2.take st1.toNat).length:Int)),(52,.int .i64 st2),(56,.agg [.int .i64 (g.2.getD st1.toNat (0,0,0,false)).1,.int .i64 (g.2.getD st1.toNat (0,0,0,false)).2.1,.int .i64 (g.2.getD st1.toNat (0,0,0,false)).2.2.1,.bool (g.2.getD st1.toNat (0,0,0,false)).2.2.2]),(57,.agg [.int .i64 ((g.2.take st1.toNat).getD st2.toNat (0,0,0,false)).1,.int .i64 ((g.2.take st1.toNat).getD st2.toNat (0,0,0,false)).2.1,.int .i64 ((g.2.take st1.toNat).getD st2.toNat (0,0,0,false)).2.2.1,.bool ((g.2.take st1.toNat).getD st2.toNat (0,0,0,false)).2.2.2])] [(1,.box 24 [.int .i64 g.1,.sl Y7 g.2]),(4,.box 61 [.int .i64 (g.2.getD st1.toNat (0,0,0,false)).1,.int .i64 (g.2.getD st1.toNat (0,0,0,false)).2.1,.int .i64 (g.2.getD st1.toNat (0,0,0,false)).2.2.1,.bool (g.2.getD st1.toNat (0,0,0,false)).2.2.2])] ?_
             obtain ⟨c33,h⟩:=ck_some.1 h
             obtain ⟨c34,h⟩:=ck_some.1 h
             obtain ⟨c35,h⟩:=ck_some.1 h
             obtain ⟨c36,h⟩:=ck_some.1 h
             obtain ⟨c37,h⟩:=ck_some.1 h
             obtain ⟨c38,h⟩:=ck_some.1 h
             refine AO.aggEq (neg:=false) eqty_61 (by decide) rfl rfl (lx:=[.int .i64 (g.2.getD st1.toNat (0,0,0,false)).1,.int .i64 (g.2.getD st1.toNat (0,0,0,false)).2.1,.int .i64 (g.2.getD st1.toNat (0,0,0,false)).2.2.1,.bool (g.2.getD st1.toNat (0,0,0,false)).2.2.2]) (ly:=[.int .i64 ((g.2.take st1.toNat).getD st2.toNat (0,0,0,false)).1,.int .i64 ((g.2.take st1.toNat).getD st2.toNat (0,0,0,false)).2.1,.int .i64 ((g.2.take st1.toNat).getD st2.toNat (0,0,0,false)).2.2.1,.bool ((g.2.take st1.toNat).getD st2.toNat (0,0,0,false)).2.2.2]) (by first | rfl | (simp only [go_sem,hb1,hb3,hb5,hb11,hb16,hb19,hb22,hb30]) <;> (with_reducible and_intros) <;> first | assumption | rfl | omega | (unfold maxLen; omega)) (by first | rfl | (simp only [go_sem,hb1,hb3,hb5,hb11,hb16,hb19,hb22,hb30]) <;> (with_reducible and_intros) <;> first | assumption | rfl | omega | (unfold maxLen; omega)) (by first | rfl | (simp only [go_sem,hb1,hb3,hb5,hb11,hb16,hb19,hb22,hb30]) <;> (with_reducible and_intros) <;> first | assumption | rfl | omega | (unfold maxLen; omega)) (by first | rfl | (simp only [go_sem,hb1,hb3,hb5,hb11,hb16,hb19,hb22,hb30]) <;> (with_reducible and_intros) <;> first | assumption | rfl | omega | (unfold maxLen; omega)) (by first | assumption | omega | (simp only [go_sem,hb1,hb3,hb5,hb11,hb16,hb19,hb22,hb30]) <;> (with_reducible and_intros) <;> first | assumption | rfl | omega | (unfold maxLen; omega)) (by first | assumption | omega | (simp only [go_sem,hb1,hb3,hb5,hb11,hb16,hb19,hb22,hb30]) <;> (with_reducible and_intros) <;> first | assumption | rfl | omega | (unfold maxLen; omega)) ?_
             refine zT [(1,.bp 1 0),(4,.bp 4 0),(22,.sl Y7 g.2),(23,.int .i64 (g.2.length:Int)),(24,.int .i64 st1),(50,.sl Y7 (g.2.take st1.toNat)),(51,.int .i64 ((g.2.take st1.toNat).length:Int)),(52,.int .i64 st2),(58,.bool (decide ((g.2.getD st1.toNat (0,0,0,false))=((g.2.take st1.toNat).getD st2.toNat (0,0,0,false)))))] [(1,.box 24 [.int .i64 g.1,.sl Y7 g.2]),(4,.box 61 [.int .i64 (g.2.getD st1.toNat (0,0,0,false)).1,.int .i64 (g.2.getD st1.toNat (0,0,0,false)).2.1,.int .i64 (g.2.getD st1.toNat (0,0,0,false)).2.2.1,.bool (g.2.getD st1.toNat (0,0,0,false)).2.2.2])] gt ?_
             refine zB [(1,.bp 1 0),(4,.bp 4 0),(22,.sl Y7 g.2),(23,.int .i64 (g.2.length:Int)),(24,.int .i64 st1),(50,.sl Y7 (g.2.take st1.toNat)),(51,.int .i64 ((g.2.take st1.toNat).length:Int)),(52,.int .i64 st2),(58,.bool (decide ((g.2.getD st1.toNat (0,0,0,false))=((g.2.take st1.toNat).getD st2.toNat (0,0,0,false)))))] [(1,.box 24 [.int .i64 g.1,.sl Y7 g.2]),(4,.box 61 [.int .i64 (g.2.getD st1.toNat (0,0,0,false)).1,.int .i64 (g.2.getD st1.toNat (0,0,0,false)).2.1,.int .i64 (g.2.getD st1.toNat (0,0,0,false)).2.2.1,.bool (g.2.getD st1.toNat (0,0,0,false)).2.2.2])] ?_
             refine zQ h (fun hb39 h=>?_) (fun hb39 h=>?_)
             ·refine zo ?_
              refine zB [(2,.bool false)] [] ?_
              refine AW.ret ?_
              refine ablock_r ?_
              refine athen_r ?_
              obtain rfl:=Option.some.inj h
              rw [← hd27 _ rfl] at ho26
              have h:=ho26
              try simp only at h
              refine athen_r ?_
              refine ablock_r ?_
              refine ablock_r ?_
              refine athen_r ?_
              obtain rfl:=Option.some.inj h
              rw [← hd8 _ rfl] at ho7
              have h:=ho7
              try simp only at h
              refine athen_r ?_
              refine ablock_r ?_
              refine athen_r ?_
              obtain rfl:=Option.some.inj h
              exact zR [] [] []
             ·refine zm ?_
              refine athen_n ?_
              refine AW.ops ?_
              obtain ⟨c40,h⟩:=ck_some.1 h
              refine zA [(1,.bp 1 0),(4,.bp 4 0),(22,.sl Y7 g.2),(23,.int .i64 (g.2.length:Int)),(24,.int .i64 st1),(50,.sl Y7 (g.2.take st1.toNat)),(51,.int .i64 ((g.2.take st1.toNat).length:Int)),(52,.int .i64 (st2 + 1))] [(1,.box 24 [.int .i64 g.1,.sl Y7 g.2]),(4,.box 61 [.int .i64 (g.2.getD st1.toNat (0,0,0,false)).1,.int .i64 (g.2.getD st1.toNat (0,0,0,false)).2.1,.int .i64 (g.2.getD st1.toNat (0,0,0,false)).2.2.1,.bool (g.2.getD st1.toNat (0,0,0,false)).2.2.2])] ?_
              obtain rfl:=Option.some.inj h
              exact ⟨_,rfl,zL [] [] []⟩
            ·refine AW.exit ?_
             refine athen_e ?_
             obtain rfl:=Option.some.inj h
             rw [← hd27 _ rfl] at ho26
             have h:=ho26
             try simp only at h
             refine athen_e ?_
             refine ablock_s ?_
             refine ablock_n ?_
             refine athen_n ?_
             exact AW.weaken (zL [] [] []) (hk_linealref07_Valid_k2 () h)
      ·refine AW.exit ?_
       refine athen_e ?_
       obtain rfl:=Option.some.inj h
       rw [← hd8 _ rfl] at ho7
       have h:=ho7
       try simp only at h
       refine athen_e ?_
       refine ablock_s ?_
       refine athen_n ?_
       exact AW.weaken (zL [] [] []) (hk_linealref07_Valid_k1 () h)
theorem hc_progress_Reached (g:Int×(List (Int×Int×Int×Bool))) {r:(List Int)×Int} (h:progress_Reached g=some r):HC Try.prog 22 [] [.agg [.int .i64 g.1,.sl Y7 g.2]] [(2000,.arr 3 (.int .i64) r.1)] (.tup [.own 2000,.int .i64 r.2]):=by
 unfold progress_Reached at h
 refine zH Try.func22 [.tmp 2,.tmp 3] 16 ?_
 refine zo ?_
 refine zB [(1,.bp 1 0)] [(1,.box 24 [.int .i64 g.1,.sl Y7 g.2])] ?_
 refine zo ?_
 refine zS 1 [(7,.agg [.int .i64 g.1,.sl Y7 g.2])] [] ?_
 obtain ⟨v0,hv1,h⟩:=Option.bind_eq_some_iff.1 h
 refine zC [] [] (hc_progress_graphOf g hv1) [(8,.tup [.agg [.int .i64 v0.1,.sl Y7 v0.2.1],.int .i64 v0.2.2])] [] ?_
 refine zS 5 [(4,.bp 4 0),(10,.int .i64 v0.2.2)] [(4,.box 69 [.int .i64 v0.1,.sl Y7 v0.2.1])] ?_
 refine zB [(4,.bp 4 0),(5,.int .i64 v0.2.2)] [(4,.box 69 [.int .i64 v0.1,.sl Y7 v0.2.1])] ?_
 refine AW.seq ?_
 refine zo ?_
 refine zB [(4,.bp 4 0),(5,.int .i64 v0.2.2),(12,.bool (!(decide (v0.2.2=0))))] [(4,.box 69 [.int .i64 v0.1,.sl Y7 v0.2.1])] ?_
 refine zQ h (fun hb2 h=>?_) (fun hb2 h=>?_)
 ·refine zo ?_
  refine zB [(2,.cv (.slice none 0 0)),(3,.int .i64 v0.2.2)] [] ?_
  refine zr ?_
  obtain rfl:=Option.some.inj h
  exact zR [] [2000] []
 ·refine zk ?_
  refine zo ?_
  refine zS 1 [(14,.agg [.int .i64 v0.1,.sl Y7 v0.2.1])] [] ?_
  obtain ⟨v0_2,hv3,h⟩:=Option.bind_eq_some_iff.1 h
  refine zC [] [] (hc_progress_graph_reached (v0.1,v0.2.1) hv3) [(15,.own 25000)] [(25000,.arr 3 (.int .i64) v0_2)] ?_
  refine zB [(2,.own 25000),(3,.int .i64 0)] [(25000,.arr 3 (.int .i64) v0_2)] ?_
  refine AW.ret ?_
  obtain rfl:=Option.some.inj h
  exact zR [] [] [(2000,25000)]
theorem hc_progress_Holds (g:Int×(List (Int×Int×Int×Bool))) (claim:Int) (thread:Int) {r:Bool×Int} (h:progress_Holds g claim thread=some r):HC Try.prog 29 [] [.agg [.int .i64 g.1,.sl Y7 g.2],.int .i64 claim,.int .i64 thread] [] (.tup [.bool r.1,.int .i64 r.2]):=by
 unfold progress_Holds at h
 refine zH Try.func29 [.tmp 6,.tmp 7] 28 ?_
 refine zo ?_
 refine zB [(1,.int .i64 claim),(2,.int .i64 thread),(3,.bp 3 0)] [(3,.box 24 [.int .i64 g.1,.sl Y7 g.2])] ?_
 refine zo ?_
 refine zS 3 [(13,.agg [.int .i64 g.1,.sl Y7 g.2]),(14,.int .i64 claim),(15,.int .i64 thread)] [] ?_
 obtain ⟨v0,hv1,h⟩:=Option.bind_eq_some_iff.1 h
 rcases v0 with v0_2 | v0_3 | v0_4 | v0_5
 ·try simp only at h
  refine zC [] [] (hc_progress_statementOf_a0 g claim thread hv1) [(16,.tup [.agg [.int .i64 0,.cv (.slice none 0 0),.cv (.nilFunc),.cv (.nilFunc)],.int .i64 v0_2])] [] ?_
  refine zS 5 [(8,.bp 8 0),(18,.int .i64 v0_2)] [(8,.box 85 [.int .i64 0,.cv (.slice none 0 0),.cv (.nilFunc),.cv (.nilFunc)])] ?_
  refine zB [(8,.bp 8 0),(9,.int .i64 v0_2)] [(8,.box 85 [.int .i64 0,.cv (.slice none 0 0),.cv (.nilFunc),.cv (.nilFunc)])] ?_
  refine AW.seq ?_
  refine zo ?_
  refine zB [(8,.bp 8 0),(9,.int .i64 v0_2),(20,.bool (!(decide (v0_2=0))))] [(8,.box 85 [.int .i64 0,.cv (.slice none 0 0),.cv (.nilFunc),.cv (.nilFunc)])] ?_
  refine zQ h (fun hb2 h=>?_) (fun hb2 h=>?_)
  ·refine zo ?_
   refine zB [(6,.bool false),(7,.int .i64 v0_2)] [] ?_
   refine zr ?_
   obtain rfl:=Option.some.inj h
   exact zR [] [] []
  ·refine zk ?_
   refine zo ?_
   cases h
 ·try simp only at h
  refine zC [] [] (hc_progress_statementOf_a1 g claim thread hv1) [(16,.tup [.agg [.int .i64 v0_3.1,.sl Y7 v0_3.2,.fn (.func 94) [] [],.fn (.func 94) [] []],.int .i64 0])] [] ?_
  refine zS 5 [(8,.bp 8 0),(18,.int .i64 0)] [(8,.box 85 [.int .i64 v0_3.1,.sl Y7 v0_3.2,.fn (.func 94) [] [],.fn (.func 94) [] []])] ?_
  refine zB [(8,.bp 8 0),(9,.int .i64 0)] [(8,.box 85 [.int .i64 v0_3.1,.sl Y7 v0_3.2,.fn (.func 94) [] [],.fn (.func 94) [] []])] ?_
  refine AW.seq ?_
  refine zo ?_
  refine zB [(8,.bp 8 0),(9,.int .i64 0),(20,.bool false)] [(8,.box 85 [.int .i64 v0_3.1,.sl Y7 v0_3.2,.fn (.func 94) [] [],.fn (.func 94) [] []])] ?_
  refine AW.cond (b:=false) rfl (fun hb3=>by cases hb3) (fun _=>?_)
  refine zk ?_
  refine zo ?_
  refine zS 1 [(23,.agg [.int .i64 v0_3.1,.sl Y7 v0_3.2,.fn (.func 94) [] [],.fn (.func 94) [] []])] [] ?_
  obtain ⟨v0_6,hv4,h⟩:=Option.bind_eq_some_iff.1 h
  refine zC [] [] (hc_progress_statement_ranks v0_3.1 v0_3.2 hv4) [(24,.tup [.own 34000,.bool v0_6.2])] [(34000,.arr 3 (.int .i64) v0_6.1)] ?_
  refine zB [(11,.bool v0_6.2)] [] ?_
  refine zo ?_
  refine zB [(6,.bool v0_6.2),(7,.int .i64 0)] [] ?_
  refine AW.ret ?_
  obtain rfl:=Option.some.inj h
  exact zR [] [] []
 ·try simp only at h
  refine zC [] [] (hc_progress_statementOf_a2 g claim thread hv1) [(16,.tup [.agg [.int .i64 v0_4.1,.sl Y7 v0_4.2,.fn (.func 96) [] [.bp 26000 0],.fn (.func 95) [] [.bp 26000 0]],.int .i64 0])] [(26000,.box 3 [.int .i64 thread])] ?_
  refine AO.weaken (s':=⟨fr [(16,.tup [.agg [.int .i64 v0_4.1,.sl Y7 v0_4.2,.fn (.func 96) [] [.dp (.int .i64) thread 0],.fn (.func 95) [] [.dp (.int .i64) thread 0]],.int .i64 0])],hpGet [],gt⟩) (Wk.boxes [26000] rfl rfl (by (simp only [go_sem]) <;> (with_reducible and_intros) <;> first | assumption | rfl | omega | (unfold maxLen; omega)) (by (simp only [go_sem]) <;> (with_reducible and_intros) <;> first | assumption | rfl | omega | (unfold maxLen; omega))) ?_
  refine zS 5 [(8,.bp 8 0),(18,.int .i64 0)] [(8,.box 85 [.int .i64 v0_4.1,.sl Y7 v0_4.2,.fn (.func 96) [] [.dp (.int .i64) thread 0],.fn (.func 95) [] [.dp (.int .i64) thread 0]])] ?_
  refine zB [(8,.bp 8 0),(9,.int .i64 0)] [(8,.box 85 [.int .i64 v0_4.1,.sl Y7 v0_4.2,.fn (.func 96) [] [.dp (.int .i64) thread 0],.fn (.func 95) [] [.dp (.int .i64) thread 0]])] ?_
  refine AW.seq ?_
  refine zo ?_
  refine zB [(8,.bp 8 0),(9,.int .i64 0),(20,.bool false)] [(8,.box 85 [.int .i64 v0_4.1,.sl Y7 v0_4.2,.fn (.func 96) [] [.dp (.int .i64) thread 0],.fn (.func 95) [] [.dp (.int .i64) thread 0]])] ?_
  refine AW.cond (b:=false) rfl (fun hb5=>by cases hb5) (fun _=>?_)
  refine zk ?_
  refine zo ?_
  refine zS 1 [(23,.agg [.int .i64 v0_4.1,.sl Y7 v0_4.2,.fn (.func 96) [] [.dp (.int .i64) thread 0],.fn (.func 95) [] [.dp (.int .i64) thread 0]])] [] ?_
  obtain ⟨v0_7,hv6,h⟩:=Option.bind_eq_some_iff.1 h
  refine zC [] [] (hc_progress_statement_ranks_2 v0_4.1 v0_4.2 thread thread hv6) [(24,.tup [.own 34000,.bool v0_7.2])] [(34000,.arr 3 (.int .i64) v0_7.1)] ?_
  refine zB [(11,.bool v0_7.2)] [] ?_
  refine zo ?_
  refine zB [(6,.bool v0_7.2),(7,.int .i64 0)] [] ?_
  refine AW.ret ?_
  obtain rfl:=Option.some.inj h
  exact zR [] [] []
 ·try simp only at h
  refine zC [] [] (hc_progress_statementOf_a3 g claim thread hv1) [(16,.tup [.agg [.int .i64 v0_5.1,.sl Y7 v0_5.2,.fn (.func 95) [] [.bp 26000 0],.fn (.func 95) [] [.bp 26000 0]],.int .i64 0])] [(26000,.box 3 [.int .i64 thread])] ?_
  refine AO.weaken (s':=⟨fr [(16,.tup [.agg [.int .i64 v0_5.1,.sl Y7 v0_5.2,.fn (.func 95) [] [.dp (.int .i64) thread 0],.fn (.func 95) [] [.dp (.int .i64) thread 0]],.int .i64 0])],hpGet [],gt⟩) (Wk.boxes [26000] rfl rfl (by (simp only [go_sem]) <;> (with_reducible and_intros) <;> first | assumption | rfl | omega | (unfold maxLen; omega)) (by (simp only [go_sem]) <;> (with_reducible and_intros) <;> first | assumption | rfl | omega | (unfold maxLen; omega))) ?_
  refine zS 5 [(8,.bp 8 0),(18,.int .i64 0)] [(8,.box 85 [.int .i64 v0_5.1,.sl Y7 v0_5.2,.fn (.func 95) [] [.dp (.int .i64) thread 0],.fn (.func 95) [] [.dp (.int .i64) thread 0]])] ?_
  refine zB [(8,.bp 8 0),(9,.int .i64 0)] [(8,.box 85 [.int .i64 v0_5.1,.sl Y7 v0_5.2,.fn (.func 95) [] [.dp (.int .i64) thread 0],.fn (.func 95) [] [.dp (.int .i64) thread 0]])] ?_
  refine AW.seq ?_
  refine zo ?_
  refine zB [(8,.bp 8 0),(9,.int .i64 0),(20,.bool false)] [(8,.box 85 [.int .i64 v0_5.1,.sl Y7 v0_5.2,.fn (.func 95) [] [.dp (.int .i64) thread 0],.fn (.func 95) [] [.dp (.int .i64) thread 0]])] ?_
  refine AW.cond (b:=false) rfl (fun hb7=>by cases hb7) (fun _=>?_)
  refine zk ?_
  refine zo ?_
  refine zS 1 [(23,.agg [.int .i64 v0_5.1,.sl Y7 v0_5.2,.fn (.func 95) [] [.dp (.int .i64) thread 0],.fn (.func 95) [] [.dp (.int .i64) thread 0]])] [] ?_
  obtain ⟨v0_8,hv8,h⟩:=Option.bind_eq_some_iff.1 h
  refine zC [] [] (hc_progress_statement_ranks_3 v0_5.1 v0_5.2 thread thread hv8) [(24,.tup [.own 34000,.bool v0_8.2])] [(34000,.arr 3 (.int .i64) v0_8.1)] ?_
  refine zB [(11,.bool v0_8.2)] [] ?_
  refine zo ?_
  refine zB [(6,.bool v0_8.2),(7,.int .i64 0)] [] ?_
  refine AW.ret ?_
  obtain rfl:=Option.some.inj h
  exact zR [] [] []
theorem hc_progress_statement_isRanks_1 (rank:Int) {r:Bool} (h:progress_statement_isRanks_1 rank=some r):HC Try.prog 98 [] [.int .i64 rank] [] (.bool r):=by
 unfold progress_statement_isRanks_1 at h
 refine zH Try.func98 [.tmp 2] 6 ?_
 refine zo ?_
 refine zB [(0,.int .i64 rank)] [] ?_
 refine zo ?_
 refine zS 1 [(3,.int .i64 rank)] [] ?_
 obtain ⟨v0,hv1,h⟩:=Option.bind_eq_some_iff.1 h
 refine zC [] [] (hc_progress_isBelow rank 101 hv1) [(4,.bool v0)] [] ?_
 refine zB [(2,.bool (!v0))] [] ?_
 refine AW.ret ?_
 obtain rfl:=Option.some.inj h
 exact zR [] [] []
theorem hc_slices_IndexFunc_7 (s:List Int) {r:Int} (h:slices_IndexFunc_7 s=some r):HC Try.prog 93 [] [.sl (.int .i64) s,.fn (.func 98) [] []] [] (.int .i64 r):=by
 unfold slices_IndexFunc_7 at h
 refine zH Try.func93 [.tmp 4] 19 ?_
 refine zo ?_
 refine zB [(0,.sl (.int .i64) s),(1,.fn (.func 98) [] [])] [] ?_
 refine AW.have1 (fun _:Unit=>slices_IndexFunc_7_k1=some r) (fun _=>⟨fr [],hpGet [],gt⟩) (fun _ h=>?_) (fun hk_slices_IndexFunc_7_k1=>?_)
 ·as_aux_lemma =>
   unfold slices_IndexFunc_7_k1 at h
   refine zo ?_
   refine zB [(4,.int .i64 (-1))] [] ?_
   refine AW.ret ?_
   obtain rfl:=Option.some.inj h
   exact zR [] [] []
 ·refine AW.seq ?_
  refine zo ?_
  refine zB [(0,.sl (.int .i64) s),(1,.fn (.func 98) [] []),(7,.int .i64 (s.length:Int)),(8,.int .i64 0)] [] ?_
  refine AW.block ?_
  obtain ⟨rv5,hw1,ho2⟩:=Option.bind_eq_some_iff.1 h
  refine AW.loopO (slices_IndexFunc_7_b1 s) (fun st1=>⟨fr [(0,.sl (.int .i64) s),(1,.fn (.func 98) [] []),(7,.int .i64 (s.length:Int)),(8,.int .i64 st1)],hpGet [],gt⟩) 0 hw1 (zL [] [] []) ?_
  as_aux_lemma =>
   intro st1 x4 h hd3
   unfold slices_IndexFunc_7_b1 at h
   refine zo ?_
   refine zB [(0,.sl (.int .i64) s),(1,.fn (.func 98) [] []),(7,.int .i64 (s.length:Int)),(8,.int .i64 st1),(9,.bool (decide (st1 < (s.length:Int))))] [] ?_
   refine AW.seq ?_
   refine zQ h (fun hb6 h=>?_) (fun hb6 h=>?_)
   ·refine zk ?_
    refine AW.seq ?_
    refine AW.block ?_
    refine zo ?_
    refine zB [(0,.sl (.int .i64) s),(1,.fn (.func 98) [] []),(5,.int .i64 st1),(7,.int .i64 (s.length:Int)),(8,.int .i64 st1)] [] ?_
    refine zo ?_
    obtain ⟨c7,h⟩:=ck_some.1 h
    obtain ⟨c8,h⟩:=ck_some.1 h
    refine zS 5 [(0,.sl (.int .i64) s),(1,.fn (.func 98) [] []),(5,.int .i64 st1),(7,.int .i64 (s.length:Int)),(8,.int .i64 st1),(11,.fn (.func 98) [] []),(15,.int .i64 (s.getD st1.toNat 0))] [] ?_
    obtain ⟨v0,hv9,h⟩:=Option.bind_eq_some_iff.1 h
    refine zC [] [] (hc_progress_statement_isRanks_1 (s.getD st1.toNat 0) hv9) [(0,.sl (.int .i64) s),(1,.fn (.func 98) [] []),(5,.int .i64 st1),(7,.int .i64 (s.length:Int)),(8,.int .i64 st1),(16,.bool v0)] [] ?_
    refine zB [(0,.sl (.int .i64) s),(1,.fn (.func 98) [] []),(5,.int .i64 st1),(7,.int .i64 (s.length:Int)),(8,.int .i64 st1),(16,.bool v0)] [] ?_
    refine zQ h (fun hb10 h=>?_) (fun hb10 h=>?_)
    ·refine zo ?_
     refine zB [(4,.int .i64 st1)] [] ?_
     refine AW.ret ?_
     refine ablock_r ?_
     refine athen_r ?_
     obtain rfl:=Option.some.inj h
     rw [← hd3 _ rfl] at ho2
     have h:=ho2
     try simp only at h
     refine athen_r ?_
     refine ablock_r ?_
     refine athen_r ?_
     obtain rfl:=Option.some.inj h
     exact zR [] [] []
    ·refine zm ?_
     refine athen_n ?_
     refine AW.ops ?_
     obtain ⟨c11,h⟩:=ck_some.1 h
     refine zA [(0,.sl (.int .i64) s),(1,.fn (.func 98) [] []),(7,.int .i64 (s.length:Int)),(8,.int .i64 (st1 + 1))] [] ?_
     obtain rfl:=Option.some.inj h
     exact ⟨_,rfl,zL [] [] []⟩
   ·refine AW.exit ?_
    refine athen_e ?_
    obtain rfl:=Option.some.inj h
    rw [← hd3 _ rfl] at ho2
    have h:=ho2
    try simp only at h
    refine athen_e ?_
    refine ablock_s ?_
    refine athen_n ?_
    exact AW.weaken (zL [] [] []) (hk_slices_IndexFunc_7_k1 () h)
theorem hc_slices_ContainsFunc_2 (s:List Int) {r:Bool} (h:slices_ContainsFunc_2 s=some r):HC Try.prog 99 [] [.sl (.int .i64) s,.fn (.func 98) [] []] [] (.bool r):=by
 unfold slices_ContainsFunc_2 at h
 refine zH Try.func99 [.tmp 4] 9 ?_
 refine zo ?_
 refine zB [(0,.sl (.int .i64) s),(1,.fn (.func 98) [] [])] [] ?_
 refine zo ?_
 refine zS 2 [(5,.sl (.int .i64) s),(6,.fn (.func 98) [] [])] [] ?_
 obtain ⟨v0,hv1,h⟩:=Option.bind_eq_some_iff.1 h
 refine zC [] [] (hc_slices_IndexFunc_7 s hv1) [(7,.int .i64 v0)] [] ?_
 refine zB [(4,.bool (decide (0≤v0)))] [] ?_
 refine AW.ret ?_
 obtain rfl:=Option.some.inj h
 exact zR [] [] []
end Go.Proofs.Yteclokkdgmacpaa
