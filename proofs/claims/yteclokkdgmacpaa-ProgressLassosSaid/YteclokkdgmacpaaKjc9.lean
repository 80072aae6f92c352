/-
  Made by wip/tool/dc.py out of the print of the program: contracts.
-/
import Derived.Test.YteclokkdgmacpaaGrp
import Derived.Test.YteclokkdgmacpaaSh7
import Derived.Test.YteclokkdgmacpaaAvd
import Derived.Test.YteclokkdgmacpaaKjc6
import Derived.Test.YteclokkdgmacpaaYa7
namespace Go.Proofs.Yteclokkdgmacpaa
open Go.RowKit
set_option linter.unusedSimpArgs false
set_option linter.unusedVariables false
set_option linter.constructorNameAsVariable false
set_option maxRecDepth 100000
set_option maxHeartbeats 2000000
theorem hc_linealref07_Valid (g:Int×(List (Int×Int×Int×Bool))) {r:Bool} (h:linealref07_Valid g=some r):HC Try.prog 21 [] [.agg [.int .i64 g.1,.sl Y7 g.2]] [] (.bool r):=by
 unfold linealref07_Valid at h
 refine zH Try.func21 [.tmp 2] 61 ?_
 refine zo ?_
 refine zB [(1,.bp 1 0)] [(1,.box 24 [.int .i64 g.1,.sl Y7 g.2])] ?_
 refine AW.seq ?_
 refine zo ?_
 refine zS 4 [(1,.bp 1 0),(10,.bool (decide (g.1 < 1)))] [(1,.box 24 [.int .i64 g.1,.sl Y7 g.2])] ?_
 rcases zI h with ⟨hb1,h⟩ | ⟨hb1,h⟩
 ·refine zS 5 [(1,.bp 1 0),(15,.bool true)] [(1,.box 24 [.int .i64 g.1,.sl Y7 g.2])] ?_
  refine zS 4 [(1,.bp 1 0),(15,.bool true),(19,.cv (undef))] [(1,.box 24 [.int .i64 g.1,.sl Y7 g.2])] ?_
  refine zB [(1,.bp 1 0),(20,.bool true)] [(1,.box 24 [.int .i64 g.1,.sl Y7 g.2])] ?_
  refine AW.cond (b:=true) rfl (fun _=>?_) (fun hb2=>by cases hb2)
  refine zo ?_
  refine zB [(2,.bool false)] [] ?_
  refine zr ?_
  obtain rfl:=Option.some.inj h
  exact zR [] [] []
 ·refine zS 5 [(1,.bp 1 0),(15,.bool (decide (8 < g.1)))] [(1,.box 24 [.int .i64 g.1,.sl Y7 g.2])] ?_
  rcases zI h with ⟨hb3,h⟩ | ⟨hb3,h⟩
  ·refine zS 4 [(1,.bp 1 0),(15,.bool true),(19,.cv (undef))] [(1,.box 24 [.int .i64 g.1,.sl Y7 g.2])] ?_
   refine zB [(1,.bp 1 0),(20,.bool true)] [(1,.box 24 [.int .i64 g.1,.sl Y7 g.2])] ?_
   refine AW.cond (b:=true) rfl (fun _=>?_) (fun hb4=>by cases hb4)
   refine zo ?_
   refine zB [(2,.bool false)] [] ?_
   refine zr ?_
   obtain rfl:=Option.some.inj h
   exact zR [] [] []
  ·refine zB [(1,.bp 1 0),(20,.bool (decide (20 < (g.2.length:Int))))] [(1,.box 24 [.int .i64 g.1,.sl Y7 g.2])] ?_
   refine zQ h (fun hb5 h=>?_) (fun hb5 h=>?_)
   ·refine zo ?_
    refine zB [(2,.bool false)] [] ?_
    refine zr ?_
    obtain rfl:=Option.some.inj h
    exact zR [] [] []
   ·refine zk ?_
    refine AW.have1 (fun _:Unit=>linealref07_Valid_k1=some r) (fun _=>⟨fr [],hpGet [],gt⟩) (fun _ h=>?_) (fun hk_linealref07_Valid_k1=>?_)
    ·as_aux_lemma =>
      unfold linealref07_Valid_k1 at h
      refine zo ?_
      refine zB [(2,.bool true)] [] ?_
      refine AW.ret ?_
      obtain rfl:=Option.some.inj h
      exact zR [] [] []
    ·refine AW.seq ?_
     refine zo ?_
     refine zB [(1,.bp 1 0),(22,.sl Y7 g.2),(23,.int .i64 (g.2.length:Int)),(24,.int .i64 0)] [(1,.box 24 [.int .i64 g.1,.sl Y7 g.2])] ?_
     refine AW.block ?_
     obtain ⟨rv10,hw6,ho7⟩:=Option.bind_eq_some_iff.1 h
     refine AW.loopO (linealref07_Valid_b1 g) (fun st1=>⟨fr [(1,.bp 1 0),(22,.sl Y7 g.2),(23,.int .i64 (g.2.length:Int)),(24,.int .i64 st1)],hpGet [(1,.box 24 [.int .i64 g.1,.sl Y7 g.2])],gt⟩) 0 hw6 (zL [] [] []) ?_
     as_aux_lemma =>
      intro st1 x9 h hd8
      unfold linealref07_Valid_b1 at h
      refine zo ?_
      refine zB [(1,.bp 1 0),(22,.sl Y7 g.2),(23,.int .i64 (g.2.length:Int)),(24,.int .i64 st1),(25,.bool (decide (st1 < (g.2.length:Int))))] [(1,.box 24 [.int .i64 g.1,.sl Y7 g.2])] ?_
      refine AW.seq ?_
      refine zQ h (fun hb11 h=>?_) (fun hb11 h=>?_)
      ·refine zk ?_
       refine AW.have1 (fun _:Unit=>linealref07_Valid_k2 st1=some x9) (fun _=>⟨fr [(1,.bp 1 0),(22,.sl Y7 g.2),(23,.int .i64 (g.2.length:Int)),(24,.int .i64 st1)],hpGet [(1,.box 24 [.int .i64 g.1,.sl Y7 g.2])],gt⟩) (fun _ h=>?_) (fun hk_linealref07_Valid_k2=>?_)
       ·as_aux_lemma =>
         unfold linealref07_Valid_k2 at h
         refine AW.ops ?_
         obtain ⟨c12,h⟩:=ck_some.1 h
         refine zA [(1,.bp 1 0),(22,.sl Y7 g.2),(23,.int .i64 (g.2.length:Int)),(24,.int .i64 (st1 + 1))] [(1,.box 24 [.int .i64 g.1,.sl Y7 g.2])] ?_
         obtain rfl:=Option.some.inj h
         exact ⟨_,rfl,zL [] [] []⟩
       ·refine AW.seq ?_
        refine AW.block ?_
        refine zo ?_
        obtain ⟨c13,h⟩:=ck_some.1 h
        obtain ⟨c14,h⟩:=ck_some.1 h
        refine zS 5 [(1,.bp 1 0),(3,.int .i64 st1),(4,.bp 4 0),(22,.sl Y7 g.2),(23,.int .i64 (g.2.length:Int)),(24,.int .i64 st1),(28,.agg [.int .i64 (g.2.getD st1.toNat (0,0,0,false)).1,.int .i64 (g.2.getD st1.toNat (0,0,0,false)).2.1,.int .i64 (g.2.getD st1.toNat (0,0,0,false)).2.2.1,.bool (g.2.getD st1.toNat (0,0,0,false)).2.2.2])] [(1,.box 24 [.int .i64 g.1,.sl Y7 g.2]),(4,.box 61 [.int .i64 0,.int .i64 0,.int .i64 0,.bool false])] ?_
        refine zB [(1,.bp 1 0),(3,.int .i64 st1),(4,.bp 4 0),(22,.sl Y7 g.2),(23,.int .i64 (g.2.length:Int)),(24,.int .i64 st1)] [(1,.box 24 [.int .i64 g.1,.sl Y7 g.2]),(4,.box 61 [.int .i64 (g.2.getD st1.toNat (0,0,0,false)).1,.int .i64 (g.2.getD st1.toNat (0,0,0,false)).2.1,.int .i64 (g.2.getD st1.toNat (0,0,0,false)).2.2.1,.bool (g.2.getD st1.toNat (0,0,0,false)).2.2.2])] ?_
        refine AW.seq ?_
        refine zo ?_
        refine zS 3 [(1,.bp 1 0),(3,.int .i64 st1),(4,.bp 4 0),(22,.sl Y7 g.2),(23,.int .i64 (g.2.length:Int)),(24,.int .i64 st1),(29,.agg [.int .i64 g.1,.sl Y7 g.2]),(31,.int .i64 (g.2.getD st1.toNat (0,0,0,false)).1)] [(1,.box 24 [.int .i64 g.1,.sl Y7 g.2]),(4,.box 61 [.int .i64 (g.2.getD st1.toNat (0,0,0,false)).1,.int .i64 (g.2.getD st1.toNat (0,0,0,false)).2.1,.int .i64 (g.2.getD st1.toNat (0,0,0,false)).2.2.1,.bool (g.2.getD st1.toNat (0,0,0,false)).2.2.2])] ?_
        obtain ⟨v0,hv15,h⟩:=Option.bind_eq_some_iff.1 h
        refine zC [] [] (hc_linealref07_IsPlace g (g.2.getD st1.toNat (0,0,0,false)).1 hv15) [(1,.bp 1 0),(3,.int .i64 st1),(4,.bp 4 0),(22,.sl Y7 g.2),(23,.int .i64 (g.2.length:Int)),(24,.int .i64 st1),(32,.bool v0)] [(1,.box 24 [.int .i64 g.1,.sl Y7 g.2]),(4,.box 61 [.int .i64 (g.2.getD st1.toNat (0,0,0,false)).1,.int .i64 (g.2.getD st1.toNat (0,0,0,false)).2.1,.int .i64 (g.2.getD st1.toNat (0,0,0,false)).2.2.1,.bool (g.2.getD st1.toNat (0,0,0,false)).2.2.2])] ?_
        refine zS 2 [(1,.bp 1 0),(3,.int .i64 st1),(4,.bp 4 0),(22,.sl Y7 g.2),(23,.int .i64 (g.2.length:Int)),(24,.int .i64 st1),(34,.bool (!v0))] [(1,.box 24 [.int .i64 g.1,.sl Y7 g.2]),(4,.box 61 [.int .i64 (g.2.getD st1.toNat (0,0,0,false)).1,.int .i64 (g.2.getD st1.toNat (0,0,0,false)).2.1,.int .i64 (g.2.getD st1.toNat (0,0,0,false)).2.2.1,.bool (g.2.getD st1.toNat (0,0,0,false)).2.2.2])] ?_
        rcases zI h with ⟨hb16,h⟩ | ⟨hb16,h⟩
        ·refine zS 4 [(1,.bp 1 0),(3,.int .i64 st1),(4,.bp 4 0),(22,.sl Y7 g.2),(23,.int .i64 (g.2.length:Int)),(24,.int .i64 st1),(34,.bool true),(38,.cv (undef))] [(1,.box 24 [.int .i64 g.1,.sl Y7 g.2]),(4,.box 61 [.int .i64 (g.2.getD st1.toNat (0,0,0,false)).1,.int .i64 (g.2.getD st1.toNat (0,0,0,false)).2.1,.int .i64 (g.2.getD st1.toNat (0,0,0,false)).2.2.1,.bool (g.2.getD st1.toNat (0,0,0,false)).2.2.2])] ?_
         refine zS 5 [(1,.bp 1 0),(3,.int .i64 st1),(4,.bp 4 0),(22,.sl Y7 g.2),(23,.int .i64 (g.2.length:Int)),(24,.int .i64 st1),(41,.bool true),(43,.cv (undef))] [(1,.box 24 [.int .i64 g.1,.sl Y7 g.2]),(4,.box 61 [.int .i64 (g.2.getD st1.toNat (0,0,0,false)).1,.int .i64 (g.2.getD st1.toNat (0,0,0,false)).2.1,.int .i64 (g.2.getD st1.toNat (0,0,0,false)).2.2.1,.bool (g.2.getD st1.toNat (0,0,0,false)).2.2.2])] ?_
         refine zB [(1,.bp 1 0),(3,.int .i64 st1),(4,.bp 4 0),(22,.sl Y7 g.2),(23,.int .i64 (g.2.length:Int)),(24,.int .i64 st1),(46,.bool true)] [(1,.box 24 [.int .i64 g.1,.sl Y7 g.2]),(4,.box 61 [.int .i64 (g.2.getD st1.toNat (0,0,0,false)).1,.int .i64 (g.2.getD st1.toNat (0,0,0,false)).2.1,.int .i64 (g.2.getD st1.toNat (0,0,0,false)).2.2.1,.bool (g.2.getD st1.toNat (0,0,0,false)).2.2.2])] ?_
         refine AW.cond (b:=true) rfl (fun _=>?_) (fun hb17=>by cases hb17)
         refine zo ?_
         refine zB [(2,.bool false)] [] ?_
         refine zr ?_
         refine ablock_r ?_
         refine athen_r ?_
         obtain rfl:=Option.some.inj h
         rw [← hd8 _ rfl] at ho7
         have h:=ho7
         try simp only at h
         refine athen_r ?_
         refine ablock_r ?_
         refine athen_r ?_
         obtain rfl:=Option.some.inj h
         exact zR [] [] []
        ·refine zS 3 [(1,.bp 1 0),(3,.int .i64 st1),(4,.bp 4 0),(22,.sl Y7 g.2),(23,.int .i64 (g.2.length:Int)),(24,.int .i64 st1),(34,.bool false),(35,.agg [.int .i64 g.1,.sl Y7 g.2]),(37,.int .i64 (g.2.getD st1.toNat (0,0,0,false)).2.2.1)] [(1,.box 24 [.int .i64 g.1,.sl Y7 g.2]),(4,.box 61 [.int .i64 (g.2.getD st1.toNat (0,0,0,false)).1,.int .i64 (g.2.getD st1.toNat (0,0,0,false)).2.1,.int .i64 (g.2.getD st1.toNat (0,0,0,false)).2.2.1,.bool (g.2.getD st1.toNat (0,0,0,false)).2.2.2])] ?_
         obtain ⟨v0_2,hv18,h⟩:=Option.bind_eq_some_iff.1 h
         refine zG [] [] (hc_linealref07_IsPlace g (g.2.getD st1.toNat (0,0,0,false)).2.2.1 hv18) [(1,.bp 1 0),(3,.int .i64 st1),(4,.bp 4 0),(22,.sl Y7 g.2),(23,.int .i64 (g.2.length:Int)),(24,.int .i64 st1),(34,.bool false),(38,.bool v0_2)] [(1,.box 24 [.int .i64 g.1,.sl Y7 g.2]),(4,.box 61 [.int .i64 (g.2.getD st1.toNat (0,0,0,false)).1,.int .i64 (g.2.getD st1.toNat (0,0,0,false)).2.1,.int .i64 (g.2.getD st1.toNat (0,0,0,false)).2.2.1,.bool (g.2.getD st1.toNat (0,0,0,false)).2.2.2])] ?_
         refine zS 3 [(1,.bp 1 0),(3,.int .i64 st1),(4,.bp 4 0),(22,.sl Y7 g.2),(23,.int .i64 (g.2.length:Int)),(24,.int .i64 st1),(41,.bool (!v0_2))] [(1,.box 24 [.int .i64 g.1,.sl Y7 g.2]),(4,.box 61 [.int .i64 (g.2.getD st1.toNat (0,0,0,false)).1,.int .i64 (g.2.getD st1.toNat (0,0,0,false)).2.1,.int .i64 (g.2.getD st1.toNat (0,0,0,false)).2.2.1,.bool (g.2.getD st1.toNat (0,0,0,false)).2.2.2])] ?_
         rcases zI h with ⟨hb19,h⟩ | ⟨hb19,h⟩
         ·refine zS 4 [(1,.bp 1 0),(3,.int .i64 st1),(4,.bp 4 0),(22,.sl Y7 g.2),(23,.int .i64 (g.2.length:Int)),(24,.int .i64 st1),(41,.bool true),(45,.cv (undef))] [(1,.box 24 [.int .i64 g.1,.sl Y7 g.2]),(4,.box 61 [.int .i64 (g.2.getD st1.toNat (0,0,0,false)).1,.int .i64 (g.2.getD st1.toNat (0,0,0,false)).2.1,.int .i64 (g.2.getD st1.toNat (0,0,0,false)).2.2.1,.bool (g.2.getD st1.toNat (0,0,0,false)).2.2.2])] ?_
          refine zB [(1,.bp 1 0),(3,.int .i64 st1),(4,.bp 4 0),(22,.sl Y7 g.2),(23,.int .i64 (g.2.length:Int)),(24,.int .i64 st1),(46,.bool true)] [(1,.box 24 [.int .i64 g.1,.sl Y7 g.2]),(4,.box 61 [.int .i64 (g.2.getD st1.toNat (0,0,0,false)).1,.int .i64 (g.2.getD st1.toNat (0,0,0,false)).2.1,.int .i64 (g.2.getD st1.toNat (0,0,0,false)).2.2.1,.bool (g.2.getD st1.toNat (0,0,0,false)).2.2.2])] ?_
          refine AW.cond (b:=true) rfl (fun _=>?_) (fun hb20=>by cases hb20)
          refine zo ?_
          refine zB [(2,.bool false)] [] ?_
          refine zr ?_
          refine ablock_r ?_
          refine athen_r ?_
          obtain rfl:=Option.some.inj h
          rw [← hd8 _ rfl] at ho7
          have h:=ho7
          try simp only at h
          refine athen_r ?_
          refine ablock_r ?_
          refine athen_r ?_
          obtain rfl:=Option.some.inj h
          exact zR [] [] []
         ·refine zS 2 [(1,.bp 1 0),(3,.int .i64 st1),(4,.bp 4 0),(22,.sl Y7 g.2),(23,.int .i64 (g.2.length:Int)),(24,.int .i64 st1),(41,.bool false),(43,.int .i64 (g.2.getD st1.toNat (0,0,0,false)).2.1)] [(1,.box 24 [.int .i64 g.1,.sl Y7 g.2]),(4,.box 61 [.int .i64 (g.2.getD st1.toNat (0,0,0,false)).1,.int .i64 (g.2.getD st1.toNat (0,0,0,false)).2.1,.int .i64 (g.2.getD st1.toNat (0,0,0,false)).2.2.1,.bool (g.2.getD st1.toNat (0,0,0,false)).2.2.2])] ?_
          obtain ⟨v0_3,hv21,h⟩:=Option.bind_eq_some_iff.1 h
          refine zG [] [] (hc_linealref07_IsThread (g.2.getD st1.toNat (0,0,0,false)).2.1 hv21) [(1,.bp 1 0),(3,.int .i64 st1),(4,.bp 4 0),(22,.sl Y7 g.2),(23,.int .i64 (g.2.length:Int)),(24,.int .i64 st1),(41,.bool false),(44,.bool v0_3)] [(1,.box 24 [.int .i64 g.1,.sl Y7 g.2]),(4,.box 61 [.int .i64 (g.2.getD st1.toNat (0,0,0,false)).1,.int .i64 (g.2.getD st1.toNat (0,0,0,false)).2.1,.int .i64 (g.2.getD st1.toNat (0,0,0,false)).2.2.1,.bool (g.2.getD st1.toNat (0,0,0,false)).2.2.2])] ?_
          refine zB [(1,.bp 1 0),(3,.int .i64 st1),(4,.bp 4 0),(22,.sl Y7 g.2),(23,.int .i64 (g.2.length:Int)),(24,.int .i64 st1),(46,.bool (!v0_3))] [(1,.box 24 [.int .i64 g.1,.sl Y7 g.2]),(4,.box 61 [.int .i64 (g.2.getD st1.toNat (0,0,0,false)).1,.int .i64 (g.2.getD st1.toNat (0,0,0,false)).2.1,.int .i64 (g.2.getD st1.toNat (0,0,0,false)).2.2.1,.bool (g.2.getD st1.toNat (0,0,0,false)).2.2.2])] ?_
          refine zQ h (fun hb22 h=>?_) (fun hb22 h=>?_)
          ·refine zo ?_
           refine zB [(2,.bool false)] [] ?_
           refine zr ?_
           refine ablock_r ?_
           refine athen_r ?_
           obtain rfl:=Option.some.inj h
           rw [← hd8 _ rfl] at ho7
           have h:=ho7
           try simp only at h
           refine athen_r ?_
           refine ablock_r ?_
           refine athen_r ?_
           obtain rfl:=Option.some.inj h
           exact zR [] [] []
          ·refine zk ?_
           refine zo ?_
           obtain ⟨c23,h⟩:=ck_some.1 h
           obtain ⟨c24,h⟩:=ck_some.1 h
           refine zS 5 [(1,.bp 1 0),(4,.bp 4 0),(22,.sl Y7 g.2),(23,.int .i64 (g.2.length:Int)),(24,.int .i64 st1),(50,.sl Y7 (g.2.take st1.toNat)),(51,.int .i64 ((g.2.take st1.toNat).length:Int))] [(1,.box 24 [.int .i64 g.1,.sl Y7 g.2]),(4,.box 61 [.int .i64 (g.2.getD st1.toNat (0,0,0,false)).1,.int .i64 (g.2.getD st1.toNat (0,0,0,false)).2.1,.int .i64 (g.2.getD st1.toNat (0,0,0,false)).2.2.1,.bool (g.2.getD st1.toNat (0,0,0,false)).2.2.2])] ?_
           refine zB [(1,.bp 1 0),(4,.bp 4 0),(22,.sl Y7 g.2),(23,.int .i64 (g.2.length:Int)),(24,.int .i64 st1),(50,.sl Y7 (g.2.take st1.toNat)),(51,.int .i64 ((g.2.take st1.toNat).length:Int)),(52,.int .i64 0)] [(1,.box 24 [.int .i64 g.1,.sl Y7 g.2]),(4,.box 61 [.int .i64 (g.2.getD st1.toNat (0,0,0,false)).1,.int .i64 (g.2.getD st1.toNat (0,0,0,false)).2.1,.int .i64 (g.2.getD st1.toNat (0,0,0,false)).2.2.1,.bool (g.2.getD st1.toNat (0,0,0,false)).2.2.2])] ?_
           refine AW.block ?_
           obtain ⟨rv29,hw25,ho26⟩:=Option.bind_eq_some_iff.1 h
           refine AW.loopO (linealref07_Valid_b2 g st1) (fun st2=>⟨fr [(1,.bp 1 0),(4,.bp 4 0),(22,.sl Y7 g.2),(23,.int .i64 (g.2.length:Int)),(24,.int .i64 st1),(50,.sl Y7 (g.2.take st1.toNat)),(51,.int .i64 ((g.2.take st1.toNat).length:Int)),(52,.int .i64 st2)],hpGet [(1,.box 24 [.int .i64 g.1,.sl Y7 g.2]),(4,.box 61 [.int .i64 (g.2.getD st1.toNat (0,0,0,false)).1,.int .i64 (g.2.getD st1.toNat (0,0,0,false)).2.1,.int .i64 (g.2.getD st1.toNat (0,0,0,false)).2.2.1,.bool (g.2.getD st1.toNat (0,0,0,false)).2.2.2])],gt⟩) 0 hw25 (zL [] [] []) ?_
           as_aux_lemma =>
            intro st2 x28 h hd27
            unfold linealref07_Valid_b2 at h
            refine zo ?_
            refine zB [(1,.bp 1 0),(4,.bp 4 0),(22,.sl Y7 g.2),(23,.int .i64 (g.2.length:Int)),(24,.int .i64 st1),(50,.sl Y7 (g.2.take st1.toNat)),(51,.int .i64 ((g.2.take st1.toNat).length:Int)),(52,.int .i64 st2),(53,.bool (decide (st2 < ((g.2.take st1.toNat).length:Int))))] [(1,.box 24 [.int .i64 g.1,.sl Y7 g.2]),(4,.box 61 [.int .i64 (g.2.getD st1.toNat (0,0,0,false)).1,.int .i64 (g.2.getD st1.toNat (0,0,0,false)).2.1,.int .i64 (g.2.getD st1.toNat (0,0,0,false)).2.2.1,.bool (g.2.getD st1.toNat (0,0,0,false)).2.2.2])] ?_
            refine AW.seq ?_
            refine zQ h (fun hb30 h=>?_) (fun hb30 h=>?_)
            ·refine zk ?_
             refine AW.seq ?_
             refine AW.block ?_
             refine zo ?_
             obtain ⟨c31,h⟩:=ck_some.1 h
             obtain ⟨c32,h⟩:=ck_some.1 h
             refine zB [(1,.bp 1 0),(4,.bp 4 0),(6,.bp 6 0),(22,.sl Y7 g.2),(23,.int .i64 (g.2.length:Int)),(24,.int .i64 st1),(50,.sl Y7 (g.2.take st1.toNat)),(51,.int .i64 ((g.2.take st1.toNat).length:Int)),(52,.int .i64 st2)] [(1,.box 24 [.int .i64 g.1,.sl Y7 g.2]),(4,.box 61 [.int .i64 (g.2.getD st1.toNat (0,0,0,false)).1,.int .i64 (g.2.getD st1.toNat (0,0,0,false)).2.1,.int .i64 (g.2.getD st1.toNat (0,0,0,false)).2.2.1,.bool (g.2.getD st1.toNat (0,0,0,false)).2.2.2]),(6,.box 61 [.int .i64 ((g.2.take st1.toNat).getD st2.toNat (0,0,0,false)).1,.int .i64 ((g.2.take st1.toNat).getD st2.toNat (0,0,0,false)).2.1,.int .i64 ((g.2.take st1.toNat).getD st2.toNat (0,0,0,false)).2.2.1,.bool ((g.2.take st1.toNat).getD st2.toNat (0,0,0,false)).2.2.2])] ?_
             refine zo ?_
             refine zS 2 [(1,.bp 1 0),(4,.bp 4 0),(22,.sl Y7 g.2),(23,.int .i64 (g.2.length:Int)),(24,.int .i64 st1),(50,.sl Y7 (g.2.take st1.toNat)),(51,.int .i64 ((g.2.take st1.toNat).length:Int)),(52,.int .i64 st2),(56,.agg [.int .i64 (g.2.getD st1.toNat (0,0,0,false)).1,.int .i64 (g.2.getD st1.toNat (0,0,0,false)).2.1,.int .i64 (g.2.getD st1.toNat (0,0,0,false)).2.2.1,.bool (g.2.getD st1.toNat (0,0,0,false)).2.2.2]),(57,.agg [.int .i64 ((g.2.take st1.toNat).getD st2.toNat (0,0,0,false)).1,.int .i64 ((g.2.take st1.toNat).getD st2.toNat (0,0,0,false)).2.1,.int .i64 ((g.2.take st1.toNat).getD st2.toNat (0,0,0,false)).2.2.1,.bool ((g.2.take st1.toNat).getD st2.toNat (0,0,0,false)).2.2.2])] [(1,.box 24 [.int .i64 g.1,.sl Y7 g.2]),(4,.box 61 [.int .i64 (g.2.getD st1.toNat (0,0,0,false)).1,.int .i64 (g.2.getD st1.toNat (0,0,0,false)).2.1,.int .i64 (g.2.getD st1.toNat (0,0,0,false)).2.2.1,.bool (g.2.getD st1.toNat (0,0,0,false)).2.2.2])] ?_
             obtain ⟨c33,h⟩:=ck_some.1 h
             obtain ⟨c34,h⟩:=ck_some.1 h
             obtain ⟨c35,h⟩:=ck_some.1 h
             obtain ⟨c36,h⟩:=ck_some.1 h
             obtain ⟨c37,h⟩:=ck_some.1 h
             obtain ⟨c38,h⟩:=ck_some.1 h
             refine AO.aggEq (neg:=false) eqty_61 (by decide) rfl rfl (lx:=[.int .i64 (g.2.getD st1.toNat (0,0,0,false)).1,.int .i64 (g.2.getD st1.toNat (0,0,0,false)).2.1,.int .i64 (g.2.getD st1.toNat (0,0,0,false)).2.2.1,.bool (g.2.getD st1.toNat (0,0,0,false)).2.2.2]) (ly:=[.int .i64 ((g.2.take st1.toNat).getD st2.toNat (0,0,0,false)).1,.int .i64 ((g.2.take st1.toNat).getD st2.toNat (0,0,0,false)).2.1,.int .i64 ((g.2.take st1.toNat).getD st2.toNat (0,0,0,false)).2.2.1,.bool ((g.2.take st1.toNat).getD st2.toNat (0,0,0,false)).2.2.2]) (by first | rfl | (simp only [go_sem,hb1,hb3,hb5,hb11,hb16,hb19,hb22,hb30]) <;> (with_reducible and_intros) <;> first | assumption | rfl | omega | (unfold maxLen; omega)) (by first | rfl | (simp only [go_sem,hb1,hb3,hb5,hb11,hb16,hb19,hb22,hb30]) <;> (with_reducible and_intros) <;> first | assumption | rfl | omega | (unfold maxLen; omega)) (by first | rfl | (simp only [go_sem,hb1,hb3,hb5,hb11,hb16,hb19,hb22,hb30]) <;> (with_reducible and_intros) <;> first | assumption | rfl | omega | (unfold maxLen; omega)) (by first | rfl | (simp only [go_sem,hb1,hb3,hb5,hb11,hb16,hb19,hb22,hb30]) <;> (with_reducible and_intros) <;> first | assumption | rfl | omega | (unfold maxLen; omega)) (by first | assumption | omega | (simp only [go_sem,hb1,hb3,hb5,hb11,hb16,hb19,hb22,hb30]) <;> (with_reducible and_intros) <;> first | assumption | rfl | omega | (unfold maxLen; omega)) (by first | assumption | omega | (simp only [go_sem,hb1,hb3,hb5,hb11,hb16,hb19,hb22,hb30]) <;> (with_reducible and_intros) <;> first | assumption | rfl | omega | (unfold maxLen; omega)) ?_
             refine zT [(1,.bp 1 0),(4,.bp 4 0),(22,.sl Y7 g.2),(23,.int .i64 (g.2.length:Int)),(24,.int .i64 st1),(50,.sl Y7 (g.2.take st1.toNat)),(51,.int .i64 ((g.2.take st1.toNat).length:Int)),(52,.int .i64 st2),(58,.bool (decide ((g.2.getD st1.toNat (0,0,0,false))=((g.2.take st1.toNat).getD st2.toNat (0,0,0,false)))))] [(1,.box 24 [.int .i64 g.1,.sl Y7 g.2]),(4,.box 61 [.int .i64 (g.2.getD st1.toNat (0,0,0,false)).1,.int .i64 (g.2.getD st1.toNat (0,0,0,false)).2.1,.int .i64 (g.2.getD st1.toNat (0,0,0,false)).2.2.1,.bool (g.2.getD st1.toNat (0,0,0,false)).2.2.2])] gt ?_
             refine zB [(1,.bp 1 0),(4,.bp 4 0),(22,.sl Y7 g.2),(23,.int .i64 (g.2.length:Int)),(24,.int .i64 st1),(50,.sl Y7 (g.2.take st1.toNat)),(51,.int .i64 ((g.2.take st1.toNat).length:Int)),(52,.int .i64 st2),(58,.bool (decide ((g.2.getD st1.toNat (0,0,0,false))=((g.2.take st1.toNat).getD st2.toNat (0,0,0,false)))))] [(1,.box 24 [.int .i64 g.1,.sl Y7 g.2]),(4,.box 61 [.int .i64 (g.2.getD st1.toNat (0,0,0,false)).1,.int .i64 (g.2.getD st1.toNat (0,0,0,false)).2.1,.int .i64 (g.2.getD st1.toNat (0,0,0,false)).2.2.1,.bool (g.2.getD st1.toNat (0,0,0,false)).2.2.2])] ?_
             refine zQ h (fun hb39 h=>?_) (fun hb39 h=>?_)
             ·refine zo ?_
              refine zB [(2,.bool false)] [] ?_
              refine AW.ret ?_
              refine ablock_r ?_
              refine athen_r ?_
              obtain rfl:=Option.some.inj h
              rw [← hd27 _ rfl] at ho26
              have h:=ho26
              try simp only at h
              refine athen_r ?_
              refine ablock_r ?_
              refine ablock_r ?_
              refine athen_r ?_
              obtain rfl:=Option.some.inj h
              rw [← hd8 _ rfl] at ho7
              have h:=ho7
              try simp only at h
              refine athen_r ?_
              refine ablock_r ?_
              refine athen_r ?_
              obtain rfl:=Option.some.inj h
              exact zR [] [] []
             ·refine zm ?_
              refine athen_n ?_
              refine AW.ops ?_
              obtain ⟨c40,h⟩:=ck_some.1 h
              refine zA [(1,.bp 1 0),(4,.bp 4 0),(22,.sl Y7 g.2),(23,.int .i64 (g.2.length:Int)),(24,.int .i64 st1),(50,.sl Y7 (g.2.take st1.toNat)),(51,.int .i64 ((g.2.take st1.toNat).length:Int)),(52,.int .i64 (st2 + 1))] [(1,.box 24 [.int .i64 g.1,.sl Y7 g.2]),(4,.box 61 [.int .i64 (g.2.getD st1.toNat (0,0,0,false)).1,.int .i64 (g.2.getD st1.toNat (0,0,0,false)).2.1,.int .i64 (g.2.getD st1.toNat (0,0,0,false)).2.2.1,.bool (g.2.getD st1.toNat (0,0,0,false)).2.2.2])] ?_
              obtain rfl:=Option.some.inj h
              exact ⟨_,rfl,zL [] [] []⟩
            ·refine AW.exit ?_
             refine athen_e ?_
             obtain rfl:=Option.some.inj h
             rw [← hd27 _ rfl] at ho26
             have h:=ho26
             try simp only at h
             refine athen_e ?_
             refine ablock_s ?_
             refine ablock_n ?_
             refine athen_n ?_
             exact AW.weaken (zL [] [] []) (hk_linealref07_Valid_k2 () h)
      ·refine AW.exit ?_
       refine athen_e ?_
       obtain rfl:=Option.some.inj h
       rw [← hd8 _ rfl] at ho7
       have h:=ho7
       try simp only at h
       refine athen_e ?_
       refine ablock_s ?_
       refine athen_n ?_
       exact AW.weaken (zL [] [] []) (hk_linealref07_Valid_k1 () h)
theorem hc_linealref07_IsMove (g:Int×(List (Int×Int×Int×Bool))) (i:Int) {r:Bool} (h:linealref07_IsMove g i=some r):HC Try.prog 83 [] [.agg [.int .i64 g.1,.sl Y7 g.2],.int .i64 i] [] (.bool r):=by
 unfold linealref07_IsMove at h
 refine zH Try.func83 [.tmp 4] 14 ?_
 refine zo ?_
 refine zB [(1,.int .i64 i),(2,.bp 2 0)] [(2,.box 24 [.int .i64 g.1,.sl Y7 g.2])] ?_
 refine zo ?_
 refine zS 3 [(1,.int .i64 i),(2,.bp 2 0),(7,.bool (decide (0≤i)))] [(2,.box 24 [.int .i64 g.1,.sl Y7 g.2])] ?_
 rcases zI h with ⟨hb1,h⟩ | ⟨hb1,h⟩
 ·refine zS 5 [(7,.bool true),(12,.bool (decide (i < (g.2.length:Int))))] [] ?_
  refine zB [(4,.bool (decide (i < (g.2.length:Int))))] [] ?_
  refine AW.ret ?_
  obtain rfl:=Option.some.inj h
  exact zR [] [] []
 ·refine zS 4 [(7,.bool false),(8,.cv (undef)),(11,.cv (undef))] [] ?_
  refine zB [(4,.bool false)] [] ?_
  refine AW.ret ?_
  obtain rfl:=Option.some.inj h
  exact zR [] [] []
theorem hc_linealref07_isPath (g:Int×(List (Int×Int×Int×Bool))) (path:List Int) {r:Bool} (h:linealref07_isPath g path=some r):HC Try.prog 58 [] [.agg [.int .i64 g.1,.sl Y7 g.2],.sl (.int .i64) path] [] (.bool r):=by
 unfold linealref07_isPath at h
 refine zH Try.func58 [.tmp 4] 45 ?_
 refine zo ?_
 refine zB [(1,.sl (.int .i64) path),(2,.bp 2 0)] [(2,.box 24 [.int .i64 g.1,.sl Y7 g.2])] ?_
 refine AW.seq ?_
 refine zo ?_
 refine zB [(1,.sl (.int .i64) path),(2,.bp 2 0),(9,.bool (decide (1000 < (path.length:Int))))] [(2,.box 24 [.int .i64 g.1,.sl Y7 g.2])] ?_
 refine zQ h (fun hb1 h=>?_) (fun hb1 h=>?_)
 ·refine zo ?_
  refine zB [(4,.bool false)] [] ?_
  refine zr ?_
  obtain rfl:=Option.some.inj h
  exact zR [] [] []
 ·refine zk ?_
  refine AW.have1 (fun _:Unit=>linealref07_isPath_k1=some r) (fun _=>⟨fr [],hpGet [],gt⟩) (fun _ h=>?_) (fun hk_linealref07_isPath_k1=>?_)
  ·as_aux_lemma =>
    unfold linealref07_isPath_k1 at h
    refine zo ?_
    refine zB [(4,.bool true)] [] ?_
    refine AW.ret ?_
    obtain rfl:=Option.some.inj h
    exact zR [] [] []
  ·refine AW.seq ?_
   refine zo ?_
   refine zB [(1,.sl (.int .i64) path),(2,.bp 2 0),(10,.sl (.int .i64) path),(11,.int .i64 (path.length:Int)),(12,.int .i64 0)] [(2,.box 24 [.int .i64 g.1,.sl Y7 g.2])] ?_
   refine AW.block ?_
   obtain ⟨rv6,hw2,ho3⟩:=Option.bind_eq_some_iff.1 h
   refine AW.loopO (linealref07_isPath_b1 g path) (fun st1=>⟨fr [(1,.sl (.int .i64) path),(2,.bp 2 0),(10,.sl (.int .i64) path),(11,.int .i64 (path.length:Int)),(12,.int .i64 st1)],hpGet [(2,.box 24 [.int .i64 g.1,.sl Y7 g.2])],gt⟩) 0 hw2 (zL [] [] []) ?_
   as_aux_lemma =>
    intro st1 x5 h hd4
    unfold linealref07_isPath_b1 at h
    refine zo ?_
    refine zB [(1,.sl (.int .i64) path),(2,.bp 2 0),(10,.sl (.int .i64) path),(11,.int .i64 (path.length:Int)),(12,.int .i64 st1),(13,.bool (decide (st1 < (path.length:Int))))] [(2,.box 24 [.int .i64 g.1,.sl Y7 g.2])] ?_
    refine AW.seq ?_
    refine zQ h (fun hb7 h=>?_) (fun hb7 h=>?_)
    ·refine zk ?_
     refine AW.seq ?_
     refine AW.block ?_
     refine zo ?_
     obtain ⟨c8,h⟩:=ck_some.1 h
     obtain ⟨c9,h⟩:=ck_some.1 h
     refine zB [(1,.sl (.int .i64) path),(2,.bp 2 0),(5,.int .i64 st1),(6,.int .i64 (path.getD st1.toNat 0)),(10,.sl (.int .i64) path),(11,.int .i64 (path.length:Int)),(12,.int .i64 st1)] [(2,.box 24 [.int .i64 g.1,.sl Y7 g.2])] ?_
     refine AW.seq ?_
     refine AW.draw tab_ok mixed_ok [] [] (by decide) (lex_fast (by kernel_rfl)) ?_
     as_aux_lemma =>
      refine adops_cut 2 (fun K' hK10=>?_)
      try dsimp only [List.drop_succ_cons,List.drop_zero,List.take_succ_cons,List.take_zero]
      simp only [go_sem,hb1,hb7]
      repeat with_reducible refine zN ?_
      refine hK10 _ ?_
      as_aux_lemma =>
       obtain ⟨v0,hv11,h⟩:=Option.bind_eq_some_iff.1 h
       refine adops.call (by first | trivial | rfl) rfl rfl rfl (fun _ h=>h) [] [] (hc_linealref07_IsMove g (path.getD st1.toNat 0) hv11) rfl (by (simp only [go_sem,hb1,hb7]) <;> (with_reducible and_intros) <;> first | assumption | rfl | omega | (unfold maxLen; omega)) (by (simp only [go_sem,hb1,hb7]) <;> (with_reducible and_intros) <;> first | assumption | rfl | omega | (unfold maxLen; omega)) rfl ?_
       refine adops_cut 2 (fun K' hK12=>?_)
       try dsimp only [List.drop_succ_cons,List.drop_zero,List.take_succ_cons,List.take_zero]
       simp only [go_sem,hb1,hb7]
       repeat with_reducible refine zN ?_
       refine hK12 _ ?_
       as_aux_lemma =>
        rcases zI h with ⟨hb13,h⟩ | ⟨hb13,h⟩
        ·simp only [hb13]
         as_aux_lemma =>
          refine adops_cut 4 (fun K' hK14=>?_)
          try dsimp only [List.drop_succ_cons,List.drop_zero,List.take_succ_cons,List.take_zero]
          simp only [go_sem,hb1,hb7,hb13]
          repeat with_reducible refine zN ?_
          refine hK14 _ ?_
          as_aux_lemma =>
           refine adops_cut 4 (fun K' hK15=>?_)
           try dsimp only [List.drop_succ_cons,List.drop_zero,List.take_succ_cons,List.take_zero]
           simp only [go_sem,hb1,hb7,hb13]
           repeat with_reducible refine zN ?_
           refine hK15 _ ?_
           as_aux_lemma =>
            refine adops_cut 4 (fun K' hK16=>?_)
            try dsimp only [List.drop_succ_cons,List.drop_zero,List.take_succ_cons,List.take_zero]
            simp only [go_sem,hb1,hb7,hb13]
            repeat with_reducible refine zN ?_
            refine hK16 _ ?_
            as_aux_lemma =>
             refine adops_cut 4 (fun K' hK17=>?_)
             try dsimp only [List.drop_succ_cons,List.drop_zero,List.take_succ_cons,List.take_zero]
             simp only [go_sem,hb1,hb7,hb13]
             repeat with_reducible refine zN ?_
             refine hK17 _ ?_
             as_aux_lemma =>
              refine adops_cut 4 (fun K' hK18=>?_)
              try dsimp only [List.drop_succ_cons,List.drop_zero,List.take_succ_cons,List.take_zero]
              simp only [go_sem,hb1,hb7,hb13]
              repeat with_reducible refine zN ?_
              refine hK18 _ ?_
              as_aux_lemma =>
               refine adops_cut 2 (fun K' hK19=>?_)
               try dsimp only [List.drop_succ_cons,List.drop_zero,List.take_succ_cons,List.take_zero]
               simp only [go_sem,hb1,hb7,hb13]
               repeat with_reducible refine zN ?_
               refine hK19 _ ?_
               refine adops_nil ?_
               refine athen_n ?_
               refine zV [(1,.sl (.int .i64) path),(2,.bp 2 0),(10,.sl (.int .i64) path),(11,.int .i64 (path.length:Int)),(12,.int .i64 st1),(43,.bool true)] [(2,.box 24 [.int .i64 g.1,.sl Y7 g.2])] gt ?_
               as_aux_lemma =>
                refine AW.cond (b:=true) rfl (fun _=>?_) (fun hb20=>by cases hb20)
                refine zo ?_
                refine zB [(4,.bool false)] [] ?_
                refine AW.ret ?_
                refine ablock_r ?_
                refine athen_r ?_
                obtain rfl:=Option.some.inj h
                rw [← hd4 _ rfl] at ho3
                have h:=ho3
                try simp only at h
                refine athen_r ?_
                refine ablock_r ?_
                refine athen_r ?_
                obtain rfl:=Option.some.inj h
                exact zR [] [] []
        ·simp only [hb13]
         as_aux_lemma =>
          refine adops_cut 3 (fun K' hK21=>?_)
          try dsimp only [List.drop_succ_cons,List.drop_zero,List.take_succ_cons,List.take_zero]
          simp only [go_sem,hb1,hb7,hb13]
          repeat with_reducible refine zN ?_
          refine hK21 _ ?_
          as_aux_lemma =>
           rcases zI h with ⟨hb22,h⟩ | ⟨hb22,h⟩
           ·simp only [hb22]
            as_aux_lemma =>
             obtain ⟨c24,h⟩:=ck_some.1 h
             obtain ⟨c25,h⟩:=ck_some.1 h
             obtain ⟨c26,h⟩:=ck_some.1 h
             refine adops_cut 6 (fun K' hK23=>?_)
             try dsimp only [List.drop_succ_cons,List.drop_zero,List.take_succ_cons,List.take_zero]
             simp only [go_sem,hb1,hb7,hb13,hb22]
             repeat with_reducible refine zN ?_
             refine hK23 _ ?_
             as_aux_lemma =>
              obtain ⟨c28,h⟩:=ck_some.1 h
              obtain ⟨c29,h⟩:=ck_some.1 h
              refine adops_cut 6 (fun K' hK27=>?_)
              try dsimp only [List.drop_succ_cons,List.drop_zero,List.take_succ_cons,List.take_zero]
              simp only [go_sem,hb1,hb7,hb13,hb22]
              repeat with_reducible refine zN ?_
              refine hK27 _ ?_
              as_aux_lemma =>
               obtain ⟨c31,h⟩:=ck_some.1 h
               obtain ⟨c32,h⟩:=ck_some.1 h
               refine adops_cut 6 (fun K' hK30=>?_)
               try dsimp only [List.drop_succ_cons,List.drop_zero,List.take_succ_cons,List.take_zero]
               simp only [go_sem,hb1,hb7,hb13,hb22]
               repeat with_reducible refine zN ?_
               refine hK30 _ ?_
               as_aux_lemma =>
                refine adops_cut 1 (fun K' hK33=>?_)
                try dsimp only [List.drop_succ_cons,List.drop_zero,List.take_succ_cons,List.take_zero]
                simp only [go_sem,hb1,hb7,hb13,hb22]
                repeat with_reducible refine zN ?_
                refine hK33 _ ?_
                refine adops_nil ?_
                refine athen_n ?_
                refine zV [(1,.sl (.int .i64) path),(2,.bp 2 0),(10,.sl (.int .i64) path),(11,.int .i64 (path.length:Int)),(12,.int .i64 st1),(43,.bool (!(decide ((g.2.getD (path.getD (st1 - 1).toNat 0).toNat (0,0,0,false)).2.2.1=(g.2.getD (path.getD st1.toNat 0).toNat (0,0,0,false)).1))))] [(2,.box 24 [.int .i64 g.1,.sl Y7 g.2])] gt ?_
                as_aux_lemma =>
                 refine zQ h (fun hb34 h=>?_) (fun hb34 h=>?_)
                 ·refine zo ?_
                  refine zB [(4,.bool false)] [] ?_
                  refine AW.ret ?_
                  refine ablock_r ?_
                  refine athen_r ?_
                  obtain rfl:=Option.some.inj h
                  rw [← hd4 _ rfl] at ho3
                  have h:=ho3
                  try simp only at h
                  refine athen_r ?_
                  refine ablock_r ?_
                  refine athen_r ?_
                  obtain rfl:=Option.some.inj h
                  exact zR [] [] []
                 ·refine zm ?_
                  refine athen_n ?_
                  refine AW.ops ?_
                  obtain ⟨c35,h⟩:=ck_some.1 h
                  refine zA [(1,.sl (.int .i64) path),(2,.bp 2 0),(10,.sl (.int .i64) path),(11,.int .i64 (path.length:Int)),(12,.int .i64 (st1 + 1))] [(2,.box 24 [.int .i64 g.1,.sl Y7 g.2])] ?_
                  obtain rfl:=Option.some.inj h
                  exact ⟨_,rfl,zL [] [] []⟩
           ·simp only [hb22]
            as_aux_lemma =>
             refine adops_cut 4 (fun K' hK36=>?_)
             try dsimp only [List.drop_succ_cons,List.drop_zero,List.take_succ_cons,List.take_zero]
             simp only [go_sem,hb1,hb7,hb13,hb22]
             repeat with_reducible refine zN ?_
             refine hK36 _ ?_
             as_aux_lemma =>
              refine adops_cut 4 (fun K' hK37=>?_)
              try dsimp only [List.drop_succ_cons,List.drop_zero,List.take_succ_cons,List.take_zero]
              simp only [go_sem,hb1,hb7,hb13,hb22]
              repeat with_reducible refine zN ?_
              refine hK37 _ ?_
              as_aux_lemma =>
               refine adops_cut 4 (fun K' hK38=>?_)
               try dsimp only [List.drop_succ_cons,List.drop_zero,List.take_succ_cons,List.take_zero]
               simp only [go_sem,hb1,hb7,hb13,hb22]
               repeat with_reducible refine zN ?_
               refine hK38 _ ?_
               as_aux_lemma =>
                refine adops_cut 4 (fun K' hK39=>?_)
                try dsimp only [List.drop_succ_cons,List.drop_zero,List.take_succ_cons,List.take_zero]
                simp only [go_sem,hb1,hb7,hb13,hb22]
                repeat with_reducible refine zN ?_
                refine hK39 _ ?_
                as_aux_lemma =>
                 refine adops_cut 3 (fun K' hK40=>?_)
                 try dsimp only [List.drop_succ_cons,List.drop_zero,List.take_succ_cons,List.take_zero]
                 simp only [go_sem,hb1,hb7,hb13,hb22]
                 repeat with_reducible refine zN ?_
                 refine hK40 _ ?_
                 refine adops_nil ?_
                 refine athen_n ?_
                 refine zV [(1,.sl (.int .i64) path),(2,.bp 2 0),(10,.sl (.int .i64) path),(11,.int .i64 (path.length:Int)),(12,.int .i64 st1),(43,.bool false)] [(2,.box 24 [.int .i64 g.1,.sl Y7 g.2])] gt ?_
                 as_aux_lemma =>
                  refine AW.cond (b:=false) rfl (fun hb41=>by cases hb41) (fun _=>?_)
                  refine zm ?_
                  refine athen_n ?_
                  refine AW.ops ?_
                  obtain ⟨c42,h⟩:=ck_some.1 h
                  refine zA [(1,.sl (.int .i64) path),(2,.bp 2 0),(10,.sl (.int .i64) path),(11,.int .i64 (path.length:Int)),(12,.int .i64 (st1 + 1))] [(2,.box 24 [.int .i64 g.1,.sl Y7 g.2])] ?_
                  obtain rfl:=Option.some.inj h
                  exact ⟨_,rfl,zL [] [] []⟩
    ·refine AW.exit ?_
     refine athen_e ?_
     obtain rfl:=Option.some.inj h
     rw [← hd4 _ rfl] at ho3
     have h:=ho3
     try simp only at h
     refine athen_e ?_
     refine ablock_s ?_
     refine athen_n ?_
     exact AW.weaken (zL [] [] []) (hk_linealref07_isPath_k1 () h)
theorem hc_linealref07_reached (g:Int×(List (Int×Int×Int×Bool))) {r:(List Bool)} (h:linealref07_reached g=some r):HC Try.prog 65 [] [.agg [.int .i64 g.1,.sl Y7 g.2]] [(2000,.arr 4 .bool r)] (.own 2000):=by
 unfold linealref07_reached at h
 refine zH Try.func65 [.tmp 2] 41 ?_
 refine zo ?_
 refine zB [(1,.bp 1 0)] [(1,.box 24 [.int .i64 g.1,.sl Y7 g.2])] ?_
 refine zo ?_
 obtain ⟨c1,h⟩:=ck_some.1 h
 obtain ⟨c2,h⟩:=ck_some.1 h
 refine zB [(1,.bp 1 0),(3,.own 8)] [(1,.box 24 [.int .i64 g.1,.sl Y7 g.2]),(8,.arr 4 .bool (List.replicate g.1.toNat (false:Bool)))] ?_
 refine zo ?_
 obtain ⟨c3,h⟩:=ck_some.1 h
 refine zB [(1,.bp 1 0),(3,.own 8)] [(1,.box 24 [.int .i64 g.1,.sl Y7 g.2]),(8,.arr 4 .bool ((List.replicate g.1.toNat (false:Bool)).set 0 true))] ?_
 refine AW.have1 (fun b2_2:(List Bool)=>linealref07_reached_k1 b2_2=some r) (fun b2_2=>⟨fr [(3,.own 8)],hpGet [(8,.arr 4 .bool b2_2)],gt⟩) (fun b2_2 h=>?_) (fun hk_linealref07_reached_k1=>?_)
 ·as_aux_lemma =>
   unfold linealref07_reached_k1 at h
   refine zo ?_
   refine zB [(2,.own 8)] [(8,.arr 4 .bool b2_2)] ?_
   refine AW.ret ?_
   obtain rfl:=Option.some.inj h
   exact zR [] [] [(2000,8)]
 ·refine AW.seq ?_
  refine zo ?_
  refine zB [(1,.bp 1 0),(3,.own 8),(12,.int .i64 g.1),(13,.int .i64 0)] [(1,.box 24 [.int .i64 g.1,.sl Y7 g.2]),(8,.arr 4 .bool ((List.replicate g.1.toNat (false:Bool)).set 0 true))] ?_
  refine AW.block ?_
  obtain ⟨rv8,hw4,ho5⟩:=Option.bind_eq_some_iff.1 h
  refine AW.loopO (linealref07_reached_b1 g) (fun st1=>⟨fr [(1,.bp 1 0),(3,.own 8),(12,.int .i64 g.1),(13,.int .i64 st1.2)],hpGet [(1,.box 24 [.int .i64 g.1,.sl Y7 g.2]),(8,.arr 4 .bool st1.1)],gt⟩) (((List.replicate g.1.toNat (false:Bool)).set 0 true),0) hw4 (zL [] [] []) ?_
  as_aux_lemma =>
   intro st1 x7 h hd6
   unfold linealref07_reached_b1 at h
   refine zo ?_
   refine zB [(1,.bp 1 0),(3,.own 8),(12,.int .i64 g.1),(13,.int .i64 st1.2),(14,.bool (decide (st1.2 < g.1)))] [(1,.box 24 [.int .i64 g.1,.sl Y7 g.2]),(8,.arr 4 .bool st1.1)] ?_
   refine AW.seq ?_
   refine zQ h (fun hb9 h=>?_) (fun hb9 h=>?_)
   ·refine zk ?_
    refine AW.have1 (fun b2:(List Bool)=>linealref07_reached_k2 st1 b2=some x7) (fun b2=>⟨fr [(1,.bp 1 0),(3,.own 8),(12,.int .i64 g.1),(13,.int .i64 st1.2)],hpGet [(1,.box 24 [.int .i64 g.1,.sl Y7 g.2]),(8,.arr 4 .bool b2)],gt⟩) (fun b2 h=>?_) (fun hk_linealref07_reached_k2=>?_)
    ·as_aux_lemma =>
      unfold linealref07_reached_k2 at h
      refine AW.ops ?_
      obtain ⟨c10,h⟩:=ck_some.1 h
      refine zA [(1,.bp 1 0),(3,.own 8),(12,.int .i64 g.1),(13,.int .i64 (st1.2 + 1))] [(1,.box 24 [.int .i64 g.1,.sl Y7 g.2]),(8,.arr 4 .bool b2)] ?_
      obtain rfl:=Option.some.inj h
      exact ⟨_,rfl,zL [] [] []⟩
    ·refine AW.seq ?_
     refine AW.block ?_
     refine zo ?_
     refine zB [(1,.bp 1 0),(3,.own 8),(12,.int .i64 g.1),(13,.int .i64 st1.2),(16,.sl Y7 g.2),(17,.int .i64 (g.2.length:Int)),(18,.int .i64 0)] [(1,.box 24 [.int .i64 g.1,.sl Y7 g.2]),(8,.arr 4 .bool st1.1)] ?_
     refine AW.block ?_
     obtain ⟨rv15,hw11,ho12⟩:=Option.bind_eq_some_iff.1 h
     refine AW.loopO (linealref07_reached_b2 g) (fun st2=>⟨fr [(1,.bp 1 0),(3,.own 8),(12,.int .i64 g.1),(13,.int .i64 st1.2),(16,.sl Y7 g.2),(17,.int .i64 (g.2.length:Int)),(18,.int .i64 st2.2)],hpGet [(1,.box 24 [.int .i64 g.1,.sl Y7 g.2]),(8,.arr 4 .bool st2.1)],gt⟩) (st1.1,0) hw11 (zL [] [] []) ?_
     as_aux_lemma =>
      intro st2 x14 h hd13
      unfold linealref07_reached_b2 at h
      refine zo ?_
      refine zB [(1,.bp 1 0),(3,.own 8),(12,.int .i64 g.1),(13,.int .i64 st1.2),(16,.sl Y7 g.2),(17,.int .i64 (g.2.length:Int)),(18,.int .i64 st2.2),(19,.bool (decide (st2.2 < (g.2.length:Int))))] [(1,.box 24 [.int .i64 g.1,.sl Y7 g.2]),(8,.arr 4 .bool st2.1)] ?_
      refine AW.seq ?_
      refine zQ h (fun hb16 h=>?_) (fun hb16 h=>?_)
      ·refine zk ?_
       refine AW.seq ?_
       refine AW.block ?_
       refine zo ?_
       obtain ⟨c17,h⟩:=ck_some.1 h
       obtain ⟨c18,h⟩:=ck_some.1 h
       refine zB [(1,.bp 1 0),(3,.own 8),(5,.bp 5 0),(12,.int .i64 g.1),(13,.int .i64 st1.2),(16,.sl Y7 g.2),(17,.int .i64 (g.2.length:Int)),(18,.int .i64 st2.2)] [(1,.box 24 [.int .i64 g.1,.sl Y7 g.2]),(5,.box 61 [.int .i64 (g.2.getD st2.2.toNat (0,0,0,false)).1,.int .i64 (g.2.getD st2.2.toNat (0,0,0,false)).2.1,.int .i64 (g.2.getD st2.2.toNat (0,0,0,false)).2.2.1,.bool (g.2.getD st2.2.toNat (0,0,0,false)).2.2.2]),(8,.arr 4 .bool st2.1)] ?_
       refine AW.draw tab_ok mixed_ok [(16,[8])] [] (by decide) (lex_fast (by kernel_rfl)) ?_
       as_aux_lemma =>
        refine adops_cut 6 (fun K' hK19=>?_)
        try dsimp only [List.drop_succ_cons,List.drop_zero,List.take_succ_cons,List.take_zero]
        simp only [go_sem,hb9,hb16]
        repeat with_reducible refine zN ?_
        refine hK19 _ ?_
        as_aux_lemma =>
         obtain ⟨c21,h⟩:=ck_some.1 h
         obtain ⟨c22,h⟩:=ck_some.1 h
         refine adops_cut 3 (fun K' hK20=>?_)
         try dsimp only [List.drop_succ_cons,List.drop_zero,List.take_succ_cons,List.take_zero]
         simp only [go_sem,hb9,hb16]
         repeat with_reducible refine zN ?_
         refine hK20 _ ?_
         as_aux_lemma =>
          rcases zI h with ⟨hb23,h⟩ | ⟨hb23,h⟩
          ·simp only [hb23]
           as_aux_lemma =>
            refine adops_cut 4 (fun K' hK24=>?_)
            try dsimp only [List.drop_succ_cons,List.drop_zero,List.take_succ_cons,List.take_zero]
            simp only [go_sem,hb9,hb16,hb23]
            repeat with_reducible refine zN ?_
            refine hK24 _ ?_
            as_aux_lemma =>
             obtain ⟨c26,h⟩:=ck_some.1 h
             obtain ⟨c27,h⟩:=ck_some.1 h
             refine adops_cut 4 (fun K' hK25=>?_)
             try dsimp only [List.drop_succ_cons,List.drop_zero,List.take_succ_cons,List.take_zero]
             simp only [go_sem,hb9,hb16,hb23]
             repeat with_reducible refine zN ?_
             refine hK25 _ ?_
             refine adops_nil ?_
             refine ablock_n ?_
             refine athen_n ?_
             refine zV [(1,.bp 1 0),(3,.own 8),(12,.int .i64 g.1),(13,.int .i64 st1.2),(16,.sl Y7 g.2),(17,.int .i64 (g.2.length:Int)),(18,.int .i64 st2.2)] [(1,.box 24 [.int .i64 g.1,.sl Y7 g.2]),(8,.arr 4 .bool (st2.1.set (g.2.getD st2.2.toNat (0,0,0,false)).2.2.1.toNat true))] gt ?_
             as_aux_lemma =>
              refine AW.ops ?_
              obtain ⟨c28,h⟩:=ck_some.1 h
              refine zA [(1,.bp 1 0),(3,.own 8),(12,.int .i64 g.1),(13,.int .i64 st1.2),(16,.sl Y7 g.2),(17,.int .i64 (g.2.length:Int)),(18,.int .i64 (st2.2 + 1))] [(1,.box 24 [.int .i64 g.1,.sl Y7 g.2]),(8,.arr 4 .bool (st2.1.set (g.2.getD st2.2.toNat (0,0,0,false)).2.2.1.toNat true))] ?_
              obtain rfl:=Option.some.inj h
              exact ⟨_,rfl,zL [] [] []⟩
          ·simp only [hb23]
           as_aux_lemma =>
            obtain ⟨c30,h⟩:=ck_some.1 h
            obtain ⟨c31,h⟩:=ck_some.1 h
            refine adops_cut 6 (fun K' hK29=>?_)
            try dsimp only [List.drop_succ_cons,List.drop_zero,List.take_succ_cons,List.take_zero]
            simp only [go_sem,hb9,hb16,hb23]
            repeat with_reducible refine zN ?_
            refine hK29 _ ?_
            as_aux_lemma =>
             obtain ⟨c33,h⟩:=ck_some.1 h
             obtain ⟨c34,h⟩:=ck_some.1 h
             refine adops_cut 2 (fun K' hK32=>?_)
             try dsimp only [List.drop_succ_cons,List.drop_zero,List.take_succ_cons,List.take_zero]
             simp only [go_sem,hb9,hb16,hb23]
             repeat with_reducible refine zN ?_
             refine hK32 _ ?_
             refine adops_nil ?_
             refine ablock_n ?_
             refine athen_n ?_
             refine zV [(1,.bp 1 0),(3,.own 8),(12,.int .i64 g.1),(13,.int .i64 st1.2),(16,.sl Y7 g.2),(17,.int .i64 (g.2.length:Int)),(18,.int .i64 st2.2)] [(1,.box 24 [.int .i64 g.1,.sl Y7 g.2]),(8,.arr 4 .bool (st2.1.set (g.2.getD st2.2.toNat (0,0,0,false)).2.2.1.toNat (st2.1.getD (g.2.getD st2.2.toNat (0,0,0,false)).1.toNat false)))] gt ?_
             as_aux_lemma =>
              refine AW.ops ?_
              obtain ⟨c35,h⟩:=ck_some.1 h
              refine zA [(1,.bp 1 0),(3,.own 8),(12,.int .i64 g.1),(13,.int .i64 st1.2),(16,.sl Y7 g.2),(17,.int .i64 (g.2.length:Int)),(18,.int .i64 (st2.2 + 1))] [(1,.box 24 [.int .i64 g.1,.sl Y7 g.2]),(8,.arr 4 .bool (st2.1.set (g.2.getD st2.2.toNat (0,0,0,false)).2.2.1.toNat (st2.1.getD (g.2.getD st2.2.toNat (0,0,0,false)).1.toNat false)))] ?_
              obtain rfl:=Option.some.inj h
              exact ⟨_,rfl,zL [] [] []⟩
      ·refine AW.exit ?_
       refine athen_e ?_
       obtain rfl:=Option.some.inj h
       rw [← hd13 _ rfl] at ho12
       have h:=ho12
       refine athen_e ?_
       refine ablock_s ?_
       refine ablock_n ?_
       refine athen_n ?_
       exact AW.weaken (zL [] [] []) (hk_linealref07_reached_k2 _ h)
   ·refine AW.exit ?_
    refine athen_e ?_
    obtain rfl:=Option.some.inj h
    rw [← hd6 _ rfl] at ho5
    have h:=ho5
    refine athen_e ?_
    refine ablock_s ?_
    refine athen_n ?_
    exact AW.weaken (zL [] [] []) (hk_linealref07_reached_k1 _ h)
theorem hc_linealref07_asked (g:Int×(List (Int×Int×Int×Bool))) (claim:Int) (thread:Int) {r:Int} (h:linealref07_asked g claim thread=some r):HC Try.prog 73 [] [.agg [.int .i64 g.1,.sl Y7 g.2],.int .i64 claim,.int .i64 thread] [] (.int .i64 r):=by
 unfold linealref07_asked at h
 refine zH Try.func73 [.tmp 6] 29 ?_
 refine zo ?_
 refine zB [(1,.int .i64 claim),(2,.int .i64 thread),(3,.bp 3 0)] [(3,.box 24 [.int .i64 g.1,.sl Y7 g.2])] ?_
 refine AW.seq ?_
 refine zo ?_
 refine zS 1 [(1,.int .i64 claim),(2,.int .i64 thread),(7,.agg [.int .i64 g.1,.sl Y7 g.2])] [] ?_
 obtain ⟨v0,hv1,h⟩:=Option.bind_eq_some_iff.1 h
 refine zC [] [] (hc_linealref07_Valid g hv1) [(1,.int .i64 claim),(2,.int .i64 thread),(8,.bool v0)] [] ?_
 refine zB [(1,.int .i64 claim),(2,.int .i64 thread),(9,.bool (!v0))] [] ?_
 refine zQ h (fun hb2 h=>?_) (fun hb2 h=>?_)
 ·refine zo ?_
  refine zB [(6,.int .i64 70)] [] ?_
  refine zr ?_
  obtain rfl:=Option.some.inj h
  exact zR [] [] []
 ·refine zk ?_
  refine AW.seq ?_
  refine zo ?_
  refine zS 3 [(1,.int .i64 claim),(2,.int .i64 thread),(12,.bool (decide (claim < 0)))] [] ?_
  rcases zI h with ⟨hb3,h⟩ | ⟨hb3,h⟩
  ·refine zS 5 [(1,.int .i64 claim),(2,.int .i64 thread),(16,.bool true),(17,.cv (undef))] [] ?_
   refine zS 5 [(2,.int .i64 thread),(21,.bool true),(22,.cv (undef))] [] ?_
   refine zS 4 [(21,.bool true),(24,.cv (undef)),(26,.cv (undef))] [] ?_
   refine zB [(28,.bool true)] [] ?_
   refine AW.cond (b:=true) rfl (fun _=>?_) (fun hb4=>by cases hb4)
   refine zo ?_
   refine zB [(6,.int .i64 2)] [] ?_
   refine zr ?_
   obtain rfl:=Option.some.inj h
   exact zR [] [] []
  ·refine zS 4 [(1,.int .i64 claim),(2,.int .i64 thread),(16,.bool (decide (2 < claim)))] [] ?_
   rcases zI h with ⟨hb5,h⟩ | ⟨hb5,h⟩
   ·refine zS 5 [(1,.int .i64 claim),(2,.int .i64 thread),(21,.bool true)] [] ?_
    refine zS 4 [(21,.bool true),(24,.cv (undef)),(25,.cv (undef))] [] ?_
    refine zB [(28,.bool true)] [] ?_
    refine AW.cond (b:=true) rfl (fun _=>?_) (fun hb6=>by cases hb6)
    refine zo ?_
    refine zB [(6,.int .i64 2)] [] ?_
    refine zr ?_
    obtain rfl:=Option.some.inj h
    exact zR [] [] []
   ·refine zS 1 [(1,.int .i64 claim),(2,.int .i64 thread),(16,.bool false),(17,.int .i64 thread)] [] ?_
    obtain ⟨v0_2,hv7,h⟩:=Option.bind_eq_some_iff.1 h
    refine zG [] [] (hc_linealref07_IsThread thread hv7) [(1,.int .i64 claim),(2,.int .i64 thread),(16,.bool false),(18,.bool v0_2)] [] ?_
    refine zS 3 [(1,.int .i64 claim),(2,.int .i64 thread),(21,.bool (!v0_2))] [] ?_
    rcases zI h with ⟨hb8,h⟩ | ⟨hb8,h⟩
    ·refine zS 4 [(21,.bool true),(24,.cv (undef)),(25,.cv (undef))] [] ?_
     refine zB [(28,.bool true)] [] ?_
     refine AW.cond (b:=true) rfl (fun _=>?_) (fun hb9=>by cases hb9)
     refine zo ?_
     refine zB [(6,.int .i64 2)] [] ?_
     refine zr ?_
     obtain rfl:=Option.some.inj h
     exact zR [] [] []
    ·refine zS 3 [(2,.int .i64 thread),(21,.bool false),(24,.bool (decide (claim=0)))] [] ?_
     rcases zI h with ⟨hb10,h⟩ | ⟨hb10,h⟩
     ·refine zB [(28,.bool (!(decide (thread=0))))] [] ?_
      refine zQ h (fun hb11 h=>?_) (fun hb11 h=>?_)
      ·refine zo ?_
       refine zB [(6,.int .i64 2)] [] ?_
       refine zr ?_
       obtain rfl:=Option.some.inj h
       exact zR [] [] []
      ·refine zk ?_
       refine zo ?_
       refine zB [(6,.int .i64 0)] [] ?_
       refine AW.ret ?_
       obtain rfl:=Option.some.inj h
       exact zR [] [] []
     ·refine zB [(28,.bool false)] [] ?_
      refine AW.cond (b:=false) rfl (fun hb12=>by cases hb12) (fun _=>?_)
      refine zk ?_
      refine zo ?_
      refine zB [(6,.int .i64 0)] [] ?_
      refine AW.ret ?_
      obtain rfl:=Option.some.inj h
      exact zR [] [] []
theorem hc_linealref07_falls (m:Int×Int×Int×Bool) (claim:Int) (thread:Int) {r:Int×Bool} (h:linealref07_falls m claim thread=some r):HC Try.prog 77 [] [.agg [.int .i64 m.1,.int .i64 m.2.1,.int .i64 m.2.2.1,.bool m.2.2.2],.int .i64 claim,.int .i64 thread] [] (.tup [.int .i64 r.1,.bool r.2]):=by
 unfold linealref07_falls at h
 refine zH Try.func77 [.tmp 6,.tmp 7] 33 ?_
 refine zo ?_
 refine zB [(1,.int .i64 claim),(2,.int .i64 thread),(3,.bp 3 0)] [(3,.box 61 [.int .i64 m.1,.int .i64 m.2.1,.int .i64 m.2.2.1,.bool m.2.2.2])] ?_
 refine zo ?_
 refine zB [(1,.int .i64 claim),(3,.bp 3 0),(8,.bool (decide (m.2.1=thread)))] [(3,.box 61 [.int .i64 m.1,.int .i64 m.2.1,.int .i64 m.2.2.1,.bool m.2.2.2])] ?_
 refine AW.seq ?_
 refine AW.block ?_
 refine zo ?_
 refine zB [(1,.int .i64 claim),(3,.bp 3 0),(8,.bool (decide (m.2.1=thread))),(13,.bool (decide (claim=0)))] [(3,.box 61 [.int .i64 m.1,.int .i64 m.2.1,.int .i64 m.2.2.1,.bool m.2.2.2])] ?_
 refine zQ h (fun hb1 h=>?_) (fun hb1 h=>?_)
 ·refine AW.seq ?_
  refine AW.draw tab_ok mixed_ok [] [] (by decide) (by kernel_rfl) ?_
  as_aux_lemma =>
   refine adops_cut 5 (fun K' hK2=>?_)
   try dsimp only [List.drop_succ_cons,List.drop_zero,List.take_succ_cons,List.take_zero]
   simp only [go_sem,hb1]
   repeat with_reducible refine zN ?_
   refine hK2 _ ?_
   refine adops_nil ?_
   refine athen_n ?_
   refine zV [(6,.int .i64 1),(7,.bool (!m.2.2.2))] [] gt ?_
   as_aux_lemma =>
    refine AW.ret ?_
    refine ablock_r ?_
    refine athen_r ?_
    obtain rfl:=Option.some.inj h
    exact zR [] [] []
 ·refine zo ?_
  refine zB [(3,.bp 3 0),(8,.bool (decide (m.2.1=thread))),(19,.bool (decide (claim=2)))] [(3,.box 61 [.int .i64 m.1,.int .i64 m.2.1,.int .i64 m.2.2.1,.bool m.2.2.2])] ?_
  refine zQ h (fun hb3 h=>?_) (fun hb3 h=>?_)
  ·refine AW.seq ?_
   refine AW.draw tab_ok mixed_ok [] [] (by decide) (by kernel_rfl) ?_
   as_aux_lemma =>
    refine adops_cut 2 (fun K' hK4=>?_)
    try dsimp only [List.drop_succ_cons,List.drop_zero,List.take_succ_cons,List.take_zero]
    simp only [go_sem,hb1,hb3]
    repeat with_reducible refine zN ?_
    refine hK4 _ ?_
    as_aux_lemma =>
     rcases zI h with ⟨hb5,h⟩ | ⟨hb5,h⟩
     ·simp only [hb5]
      as_aux_lemma =>
       refine adops_cut 6 (fun K' hK6=>?_)
       try dsimp only [List.drop_succ_cons,List.drop_zero,List.take_succ_cons,List.take_zero]
       simp only [go_sem,hb1,hb3,hb5]
       repeat with_reducible refine zN ?_
       refine hK6 _ ?_
       refine adops_nil ?_
       refine athen_n ?_
       refine zV [(6,.int .i64 1),(7,.bool (!m.2.2.2))] [] gt ?_
       as_aux_lemma =>
        refine AW.ret ?_
        refine ablock_r ?_
        refine athen_r ?_
        obtain rfl:=Option.some.inj h
        exact zR [] [] []
     ·simp only [hb5]
      as_aux_lemma =>
       refine adops_cut 6 (fun K' hK7=>?_)
       try dsimp only [List.drop_succ_cons,List.drop_zero,List.take_succ_cons,List.take_zero]
       simp only [go_sem,hb1,hb3,hb5]
       repeat with_reducible refine zN ?_
       refine hK7 _ ?_
       refine adops_nil ?_
       refine athen_n ?_
       refine zV [(6,.int .i64 1),(7,.bool false)] [] gt ?_
       as_aux_lemma =>
        refine AW.ret ?_
        refine ablock_r ?_
        refine athen_r ?_
        obtain rfl:=Option.some.inj h
        exact zR [] [] []
  ·refine zo ?_
   refine zB [(3,.bp 3 0),(28,.bool (decide (m.2.1=thread)))] [(3,.box 61 [.int .i64 m.1,.int .i64 m.2.1,.int .i64 m.2.2.1,.bool m.2.2.2])] ?_
   refine zQ h (fun hb8 h=>?_) (fun hb8 h=>?_)
   ·refine AW.seq ?_
    refine AW.draw tab_ok mixed_ok [] [] (by decide) (by kernel_rfl) ?_
    as_aux_lemma =>
     refine adops_cut 5 (fun K' hK9=>?_)
     try dsimp only [List.drop_succ_cons,List.drop_zero,List.take_succ_cons,List.take_zero]
     simp only [go_sem,hb1,hb3,hb8]
     repeat with_reducible refine zN ?_
     refine hK9 _ ?_
     refine adops_nil ?_
     refine athen_n ?_
     refine zV [(6,.int .i64 1),(7,.bool (!m.2.2.2))] [] gt ?_
     as_aux_lemma =>
      refine AW.ret ?_
      refine ablock_r ?_
      refine athen_r ?_
      obtain rfl:=Option.some.inj h
      exact zR [] [] []
   ·refine zm ?_
    refine athen_n ?_
    refine zo ?_
    refine zB [(6,.int .i64 0),(7,.bool true)] [] ?_
    refine AW.ret ?_
    obtain rfl:=Option.some.inj h
    exact zR [] [] []
theorem hc_linealref07_ranks (g:Int×(List (Int×Int×Int×Bool))) (claim:Int) (thread:Int) {r:(List Int)×Bool} (h:linealref07_ranks g claim thread=some r):HC Try.prog 74 [] [.agg [.int .i64 g.1,.sl Y7 g.2],.int .i64 claim,.int .i64 thread] [(2000,.arr 3 (.int .i64) r.1)] (.tup [.own 2000,.bool r.2]):=by
 unfold linealref07_ranks at h
 refine zH Try.func74 [.tmp 6,.tmp 7] 77 ?_
 refine zo ?_
 refine zB [(1,.int .i64 claim),(2,.int .i64 thread),(3,.bp 3 0)] [(3,.box 24 [.int .i64 g.1,.sl Y7 g.2])] ?_
 refine zo ?_
 refine zS 1 [(1,.int .i64 claim),(2,.int .i64 thread),(3,.bp 3 0),(15,.agg [.int .i64 g.1,.sl Y7 g.2])] [(3,.box 24 [.int .i64 g.1,.sl Y7 g.2])] ?_
 obtain ⟨v0,hv1,h⟩:=Option.bind_eq_some_iff.1 h
 refine zC [] [] (hc_linealref07_reached g hv1) [(1,.int .i64 claim),(2,.int .i64 thread),(3,.bp 3 0),(16,.own 26000)] [(3,.box 24 [.int .i64 g.1,.sl Y7 g.2]),(26000,.arr 4 .bool v0)] ?_
 refine zB [(1,.int .i64 claim),(2,.int .i64 thread),(3,.bp 3 0),(8,.own 26000)] [(3,.box 24 [.int .i64 g.1,.sl Y7 g.2]),(26000,.arr 4 .bool v0)] ?_
 refine zo ?_
 obtain ⟨c2,h⟩:=ck_some.1 h
 obtain ⟨c3,h⟩:=ck_some.1 h
 refine zB [(1,.int .i64 claim),(2,.int .i64 thread),(3,.bp 3 0),(8,.own 26000),(9,.own 19)] [(3,.box 24 [.int .i64 g.1,.sl Y7 g.2]),(19,.arr 3 (.int .i64) (List.replicate g.1.toNat (0:Int))),(26000,.arr 4 .bool v0)] ?_
 refine AW.have1 (fun _:Unit=>linealref07_ranks_k1=some r) (fun _=>⟨fr [],hpGet [],gt⟩) (fun _ h=>?_) (fun hk_linealref07_ranks_k1=>?_)
 ·as_aux_lemma =>
   unfold linealref07_ranks_k1 at h
   refine zo ?_
   refine zB [(6,.cv (.slice none 0 0)),(7,.bool false)] [] ?_
   refine AW.ret ?_
   obtain rfl:=Option.some.inj h
   exact zR [] [2000] []
 ·refine AW.seq ?_
  refine zo ?_
  obtain ⟨c4,h⟩:=ck_some.1 h
  refine zB [(1,.int .i64 claim),(2,.int .i64 thread),(3,.bp 3 0),(8,.own 26000),(9,.own 19),(22,.int .i64 (g.1 + 1)),(23,.int .i64 0)] [(3,.box 24 [.int .i64 g.1,.sl Y7 g.2]),(19,.arr 3 (.int .i64) (List.replicate g.1.toNat (0:Int))),(26000,.arr 4 .bool v0)] ?_
  refine AW.block ?_
  obtain ⟨rv9,hw5,ho6⟩:=Option.bind_eq_some_iff.1 h
  refine AW.loopO (linealref07_ranks_b1 g claim thread v0) (fun st1=>⟨fr [(1,.int .i64 claim),(2,.int .i64 thread),(3,.bp 3 0),(8,.own 26000),(9,.own 19),(22,.int .i64 (g.1 + 1)),(23,.int .i64 st1.2)],hpGet [(3,.box 24 [.int .i64 g.1,.sl Y7 g.2]),(19,.arr 3 (.int .i64) st1.1),(26000,.arr 4 .bool v0)],gt⟩) ((List.replicate g.1.toNat (0:Int)),0) hw5 (zL [] [] []) ?_
  as_aux_lemma =>
   intro st1 x8 h hd7
   unfold linealref07_ranks_b1 at h
   refine zo ?_
   refine zB [(1,.int .i64 claim),(2,.int .i64 thread),(3,.bp 3 0),(8,.own 26000),(9,.own 19),(22,.int .i64 (g.1 + 1)),(23,.int .i64 st1.2),(24,.bool (decide (st1.2 < (g.1 + 1))))] [(3,.box 24 [.int .i64 g.1,.sl Y7 g.2]),(19,.arr 3 (.int .i64) st1.1),(26000,.arr 4 .bool v0)] ?_
   refine AW.seq ?_
   refine zQ h (fun hb10 h=>?_) (fun hb10 h=>?_)
   ·refine zk ?_
    refine AW.have1 (fun b3_2:(List Int)=>linealref07_ranks_k2 st1 b3_2=some x8) (fun b3_2=>⟨fr [(1,.int .i64 claim),(2,.int .i64 thread),(3,.bp 3 0),(8,.own 26000),(9,.own 19),(22,.int .i64 (g.1 + 1)),(23,.int .i64 st1.2)],hpGet [(3,.box 24 [.int .i64 g.1,.sl Y7 g.2]),(19,.arr 3 (.int .i64) b3_2),(26000,.arr 4 .bool v0)],gt⟩) (fun b3_2 h=>?_) (fun hk_linealref07_ranks_k2=>?_)
    ·as_aux_lemma =>
      unfold linealref07_ranks_k2 at h
      refine AW.ops ?_
      obtain ⟨c11,h⟩:=ck_some.1 h
      refine zA [(1,.int .i64 claim),(2,.int .i64 thread),(3,.bp 3 0),(8,.own 26000),(9,.own 19),(22,.int .i64 (g.1 + 1)),(23,.int .i64 (st1.2 + 1))] [(3,.box 24 [.int .i64 g.1,.sl Y7 g.2]),(19,.arr 3 (.int .i64) b3_2),(26000,.arr 4 .bool v0)] ?_
      obtain rfl:=Option.some.inj h
      exact ⟨_,rfl,zL [] [] []⟩
    ·refine AW.seq ?_
     refine AW.block ?_
     refine zo ?_
     refine zB [(1,.int .i64 claim),(2,.int .i64 thread),(3,.bp 3 0),(8,.own 26000),(9,.own 19),(10,.bool true),(22,.int .i64 (g.1 + 1)),(23,.int .i64 st1.2)] [(3,.box 24 [.int .i64 g.1,.sl Y7 g.2]),(19,.arr 3 (.int .i64) st1.1),(26000,.arr 4 .bool v0)] ?_
     refine AW.have1 (fun b3:(List Int)×Bool=>linealref07_ranks_k3 st1 b3=some x8) (fun b3=>⟨fr [(1,.int .i64 claim),(2,.int .i64 thread),(3,.bp 3 0),(8,.own 26000),(9,.own 19),(10,.bool b3.2),(22,.int .i64 (g.1 + 1)),(23,.int .i64 st1.2)],hpGet [(3,.box 24 [.int .i64 g.1,.sl Y7 g.2]),(19,.arr 3 (.int .i64) b3.1),(26000,.arr 4 .bool v0)],gt⟩) (fun b3 h=>?_) (fun hk_linealref07_ranks_k3=>?_)
     ·as_aux_lemma =>
       unfold linealref07_ranks_k3 at h
       refine zo ?_
       refine zB [(1,.int .i64 claim),(2,.int .i64 thread),(3,.bp 3 0),(8,.own 26000),(9,.own 19),(22,.int .i64 (g.1 + 1)),(23,.int .i64 st1.2),(74,.bool b3.2)] [(3,.box 24 [.int .i64 g.1,.sl Y7 g.2]),(19,.arr 3 (.int .i64) b3.1),(26000,.arr 4 .bool v0)] ?_
       refine zQ h (fun hb12 h=>?_) (fun hb12 h=>?_)
       ·refine zo ?_
        refine zB [(6,.own 19),(7,.bool true)] [(19,.arr 3 (.int .i64) b3.1)] ?_
        refine AW.ret ?_
        refine ablock_r ?_
        refine athen_r ?_
        obtain rfl:=Option.some.inj h
        rw [← hd7 _ rfl] at ho6
        have h:=ho6
        try simp only at h
        refine athen_r ?_
        refine ablock_r ?_
        refine athen_r ?_
        obtain rfl:=Option.some.inj h
        exact zR [] [] [(2000,19)]
       ·refine zm ?_
        refine athen_n ?_
        exact AW.weaken (zL [] [] []) (hk_linealref07_ranks_k2 _ h)
     ·refine AW.seq ?_
      refine zo ?_
      refine zB [(1,.int .i64 claim),(2,.int .i64 thread),(3,.bp 3 0),(8,.own 26000),(9,.own 19),(10,.bool true),(22,.int .i64 (g.1 + 1)),(23,.int .i64 st1.2),(26,.sl Y7 g.2),(27,.int .i64 (g.2.length:Int)),(28,.int .i64 0)] [(3,.box 24 [.int .i64 g.1,.sl Y7 g.2]),(19,.arr 3 (.int .i64) st1.1),(26000,.arr 4 .bool v0)] ?_
      refine AW.block ?_
      obtain ⟨rv17,hw13,ho14⟩:=Option.bind_eq_some_iff.1 h
      refine AW.loopO (linealref07_ranks_b2 g claim thread v0) (fun st2=>⟨fr [(1,.int .i64 claim),(2,.int .i64 thread),(3,.bp 3 0),(8,.own 26000),(9,.own 19),(10,.bool st2.2.1),(22,.int .i64 (g.1 + 1)),(23,.int .i64 st1.2),(26,.sl Y7 g.2),(27,.int .i64 (g.2.length:Int)),(28,.int .i64 st2.2.2)],hpGet [(3,.box 24 [.int .i64 g.1,.sl Y7 g.2]),(19,.arr 3 (.int .i64) st2.1),(26000,.arr 4 .bool v0)],gt⟩) (st1.1,true,0) hw13 (zL [] [] []) ?_
      as_aux_lemma =>
       intro st2 x16 h hd15
       unfold linealref07_ranks_b2 at h
       refine zo ?_
       refine zB [(1,.int .i64 claim),(2,.int .i64 thread),(3,.bp 3 0),(8,.own 26000),(9,.own 19),(10,.bool st2.2.1),(22,.int .i64 (g.1 + 1)),(23,.int .i64 st1.2),(26,.sl Y7 g.2),(27,.int .i64 (g.2.length:Int)),(28,.int .i64 st2.2.2),(29,.bool (decide (st2.2.2 < (g.2.length:Int))))] [(3,.box 24 [.int .i64 g.1,.sl Y7 g.2]),(19,.arr 3 (.int .i64) st2.1),(26000,.arr 4 .bool v0)] ?_
       refine AW.seq ?_
       refine zQ h (fun hb18 h=>?_) (fun hb18 h=>?_)
       ·refine zk ?_
        refine AW.seq ?_
        refine AW.block ?_
        refine zo ?_
        obtain ⟨c19,h⟩:=ck_some.1 h
        obtain ⟨c20,h⟩:=ck_some.1 h
        refine zB [(1,.int .i64 claim),(2,.int .i64 thread),(3,.bp 3 0),(8,.own 26000),(9,.own 19),(10,.bool st2.2.1),(12,.bp 12 0),(22,.int .i64 (g.1 + 1)),(23,.int .i64 st1.2),(26,.sl Y7 g.2),(27,.int .i64 (g.2.length:Int)),(28,.int .i64 st2.2.2)] [(3,.box 24 [.int .i64 g.1,.sl Y7 g.2]),(12,.box 61 [.int .i64 (g.2.getD st2.2.2.toNat (0,0,0,false)).1,.int .i64 (g.2.getD st2.2.2.toNat (0,0,0,false)).2.1,.int .i64 (g.2.getD st2.2.2.toNat (0,0,0,false)).2.2.1,.bool (g.2.getD st2.2.2.toNat (0,0,0,false)).2.2.2]),(19,.arr 3 (.int .i64) st2.1),(26000,.arr 4 .bool v0)] ?_
        refine zo ?_
        refine zS 3 [(1,.int .i64 claim),(2,.int .i64 thread),(3,.bp 3 0),(8,.own 26000),(9,.own 19),(10,.bool st2.2.1),(12,.bp 12 0),(22,.int .i64 (g.1 + 1)),(23,.int .i64 st1.2),(26,.sl Y7 g.2),(27,.int .i64 (g.2.length:Int)),(28,.int .i64 st2.2.2),(33,.agg [.int .i64 (g.2.getD st2.2.2.toNat (0,0,0,false)).1,.int .i64 (g.2.getD st2.2.2.toNat (0,0,0,false)).2.1,.int .i64 (g.2.getD st2.2.2.toNat (0,0,0,false)).2.2.1,.bool (g.2.getD st2.2.2.toNat (0,0,0,false)).2.2.2]),(34,.int .i64 claim),(35,.int .i64 thread)] [(3,.box 24 [.int .i64 g.1,.sl Y7 g.2]),(12,.box 61 [.int .i64 (g.2.getD st2.2.2.toNat (0,0,0,false)).1,.int .i64 (g.2.getD st2.2.2.toNat (0,0,0,false)).2.1,.int .i64 (g.2.getD st2.2.2.toNat (0,0,0,false)).2.2.1,.bool (g.2.getD st2.2.2.toNat (0,0,0,false)).2.2.2]),(19,.arr 3 (.int .i64) st2.1),(26000,.arr 4 .bool v0)] ?_
        obtain ⟨v0_2,hv21,h⟩:=Option.bind_eq_some_iff.1 h
        refine zC [] [] (hc_linealref07_falls (g.2.getD st2.2.2.toNat (0,0,0,false)) claim thread hv21) [(1,.int .i64 claim),(2,.int .i64 thread),(3,.bp 3 0),(8,.own 26000),(9,.own 19),(10,.bool st2.2.1),(12,.bp 12 0),(22,.int .i64 (g.1 + 1)),(23,.int .i64 st1.2),(26,.sl Y7 g.2),(27,.int .i64 (g.2.length:Int)),(28,.int .i64 st2.2.2),(36,.tup [.int .i64 v0_2.1,.bool v0_2.2])] [(3,.box 24 [.int .i64 g.1,.sl Y7 g.2]),(12,.box 61 [.int .i64 (g.2.getD st2.2.2.toNat (0,0,0,false)).1,.int .i64 (g.2.getD st2.2.2.toNat (0,0,0,false)).2.1,.int .i64 (g.2.getD st2.2.2.toNat (0,0,0,false)).2.2.1,.bool (g.2.getD st2.2.2.toNat (0,0,0,false)).2.2.2]),(19,.arr 3 (.int .i64) st2.1),(26000,.arr 4 .bool v0)] ?_
        refine zB [(1,.int .i64 claim),(2,.int .i64 thread),(3,.bp 3 0),(8,.own 26000),(9,.own 19),(10,.bool st2.2.1),(12,.bp 12 0),(13,.int .i64 v0_2.1),(14,.bool v0_2.2),(22,.int .i64 (g.1 + 1)),(23,.int .i64 st1.2),(26,.sl Y7 g.2),(27,.int .i64 (g.2.length:Int)),(28,.int .i64 st2.2.2)] [(3,.box 24 [.int .i64 g.1,.sl Y7 g.2]),(12,.box 61 [.int .i64 (g.2.getD st2.2.2.toNat (0,0,0,false)).1,.int .i64 (g.2.getD st2.2.2.toNat (0,0,0,false)).2.1,.int .i64 (g.2.getD st2.2.2.toNat (0,0,0,false)).2.2.1,.bool (g.2.getD st2.2.2.toNat (0,0,0,false)).2.2.2]),(19,.arr 3 (.int .i64) st2.1),(26000,.arr 4 .bool v0)] ?_
        refine AW.seq ?_
        refine AW.draw tab_ok mixed_ok [] [] (by decide) (lex_fast (by kernel_rfl)) ?_
        as_aux_lemma =>
         refine adops_cut 2 (fun K' hK22=>?_)
         try dsimp only [List.drop_succ_cons,List.drop_zero,List.take_succ_cons,List.take_zero]
         simp only [go_sem,hb10,hb18]
         repeat with_reducible refine zN ?_
         refine hK22 _ ?_
         as_aux_lemma =>
          rcases zI h with ⟨hb23,h⟩ | ⟨hb23,h⟩
          ·simp only [hb23]
           as_aux_lemma =>
            obtain ⟨c25,h⟩:=ck_some.1 h
            obtain ⟨c26,h⟩:=ck_some.1 h
            refine adops_cut 6 (fun K' hK24=>?_)
            try dsimp only [List.drop_succ_cons,List.drop_zero,List.take_succ_cons,List.take_zero]
            simp only [go_sem,hb10,hb18,hb23]
            repeat with_reducible refine zN ?_
            refine hK24 _ ?_
            as_aux_lemma =>
             refine adops_cut 1 (fun K' hK27=>?_)
             try dsimp only [List.drop_succ_cons,List.drop_zero,List.take_succ_cons,List.take_zero]
             simp only [go_sem,hb10,hb18,hb23]
             repeat with_reducible refine zN ?_
             refine hK27 _ ?_
             as_aux_lemma =>
              rcases zI h with ⟨hb28,h⟩ | ⟨hb28,h⟩
              ·simp only [hb28]
               as_aux_lemma =>
                obtain ⟨c30,h⟩:=ck_some.1 h
                obtain ⟨c31,h⟩:=ck_some.1 h
                refine adops_cut 6 (fun K' hK29=>?_)
                try dsimp only [List.drop_succ_cons,List.drop_zero,List.take_succ_cons,List.take_zero]
                simp only [go_sem,hb10,hb18,hb23,hb28]
                repeat with_reducible refine zN ?_
                refine hK29 _ ?_
                as_aux_lemma =>
                 obtain ⟨c33,h⟩:=ck_some.1 h
                 obtain ⟨c34,h⟩:=ck_some.1 h
                 obtain ⟨c35,h⟩:=ck_some.1 h
                 refine adops_cut 6 (fun K' hK32=>?_)
                 try dsimp only [List.drop_succ_cons,List.drop_zero,List.take_succ_cons,List.take_zero]
                 simp only [go_sem,hb10,hb18,hb23,hb28]
                 repeat with_reducible refine zN ?_
                 refine hK32 _ ?_
                 as_aux_lemma =>
                  refine adops_cut 2 (fun K' hK36=>?_)
                  try dsimp only [List.drop_succ_cons,List.drop_zero,List.take_succ_cons,List.take_zero]
                  simp only [go_sem,hb10,hb18,hb23,hb28]
                  repeat with_reducible refine zN ?_
                  refine hK36 _ ?_
                  refine adops_nil ?_
                  refine athen_n ?_
                  refine zV [(1,.int .i64 claim),(2,.int .i64 thread),(3,.bp 3 0),(8,.own 26000),(9,.own 19),(10,.bool st2.2.1),(12,.bp 12 0),(13,.int .i64 v0_2.1),(22,.int .i64 (g.1 + 1)),(23,.int .i64 st1.2),(26,.sl Y7 g.2),(27,.int .i64 (g.2.length:Int)),(28,.int .i64 st2.2.2),(61,.bool (decide ((st2.1.getD (g.2.getD st2.2.2.toNat (0,0,0,false)).1.toNat 0) < ((st2.1.getD (g.2.getD st2.2.2.toNat (0,0,0,false)).2.2.1.toNat 0) + v0_2.1))))] [(3,.box 24 [.int .i64 g.1,.sl Y7 g.2]),(12,.box 61 [.int .i64 (g.2.getD st2.2.2.toNat (0,0,0,false)).1,.int .i64 (g.2.getD st2.2.2.toNat (0,0,0,false)).2.1,.int .i64 (g.2.getD st2.2.2.toNat (0,0,0,false)).2.2.1,.bool (g.2.getD st2.2.2.toNat (0,0,0,false)).2.2.2]),(19,.arr 3 (.int .i64) st2.1),(26000,.arr 4 .bool v0)] gt ?_
                  as_aux_lemma =>
                   refine zQ h (fun hb37 h=>?_) (fun hb37 h=>?_)
                   ·refine AW.draw tab_ok mixed_ok [(11,[19])] [] (by decide) (lex_fast (by kernel_rfl)) ?_
                    as_aux_lemma =>
                     refine adops_cut 6 (fun K' hK38=>?_)
                     try dsimp only [List.drop_succ_cons,List.drop_zero,List.take_succ_cons,List.take_zero]
                     simp only [go_sem,hb10,hb18,hb23,hb28,hb37]
                     repeat with_reducible refine zN ?_
                     refine hK38 _ ?_
                     as_aux_lemma =>
                      obtain ⟨c40,h⟩:=ck_some.1 h
                      obtain ⟨c41,h⟩:=ck_some.1 h
                      obtain ⟨c42,h⟩:=ck_some.1 h
                      obtain ⟨c43,h⟩:=ck_some.1 h
                      obtain ⟨c44,h⟩:=ck_some.1 h
                      refine adops_cut 6 (fun K' hK39=>?_)
                      try dsimp only [List.drop_succ_cons,List.drop_zero,List.take_succ_cons,List.take_zero]
                      simp only [go_sem,hb10,hb18,hb23,hb28,hb37]
                      repeat with_reducible refine zN ?_
                      refine hK39 _ ?_
                      as_aux_lemma =>
                       refine adops_cut 1 (fun K' hK45=>?_)
                       try dsimp only [List.drop_succ_cons,List.drop_zero,List.take_succ_cons,List.take_zero]
                       simp only [go_sem,hb10,hb18,hb23,hb28,hb37]
                       repeat with_reducible refine zN ?_
                       refine hK45 _ ?_
                       refine adops_nil ?_
                       refine ablock_n ?_
                       refine athen_n ?_
                       refine zV [(1,.int .i64 claim),(2,.int .i64 thread),(3,.bp 3 0),(8,.own 26000),(9,.own 19),(10,.bool false),(22,.int .i64 (g.1 + 1)),(23,.int .i64 st1.2),(26,.sl Y7 g.2),(27,.int .i64 (g.2.length:Int)),(28,.int .i64 st2.2.2)] [(3,.box 24 [.int .i64 g.1,.sl Y7 g.2]),(19,.arr 3 (.int .i64) (st2.1.set (g.2.getD st2.2.2.toNat (0,0,0,false)).1.toNat ((st2.1.getD (g.2.getD st2.2.2.toNat (0,0,0,false)).2.2.1.toNat 0) + v0_2.1))),(26000,.arr 4 .bool v0)] gt ?_
                       as_aux_lemma =>
                        refine AW.ops ?_
                        obtain ⟨c46,h⟩:=ck_some.1 h
                        refine zA [(1,.int .i64 claim),(2,.int .i64 thread),(3,.bp 3 0),(8,.own 26000),(9,.own 19),(10,.bool false),(22,.int .i64 (g.1 + 1)),(23,.int .i64 st1.2),(26,.sl Y7 g.2),(27,.int .i64 (g.2.length:Int)),(28,.int .i64 (st2.2.2 + 1))] [(3,.box 24 [.int .i64 g.1,.sl Y7 g.2]),(19,.arr 3 (.int .i64) (st2.1.set (g.2.getD st2.2.2.toNat (0,0,0,false)).1.toNat ((st2.1.getD (g.2.getD st2.2.2.toNat (0,0,0,false)).2.2.1.toNat 0) + v0_2.1))),(26000,.arr 4 .bool v0)] ?_
                        obtain rfl:=Option.some.inj h
                        exact ⟨_,rfl,zL [] [] []⟩
                   ·refine zm ?_
                    refine athen_n ?_
                    refine AW.ops ?_
                    obtain ⟨c47,h⟩:=ck_some.1 h
                    refine zA [(1,.int .i64 claim),(2,.int .i64 thread),(3,.bp 3 0),(8,.own 26000),(9,.own 19),(10,.bool st2.2.1),(22,.int .i64 (g.1 + 1)),(23,.int .i64 st1.2),(26,.sl Y7 g.2),(27,.int .i64 (g.2.length:Int)),(28,.int .i64 (st2.2.2 + 1))] [(3,.box 24 [.int .i64 g.1,.sl Y7 g.2]),(19,.arr 3 (.int .i64) st2.1),(26000,.arr 4 .bool v0)] ?_
                    obtain rfl:=Option.some.inj h
                    exact ⟨_,rfl,zL [] [] []⟩
              ·simp only [hb28]
               as_aux_lemma =>
                refine adops_cut 4 (fun K' hK48=>?_)
                try dsimp only [List.drop_succ_cons,List.drop_zero,List.take_succ_cons,List.take_zero]
                simp only [go_sem,hb10,hb18,hb23,hb28]
                repeat with_reducible refine zN ?_
                refine hK48 _ ?_
                as_aux_lemma =>
                 refine adops_cut 4 (fun K' hK49=>?_)
                 try dsimp only [List.drop_succ_cons,List.drop_zero,List.take_succ_cons,List.take_zero]
                 simp only [go_sem,hb10,hb18,hb23,hb28]
                 repeat with_reducible refine zN ?_
                 refine hK49 _ ?_
                 as_aux_lemma =>
                  refine adops_cut 4 (fun K' hK50=>?_)
                  try dsimp only [List.drop_succ_cons,List.drop_zero,List.take_succ_cons,List.take_zero]
                  simp only [go_sem,hb10,hb18,hb23,hb28]
                  repeat with_reducible refine zN ?_
                  refine hK50 _ ?_
                  as_aux_lemma =>
                   refine adops_cut 2 (fun K' hK51=>?_)
                   try dsimp only [List.drop_succ_cons,List.drop_zero,List.take_succ_cons,List.take_zero]
                   simp only [go_sem,hb10,hb18,hb23,hb28]
                   repeat with_reducible refine zN ?_
                   refine hK51 _ ?_
                   refine adops_nil ?_
                   refine athen_n ?_
                   refine zV [(1,.int .i64 claim),(2,.int .i64 thread),(3,.bp 3 0),(8,.own 26000),(9,.own 19),(10,.bool st2.2.1),(12,.bp 12 0),(13,.int .i64 v0_2.1),(22,.int .i64 (g.1 + 1)),(23,.int .i64 st1.2),(26,.sl Y7 g.2),(27,.int .i64 (g.2.length:Int)),(28,.int .i64 st2.2.2),(61,.bool false)] [(3,.box 24 [.int .i64 g.1,.sl Y7 g.2]),(12,.box 61 [.int .i64 (g.2.getD st2.2.2.toNat (0,0,0,false)).1,.int .i64 (g.2.getD st2.2.2.toNat (0,0,0,false)).2.1,.int .i64 (g.2.getD st2.2.2.toNat (0,0,0,false)).2.2.1,.bool (g.2.getD st2.2.2.toNat (0,0,0,false)).2.2.2]),(19,.arr 3 (.int .i64) st2.1),(26000,.arr 4 .bool v0)] gt ?_
                   as_aux_lemma =>
                    refine AW.cond (b:=false) rfl (fun hb52=>by cases hb52) (fun _=>?_)
                    refine zm ?_
                    refine athen_n ?_
                    refine AW.ops ?_
                    obtain ⟨c53,h⟩:=ck_some.1 h
                    refine zA [(1,.int .i64 claim),(2,.int .i64 thread),(3,.bp 3 0),(8,.own 26000),(9,.own 19),(10,.bool st2.2.1),(22,.int .i64 (g.1 + 1)),(23,.int .i64 st1.2),(26,.sl Y7 g.2),(27,.int .i64 (g.2.length:Int)),(28,.int .i64 (st2.2.2 + 1))] [(3,.box 24 [.int .i64 g.1,.sl Y7 g.2]),(19,.arr 3 (.int .i64) st2.1),(26000,.arr 4 .bool v0)] ?_
                    obtain rfl:=Option.some.inj h
                    exact ⟨_,rfl,zL [] [] []⟩
          ·simp only [hb23]
           as_aux_lemma =>
            refine adops_cut 4 (fun K' hK54=>?_)
            try dsimp only [List.drop_succ_cons,List.drop_zero,List.take_succ_cons,List.take_zero]
            simp only [go_sem,hb10,hb18,hb23]
            repeat with_reducible refine zN ?_
            refine hK54 _ ?_
            as_aux_lemma =>
             refine adops_cut 6 (fun K' hK55=>?_)
             try dsimp only [List.drop_succ_cons,List.drop_zero,List.take_succ_cons,List.take_zero]
             simp only [go_sem,hb10,hb18,hb23]
             repeat with_reducible refine zN ?_
             refine hK55 _ ?_
             as_aux_lemma =>
              refine adops_cut 4 (fun K' hK56=>?_)
              try dsimp only [List.drop_succ_cons,List.drop_zero,List.take_succ_cons,List.take_zero]
              simp only [go_sem,hb10,hb18,hb23]
              repeat with_reducible refine zN ?_
              refine hK56 _ ?_
              as_aux_lemma =>
               refine adops_cut 4 (fun K' hK57=>?_)
               try dsimp only [List.drop_succ_cons,List.drop_zero,List.take_succ_cons,List.take_zero]
               simp only [go_sem,hb10,hb18,hb23]
               repeat with_reducible refine zN ?_
               refine hK57 _ ?_
               as_aux_lemma =>
                refine adops_cut 3 (fun K' hK58=>?_)
                try dsimp only [List.drop_succ_cons,List.drop_zero,List.take_succ_cons,List.take_zero]
                simp only [go_sem,hb10,hb18,hb23]
                repeat with_reducible refine zN ?_
                refine hK58 _ ?_
                refine adops_nil ?_
                refine athen_n ?_
                refine zV [(1,.int .i64 claim),(2,.int .i64 thread),(3,.bp 3 0),(8,.own 26000),(9,.own 19),(10,.bool st2.2.1),(12,.bp 12 0),(13,.int .i64 v0_2.1),(22,.int .i64 (g.1 + 1)),(23,.int .i64 st1.2),(26,.sl Y7 g.2),(27,.int .i64 (g.2.length:Int)),(28,.int .i64 st2.2.2),(61,.bool false)] [(3,.box 24 [.int .i64 g.1,.sl Y7 g.2]),(12,.box 61 [.int .i64 (g.2.getD st2.2.2.toNat (0,0,0,false)).1,.int .i64 (g.2.getD st2.2.2.toNat (0,0,0,false)).2.1,.int .i64 (g.2.getD st2.2.2.toNat (0,0,0,false)).2.2.1,.bool (g.2.getD st2.2.2.toNat (0,0,0,false)).2.2.2]),(19,.arr 3 (.int .i64) st2.1),(26000,.arr 4 .bool v0)] gt ?_
                as_aux_lemma =>
                 refine AW.cond (b:=false) rfl (fun hb59=>by cases hb59) (fun _=>?_)
                 refine zm ?_
                 refine athen_n ?_
                 refine AW.ops ?_
                 obtain ⟨c60,h⟩:=ck_some.1 h
                 refine zA [(1,.int .i64 claim),(2,.int .i64 thread),(3,.bp 3 0),(8,.own 26000),(9,.own 19),(10,.bool st2.2.1),(22,.int .i64 (g.1 + 1)),(23,.int .i64 st1.2),(26,.sl Y7 g.2),(27,.int .i64 (g.2.length:Int)),(28,.int .i64 (st2.2.2 + 1))] [(3,.box 24 [.int .i64 g.1,.sl Y7 g.2]),(19,.arr 3 (.int .i64) st2.1),(26000,.arr 4 .bool v0)] ?_
                 obtain rfl:=Option.some.inj h
                 exact ⟨_,rfl,zL [] [] []⟩
       ·refine AW.exit ?_
        refine athen_e ?_
        obtain rfl:=Option.some.inj h
        rw [← hd15 _ rfl] at ho14
        have h:=ho14
        refine athen_e ?_
        refine ablock_s ?_
        refine athen_n ?_
        exact AW.weaken (zL [] [] []) (hk_linealref07_ranks_k3 _ h)
   ·refine AW.exit ?_
    refine athen_e ?_
    obtain rfl:=Option.some.inj h
    rw [← hd7 _ rfl] at ho6
    have h:=ho6
    try simp only at h
    refine athen_e ?_
    refine ablock_s ?_
    refine athen_n ?_
    exact AW.weaken (zL [] [] []) (hk_linealref07_ranks_k1 () h)
theorem hc_linealref07_Holds (g:Int×(List (Int×Int×Int×Bool))) (claim:Int) (thread:Int) {r:Bool×Int} (h:linealref07_Holds g claim thread=some r):HC Try.prog 30 [] [.agg [.int .i64 g.1,.sl Y7 g.2],.int .i64 claim,.int .i64 thread] [] (.tup [.bool r.1,.int .i64 r.2]):=by
 unfold linealref07_Holds at h
 refine zH Try.func30 [.tmp 6,.tmp 7] 26 ?_
 refine zo ?_
 refine zB [(1,.int .i64 claim),(2,.int .i64 thread),(3,.bp 3 0)] [(3,.box 24 [.int .i64 g.1,.sl Y7 g.2])] ?_
 refine AW.seq ?_
 refine zo ?_
 refine zS 3 [(1,.int .i64 claim),(2,.int .i64 thread),(3,.bp 3 0),(11,.agg [.int .i64 g.1,.sl Y7 g.2]),(12,.int .i64 claim),(13,.int .i64 thread)] [(3,.box 24 [.int .i64 g.1,.sl Y7 g.2])] ?_
 obtain ⟨v0,hv1,h⟩:=Option.bind_eq_some_iff.1 h
 refine zC [] [] (hc_linealref07_asked g claim thread hv1) [(1,.int .i64 claim),(2,.int .i64 thread),(3,.bp 3 0),(14,.int .i64 v0)] [(3,.box 24 [.int .i64 g.1,.sl Y7 g.2])] ?_
 refine zB [(1,.int .i64 claim),(2,.int .i64 thread),(3,.bp 3 0),(8,.int .i64 v0)] [(3,.box 24 [.int .i64 g.1,.sl Y7 g.2])] ?_
 refine zo ?_
 refine zB [(1,.int .i64 claim),(2,.int .i64 thread),(3,.bp 3 0),(8,.int .i64 v0),(16,.bool (!(decide (v0=0))))] [(3,.box 24 [.int .i64 g.1,.sl Y7 g.2])] ?_
 refine zQ h (fun hb2 h=>?_) (fun hb2 h=>?_)
 ·refine zo ?_
  refine zB [(6,.bool false),(7,.int .i64 v0)] [] ?_
  refine zr ?_
  obtain rfl:=Option.some.inj h
  exact zR [] [] []
 ·refine zk ?_
  refine zo ?_
  refine zS 3 [(19,.agg [.int .i64 g.1,.sl Y7 g.2]),(20,.int .i64 claim),(21,.int .i64 thread)] [] ?_
  obtain ⟨v0_2,hv3,h⟩:=Option.bind_eq_some_iff.1 h
  refine zC [] [] (hc_linealref07_ranks g claim thread hv3) [(22,.tup [.own 32000,.bool v0_2.2])] [(32000,.arr 3 (.int .i64) v0_2.1)] ?_
  refine zB [(10,.bool v0_2.2)] [] ?_
  refine zo ?_
  refine zB [(6,.bool v0_2.2),(7,.int .i64 0)] [] ?_
  refine AW.ret ?_
  obtain rfl:=Option.some.inj h
  exact zR [] [] []
theorem hc_progress_statement_isLasso_1 (move:Int) (a1:Int) (a1_2:List (Int×Int×Int×Bool)) {r:Unit} (h:progress_statement_isLasso_1 move a1 a1_2=some r):HC Try.prog 103 [(1000,.box 85 [.int .i64 a1,.sl Y7 a1_2,.fn (.func 94) [] [],.fn (.func 94) [] []])] [.int .i64 move,.bp 1000 0] [(1000,.box 85 [.int .i64 a1,.sl Y7 a1_2,.fn (.func 94) [] [],.fn (.func 94) [] []])] (.bool (!(!(a1_2.getD move.toNat (0,0,0,false)).2.2.2))):=by
 unfold progress_statement_isLasso_1 at h
 refine zH Try.func103 [.tmp 3] 14 ?_
 refine zo ?_
 refine zB [(0,.int .i64 move),(1,.bp 1000 0)] [(1000,.box 85 [.int .i64 a1,.sl Y7 a1_2,.fn (.func 94) [] [],.fn (.func 94) [] []])] ?_
 refine AW.seq ?_
 refine AW.draw tab_ok mixed_ok [] [] (by decide) (lex_fast (by kernel_rfl)) ?_
 as_aux_lemma =>
  refine adops_cut 6 (fun K' hK1=>?_)
  try dsimp only [List.drop_succ_cons,List.drop_zero,List.take_succ_cons,List.take_zero]
  simp only [go_sem]
  repeat with_reducible refine zN ?_
  refine hK1 _ ?_
  as_aux_lemma =>
   obtain ⟨c3,h⟩:=ck_some.1 h
   obtain ⟨c4,h⟩:=ck_some.1 h
   refine adops_cut 2 (fun K' hK2=>?_)
   try dsimp only [List.drop_succ_cons,List.drop_zero,List.take_succ_cons,List.take_zero]
   simp only [go_sem]
   repeat with_reducible refine zN ?_
   refine hK2 _ ?_
   as_aux_lemma =>
    obtain ⟨v0,hv5,h⟩:=Option.bind_eq_some_iff.1 h
    refine adops.call (by first | trivial | rfl) rfl rfl rfl (fun _ h=>h) [] [] (hc_progress_statementOf_1 (a1_2.getD move.toNat (0,0,0,false)) hv5) rfl (by (simp only [go_sem]) <;> (with_reducible and_intros) <;> first | assumption | rfl | omega | (unfold maxLen; omega)) (by (simp only [go_sem]) <;> (with_reducible and_intros) <;> first | assumption | rfl | omega | (unfold maxLen; omega)) rfl ?_
    refine adops_cut 2 (fun K' hK6=>?_)
    try dsimp only [List.drop_succ_cons,List.drop_zero,List.take_succ_cons,List.take_zero]
    simp only [go_sem]
    repeat with_reducible refine zN ?_
    refine hK6 _ ?_
    refine adops_nil ?_
    refine athen_n ?_
    refine zV [(3,.bool (!(!(a1_2.getD move.toNat (0,0,0,false)).2.2.2)))] [(1000,.box 85 [.int .i64 a1,.sl Y7 a1_2,.fn (.func 94) [] [],.fn (.func 94) [] []])] gt ?_
    as_aux_lemma =>
     refine AW.ret ?_
     obtain rfl:=Option.some.inj h
     exact zR [] [] []
theorem hc_slices_IndexFunc_8 (s:List Int) (c0:Int) (c0_2:List (Int×Int×Int×Bool)) {r:Int} (h:slices_IndexFunc_8 s c0 c0_2=some r):HC Try.prog 93 [(1000,.box 85 [.int .i64 c0,.sl Y7 c0_2,.fn (.func 94) [] [],.fn (.func 94) [] []])] [.sl (.int .i64) s,.fn (.func 103) [] [.bp 1000 0]] [(1000,.box 85 [.int .i64 c0,.sl Y7 c0_2,.fn (.func 94) [] [],.fn (.func 94) [] []])] (.int .i64 r):=by
 unfold slices_IndexFunc_8 at h
 refine zH Try.func93 [.tmp 4] 19 ?_
 refine zo ?_
 refine zB [(0,.sl (.int .i64) s),(1,.fn (.func 103) [] [.bp 1000 0])] [(1000,.box 85 [.int .i64 c0,.sl Y7 c0_2,.fn (.func 94) [] [],.fn (.func 94) [] []])] ?_
 refine AW.have1 (fun _:Unit=>slices_IndexFunc_8_k1=some r) (fun _=>⟨fr [],hpGet [(1000,.box 85 [.int .i64 c0,.sl Y7 c0_2,.fn (.func 94) [] [],.fn (.func 94) [] []])],gt⟩) (fun _ h=>?_) (fun hk_slices_IndexFunc_8_k1=>?_)
 ·as_aux_lemma =>
   unfold slices_IndexFunc_8_k1 at h
   refine zo ?_
   refine zB [(4,.int .i64 (-1))] [(1000,.box 85 [.int .i64 c0,.sl Y7 c0_2,.fn (.func 94) [] [],.fn (.func 94) [] []])] ?_
   refine AW.ret ?_
   obtain rfl:=Option.some.inj h
   exact zR [] [] []
 ·refine AW.seq ?_
  refine zo ?_
  refine zB [(0,.sl (.int .i64) s),(1,.fn (.func 103) [] [.bp 1000 0]),(7,.int .i64 (s.length:Int)),(8,.int .i64 0)] [(1000,.box 85 [.int .i64 c0,.sl Y7 c0_2,.fn (.func 94) [] [],.fn (.func 94) [] []])] ?_
  refine AW.block ?_
  obtain ⟨rv5,hw1,ho2⟩:=Option.bind_eq_some_iff.1 h
  refine AW.loopO (slices_IndexFunc_8_b1 s c0 c0_2) (fun st1=>⟨fr [(0,.sl (.int .i64) s),(1,.fn (.func 103) [] [.bp 1000 0]),(7,.int .i64 (s.length:Int)),(8,.int .i64 st1)],hpGet [(1000,.box 85 [.int .i64 c0,.sl Y7 c0_2,.fn (.func 94) [] [],.fn (.func 94) [] []])],gt⟩) 0 hw1 (zL [] [] []) ?_
  as_aux_lemma =>
   intro st1 x4 h hd3
   unfold slices_IndexFunc_8_b1 at h
   refine zo ?_
   refine zB [(0,.sl (.int .i64) s),(1,.fn (.func 103) [] [.bp 1000 0]),(7,.int .i64 (s.length:Int)),(8,.int .i64 st1),(9,.bool (decide (st1 < (s.length:Int))))] [(1000,.box 85 [.int .i64 c0,.sl Y7 c0_2,.fn (.func 94) [] [],.fn (.func 94) [] []])] ?_
   refine AW.seq ?_
   refine zQ h (fun hb6 h=>?_) (fun hb6 h=>?_)
   ·refine zk ?_
    refine AW.seq ?_
    refine AW.block ?_
    refine zo ?_
    refine zB [(0,.sl (.int .i64) s),(1,.fn (.func 103) [] [.bp 1000 0]),(5,.int .i64 st1),(7,.int .i64 (s.length:Int)),(8,.int .i64 st1)] [(1000,.box 85 [.int .i64 c0,.sl Y7 c0_2,.fn (.func 94) [] [],.fn (.func 94) [] []])] ?_
    refine zo ?_
    obtain ⟨c7,h⟩:=ck_some.1 h
    obtain ⟨c8,h⟩:=ck_some.1 h
    refine zS 5 [(0,.sl (.int .i64) s),(1,.fn (.func 103) [] [.bp 1000 0]),(5,.int .i64 st1),(7,.int .i64 (s.length:Int)),(8,.int .i64 st1),(11,.fn (.func 103) [] [.bp 1000 0]),(15,.int .i64 (s.getD st1.toNat 0))] [(1000,.box 85 [.int .i64 c0,.sl Y7 c0_2,.fn (.func 94) [] [],.fn (.func 94) [] []])] ?_
    obtain ⟨v0,hv9,h⟩:=Option.bind_eq_some_iff.1 h
    refine zC [] [(1000,1000)] (hc_progress_statement_isLasso_1 (s.getD st1.toNat 0) c0 c0_2 hv9) [(0,.sl (.int .i64) s),(1,.fn (.func 103) [] [.bp 1000 0]),(5,.int .i64 st1),(7,.int .i64 (s.length:Int)),(8,.int .i64 st1),(16,.bool (!(!(c0_2.getD (s.getD st1.toNat 0).toNat (0,0,0,false)).2.2.2)))] [(1000,.box 85 [.int .i64 c0,.sl Y7 c0_2,.fn (.func 94) [] [],.fn (.func 94) [] []])] ?_
    refine zB [(0,.sl (.int .i64) s),(1,.fn (.func 103) [] [.bp 1000 0]),(5,.int .i64 st1),(7,.int .i64 (s.length:Int)),(8,.int .i64 st1),(16,.bool (!(!(c0_2.getD (s.getD st1.toNat 0).toNat (0,0,0,false)).2.2.2)))] [(1000,.box 85 [.int .i64 c0,.sl Y7 c0_2,.fn (.func 94) [] [],.fn (.func 94) [] []])] ?_
    refine zQ h (fun hb10 h=>?_) (fun hb10 h=>?_)
    ·refine zo ?_
     refine zB [(4,.int .i64 st1)] [(1000,.box 85 [.int .i64 c0,.sl Y7 c0_2,.fn (.func 94) [] [],.fn (.func 94) [] []])] ?_
     refine AW.ret ?_
     refine ablock_r ?_
     refine athen_r ?_
     obtain rfl:=Option.some.inj h
     rw [← hd3 _ rfl] at ho2
     have h:=ho2
     try simp only at h
     refine athen_r ?_
     refine ablock_r ?_
     refine athen_r ?_
     obtain rfl:=Option.some.inj h
     exact zR [] [] []
    ·refine zm ?_
     refine athen_n ?_
     refine AW.ops ?_
     obtain ⟨c11,h⟩:=ck_some.1 h
     refine zA [(0,.sl (.int .i64) s),(1,.fn (.func 103) [] [.bp 1000 0]),(7,.int .i64 (s.length:Int)),(8,.int .i64 (st1 + 1))] [(1000,.box 85 [.int .i64 c0,.sl Y7 c0_2,.fn (.func 94) [] [],.fn (.func 94) [] []])] ?_
     obtain rfl:=Option.some.inj h
     exact ⟨_,rfl,zL [] [] []⟩
   ·refine AW.exit ?_
    refine athen_e ?_
    obtain rfl:=Option.some.inj h
    rw [← hd3 _ rfl] at ho2
    have h:=ho2
    try simp only at h
    refine athen_e ?_
    refine ablock_s ?_
    refine athen_n ?_
    exact AW.weaken (zL [] [] []) (hk_slices_IndexFunc_8_k1 () h)
theorem hc_slices_ContainsFunc_3 (s:List Int) (c0:Int) (c0_2:List (Int×Int×Int×Bool)) {r:Bool} (h:slices_ContainsFunc_3 s c0 c0_2=some r):HC Try.prog 99 [(1000,.box 85 [.int .i64 c0,.sl Y7 c0_2,.fn (.func 94) [] [],.fn (.func 94) [] []])] [.sl (.int .i64) s,.fn (.func 103) [] [.bp 1000 0]] [(1000,.box 85 [.int .i64 c0,.sl Y7 c0_2,.fn (.func 94) [] [],.fn (.func 94) [] []])] (.bool r):=by
 unfold slices_ContainsFunc_3 at h
 refine zH Try.func99 [.tmp 4] 9 ?_
 refine zo ?_
 refine zB [(0,.sl (.int .i64) s),(1,.fn (.func 103) [] [.bp 1000 0])] [(1000,.box 85 [.int .i64 c0,.sl Y7 c0_2,.fn (.func 94) [] [],.fn (.func 94) [] []])] ?_
 refine zo ?_
 refine zS 2 [(5,.sl (.int .i64) s),(6,.fn (.func 103) [] [.bp 1000 0])] [(1000,.box 85 [.int .i64 c0,.sl Y7 c0_2,.fn (.func 94) [] [],.fn (.func 94) [] []])] ?_
 obtain ⟨v0,hv1,h⟩:=Option.bind_eq_some_iff.1 h
 refine zC [] [(1000,1000)] (hc_slices_IndexFunc_8 s c0 c0_2 hv1) [(7,.int .i64 v0)] [(1000,.box 85 [.int .i64 c0,.sl Y7 c0_2,.fn (.func 94) [] [],.fn (.func 94) [] []])] ?_
 refine zB [(4,.bool (decide (0≤v0)))] [(1000,.box 85 [.int .i64 c0,.sl Y7 c0_2,.fn (.func 94) [] [],.fn (.func 94) [] []])] ?_
 refine AW.ret ?_
 obtain rfl:=Option.some.inj h
 exact zR [] [] []
theorem hc_progress_statement_isLasso_2 (move:Int) (a1:Int) (a1_2:List (Int×Int×Int×Bool)) {r:Unit} (h:progress_statement_isLasso_2 move a1 a1_2=some r):HC Try.prog 104 [(1000,.box 85 [.int .i64 a1,.sl Y7 a1_2,.fn (.func 94) [] [],.fn (.func 94) [] []])] [.int .i64 move,.bp 1000 0] [(1000,.box 85 [.int .i64 a1,.sl Y7 a1_2,.fn (.func 94) [] [],.fn (.func 94) [] []])] (.bool (!(a1_2.getD move.toNat (0,0,0,false)).2.2.2)):=by
 unfold progress_statement_isLasso_2 at h
 refine zH Try.func104 [.tmp 3] 13 ?_
 refine zo ?_
 refine zB [(0,.int .i64 move),(1,.bp 1000 0)] [(1000,.box 85 [.int .i64 a1,.sl Y7 a1_2,.fn (.func 94) [] [],.fn (.func 94) [] []])] ?_
 refine AW.seq ?_
 refine AW.draw tab_ok mixed_ok [] [] (by decide) (lex_fast (by kernel_rfl)) ?_
 as_aux_lemma =>
  refine adops_cut 6 (fun K' hK1=>?_)
  try dsimp only [List.drop_succ_cons,List.drop_zero,List.take_succ_cons,List.take_zero]
  simp only [go_sem]
  repeat with_reducible refine zN ?_
  refine hK1 _ ?_
  as_aux_lemma =>
   obtain ⟨c3,h⟩:=ck_some.1 h
   obtain ⟨c4,h⟩:=ck_some.1 h
   refine adops_cut 2 (fun K' hK2=>?_)
   try dsimp only [List.drop_succ_cons,List.drop_zero,List.take_succ_cons,List.take_zero]
   simp only [go_sem]
   repeat with_reducible refine zN ?_
   refine hK2 _ ?_
   as_aux_lemma =>
    obtain ⟨v0,hv5,h⟩:=Option.bind_eq_some_iff.1 h
    refine adops.call (by first | trivial | rfl) rfl rfl rfl (fun _ h=>h) [] [] (hc_progress_statementOf_1 (a1_2.getD move.toNat (0,0,0,false)) hv5) rfl (by (simp only [go_sem]) <;> (with_reducible and_intros) <;> first | assumption | rfl | omega | (unfold maxLen; omega)) (by (simp only [go_sem]) <;> (with_reducible and_intros) <;> first | assumption | rfl | omega | (unfold maxLen; omega)) rfl ?_
    refine adops_cut 1 (fun K' hK6=>?_)
    try dsimp only [List.drop_succ_cons,List.drop_zero,List.take_succ_cons,List.take_zero]
    simp only [go_sem]
    repeat with_reducible refine zN ?_
    refine hK6 _ ?_
    refine adops_nil ?_
    refine athen_n ?_
    refine zV [(3,.bool (!(a1_2.getD move.toNat (0,0,0,false)).2.2.2))] [(1000,.box 85 [.int .i64 a1,.sl Y7 a1_2,.fn (.func 94) [] [],.fn (.func 94) [] []])] gt ?_
    as_aux_lemma =>
     refine AW.ret ?_
     obtain rfl:=Option.some.inj h
     exact zR [] [] []
end Go.Proofs.Yteclokkdgmacpaa
