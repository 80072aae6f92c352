import Derived.Test.YtdicomoggfhbfaaDlp
import Derived.Test.YtdicomoggfhbfaaShd
import Derived.Test.YtdicomoggfhbfaaDjc3
import Derived.Test.YtdicomoggfhbfaaDjc5
import Derived.Test.YtdicomoggfhbfaaDjc6
namespace Go.Proofs.Ytdicomoggfhbfaa
open Go.RowKit
set_option linter.unusedSimpArgs false
set_option linter.unusedVariables false
set_option linter.constructorNameAsVariable false
set_option maxRecDepth 100000
set_option maxHeartbeats 40000000
theorem hc_linealref09_circles (x0:List (List (Int×Bool))) {r:(List (List (Int×Int×Int)))} (h:linealref09_circles x0=some r):HC Try.prog 74 [] [.sl (.sl (.pair (.int .i64) .bool)) x0] [(2000,.arr 30 (.sl Y0) r)] (.own 2000):=by
 unfold linealref09_circles at h
 refine zH Try.func74 [.tmp 2] 76 ?_
 refine zo ?_
 refine zB [(0,.sl (.sl (.pair (.int .i64) .bool)) x0)] [] ?_
 refine zo ?_
 refine zB [(0,.sl (.sl (.pair (.int .i64) .bool)) x0),(3,.cv (.slice none 0 0))] [] ?_
 refine zo ?_
 refine zS 1 [(0,.sl (.sl (.pair (.int .i64) .bool)) x0),(3,.cv (.slice none 0 0)),(13,.sl (.sl (.pair (.int .i64) .bool)) x0)] [] ?_
 obtain ⟨v0,hv1,h⟩:=Option.bind_eq_some_iff.1 h
 refine zC [] [] (hc_linealref09_stations x0 hv1) [(0,.sl (.sl (.pair (.int .i64) .bool)) x0),(3,.cv (.slice none 0 0)),(14,.own 24000)] [(24000,.arr 35 Y0 v0)] ?_
 refine zB [(0,.sl (.sl (.pair (.int .i64) .bool)) x0),(3,.cv (.slice none 0 0)),(4,.own 24000)] [(24000,.arr 35 Y0 v0)] ?_
 refine AW.have1 (fun b4_4:(List (List (Int×Int×Int)))=>linealref09_circles_k1 b4_4=some r) (fun b4_4=>⟨fr [(3,.own 54)],hpGet [(54,.arr 30 (.sl Y0) b4_4)],gt⟩) (fun b4_4 h=>?_) (fun hk_linealref09_circles_k1=>?_)
 ·as_aux_lemma =>
   unfold linealref09_circles_k1 at h
   refine zo ?_
   refine zB [(2,.own 54)] [(54,.arr 30 (.sl Y0) b4_4)] ?_
   refine AW.ret ?_
   obtain rfl:=Option.some.inj h
   exact zR [] [] [(2000,54)]
 ·refine AW.seq ?_
  refine zo ?_
  refine zB [(0,.sl (.sl (.pair (.int .i64) .bool)) x0),(3,.cv (.slice none 0 0)),(4,.own 24000),(15,.own 24000),(16,.int .i64 (v0.length:Int)),(17,.int .i64 0)] [(24000,.arr 35 Y0 v0)] ?_
  refine AW.block ?_
  obtain ⟨rv6,hw2,ho3⟩:=Option.bind_eq_some_iff.1 h
  refine AW.loopO (linealref09_circles_b1 x0 v0) (fun st1=>⟨fr [(0,.sl (.sl (.pair (.int .i64) .bool)) x0),(3,.own 54),(4,.own 24000),(15,.own 24000),(16,.int .i64 (v0.length:Int)),(17,.int .i64 st1.2)],hpGet [(54,.arr 30 (.sl Y0) st1.1),(24000,.arr 35 Y0 v0)],gt⟩) ([],0) hw2 (zL [] [54] []) ?_
  as_aux_lemma =>
   intro st1 x5 h hd4
   unfold linealref09_circles_b1 at h
   refine zo ?_
   refine zB [(0,.sl (.sl (.pair (.int .i64) .bool)) x0),(3,.own 54),(4,.own 24000),(15,.own 24000),(16,.int .i64 (v0.length:Int)),(17,.int .i64 st1.2),(18,.bool (decide (st1.2<(v0.length:Int))))] [(54,.arr 30 (.sl Y0) st1.1),(24000,.arr 35 Y0 v0)] ?_
   refine AW.seq ?_
   refine zQ h (fun hb7 h=>?_) (fun hb7 h=>?_)
   ·refine zk ?_
    refine AW.have1 (fun b4_3:(List (List (Int×Int×Int)))=>linealref09_circles_k2 st1 b4_3=some x5) (fun b4_3=>⟨fr [(0,.sl (.sl (.pair (.int .i64) .bool)) x0),(3,.own 54),(4,.own 24000),(15,.own 24000),(16,.int .i64 (v0.length:Int)),(17,.int .i64 st1.2)],hpGet [(54,.arr 30 (.sl Y0) b4_3),(24000,.arr 35 Y0 v0)],gt⟩) (fun b4_3 h=>?_) (fun hk_linealref09_circles_k2=>?_)
    ·as_aux_lemma =>
      unfold linealref09_circles_k2 at h
      refine AW.ops ?_
      obtain ⟨c8,h⟩:=ck_some.1 h
      refine zA [(0,.sl (.sl (.pair (.int .i64) .bool)) x0),(3,.own 54),(4,.own 24000),(15,.own 24000),(16,.int .i64 (v0.length:Int)),(17,.int .i64 (st1.2+1))] [(54,.arr 30 (.sl Y0) b4_3),(24000,.arr 35 Y0 v0)] ?_
      obtain rfl:=Option.some.inj h
      exact ⟨_,rfl,zL [] [] []⟩
    ·refine AW.seq ?_
     refine AW.block ?_
     refine zo ?_
     obtain ⟨c9,h⟩:=ck_some.1 h
     obtain ⟨c10,h⟩:=ck_some.1 h
     refine zB [(0,.sl (.sl (.pair (.int .i64) .bool)) x0),(3,.own 54),(4,.own 24000),(6,.bp 6 0),(15,.own 24000),(16,.int .i64 (v0.length:Int)),(17,.int .i64 st1.2)] [(6,.box 35 [.int .i64 (v0.getD st1.2.toNat (0,0,0)).1,.int .i64 (v0.getD st1.2.toNat (0,0,0)).2.1,.int .i64 (v0.getD st1.2.toNat (0,0,0)).2.2]),(54,.arr 30 (.sl Y0) st1.1),(24000,.arr 35 Y0 v0)] ?_
     refine zo ?_
     refine zB [(0,.sl (.sl (.pair (.int .i64) .bool)) x0),(3,.own 54),(4,.own 24000),(6,.bp 6 0),(15,.own 24000),(16,.int .i64 (v0.length:Int)),(17,.int .i64 st1.2),(21,.own 24000),(22,.int .i64 (v0.length:Int)),(23,.int .i64 0)] [(6,.box 35 [.int .i64 (v0.getD st1.2.toNat (0,0,0)).1,.int .i64 (v0.getD st1.2.toNat (0,0,0)).2.1,.int .i64 (v0.getD st1.2.toNat (0,0,0)).2.2]),(54,.arr 30 (.sl Y0) st1.1),(24000,.arr 35 Y0 v0)] ?_
     refine AW.block ?_
     obtain ⟨rv15,hw11,ho12⟩:=Option.bind_eq_some_iff.1 h
     refine AW.loopO (linealref09_circles_b2 x0 v0 st1) (fun st2=>⟨fr [(0,.sl (.sl (.pair (.int .i64) .bool)) x0),(3,.own 54),(4,.own 24000),(6,.bp 6 0),(15,.own 24000),(16,.int .i64 (v0.length:Int)),(17,.int .i64 st1.2),(21,.own 24000),(22,.int .i64 (v0.length:Int)),(23,.int .i64 st2.2)],hpGet [(6,.box 35 [.int .i64 (v0.getD st1.2.toNat (0,0,0)).1,.int .i64 (v0.getD st1.2.toNat (0,0,0)).2.1,.int .i64 (v0.getD st1.2.toNat (0,0,0)).2.2]),(54,.arr 30 (.sl Y0) st2.1),(24000,.arr 35 Y0 v0)],gt⟩) (st1.1,0) hw11 (zL [] [] []) ?_
     as_aux_lemma =>
      intro st2 x14 h hd13
      unfold linealref09_circles_b2 at h
      refine zo ?_
      refine zB [(0,.sl (.sl (.pair (.int .i64) .bool)) x0),(3,.own 54),(4,.own 24000),(6,.bp 6 0),(15,.own 24000),(16,.int .i64 (v0.length:Int)),(17,.int .i64 st1.2),(21,.own 24000),(22,.int .i64 (v0.length:Int)),(23,.int .i64 st2.2),(24,.bool (decide (st2.2<(v0.length:Int))))] [(6,.box 35 [.int .i64 (v0.getD st1.2.toNat (0,0,0)).1,.int .i64 (v0.getD st1.2.toNat (0,0,0)).2.1,.int .i64 (v0.getD st1.2.toNat (0,0,0)).2.2]),(54,.arr 30 (.sl Y0) st2.1),(24000,.arr 35 Y0 v0)] ?_
      refine AW.seq ?_
      refine zQ h (fun hb16 h=>?_) (fun hb16 h=>?_)
      ·refine zk ?_
       refine AW.have1 (fun b4_2:(List (List (Int×Int×Int)))=>linealref09_circles_k3 st2 b4_2=some x14) (fun b4_2=>⟨fr [(0,.sl (.sl (.pair (.int .i64) .bool)) x0),(3,.own 54),(4,.own 24000),(6,.bp 6 0),(15,.own 24000),(16,.int .i64 (v0.length:Int)),(17,.int .i64 st1.2),(21,.own 24000),(22,.int .i64 (v0.length:Int)),(23,.int .i64 st2.2)],hpGet [(6,.box 35 [.int .i64 (v0.getD st1.2.toNat (0,0,0)).1,.int .i64 (v0.getD st1.2.toNat (0,0,0)).2.1,.int .i64 (v0.getD st1.2.toNat (0,0,0)).2.2]),(54,.arr 30 (.sl Y0) b4_2),(24000,.arr 35 Y0 v0)],gt⟩) (fun b4_2 h=>?_) (fun hk_linealref09_circles_k3=>?_)
       ·as_aux_lemma =>
         unfold linealref09_circles_k3 at h
         refine AW.ops ?_
         obtain ⟨c17,h⟩:=ck_some.1 h
         refine zA [(0,.sl (.sl (.pair (.int .i64) .bool)) x0),(3,.own 54),(4,.own 24000),(6,.bp 6 0),(15,.own 24000),(16,.int .i64 (v0.length:Int)),(17,.int .i64 st1.2),(21,.own 24000),(22,.int .i64 (v0.length:Int)),(23,.int .i64 (st2.2+1))] [(6,.box 35 [.int .i64 (v0.getD st1.2.toNat (0,0,0)).1,.int .i64 (v0.getD st1.2.toNat (0,0,0)).2.1,.int .i64 (v0.getD st1.2.toNat (0,0,0)).2.2]),(54,.arr 30 (.sl Y0) b4_2),(24000,.arr 35 Y0 v0)] ?_
         obtain rfl:=Option.some.inj h
         exact ⟨_,rfl,zL [] [] []⟩
       ·refine AW.seq ?_
        refine AW.block ?_
        refine zo ?_
        obtain ⟨c18,h⟩:=ck_some.1 h
        obtain ⟨c19,h⟩:=ck_some.1 h
        refine zB [(0,.sl (.sl (.pair (.int .i64) .bool)) x0),(3,.own 54),(4,.own 24000),(6,.bp 6 0),(8,.bp 8 0),(15,.own 24000),(16,.int .i64 (v0.length:Int)),(17,.int .i64 st1.2),(21,.own 24000),(22,.int .i64 (v0.length:Int)),(23,.int .i64 st2.2)] [(6,.box 35 [.int .i64 (v0.getD st1.2.toNat (0,0,0)).1,.int .i64 (v0.getD st1.2.toNat (0,0,0)).2.1,.int .i64 (v0.getD st1.2.toNat (0,0,0)).2.2]),(8,.box 35 [.int .i64 (v0.getD st2.2.toNat (0,0,0)).1,.int .i64 (v0.getD st2.2.toNat (0,0,0)).2.1,.int .i64 (v0.getD st2.2.toNat (0,0,0)).2.2]),(54,.arr 30 (.sl Y0) st2.1),(24000,.arr 35 Y0 v0)] ?_
        refine AW.seq ?_
        refine zo ?_
        refine zS 5 [(0,.sl (.sl (.pair (.int .i64) .bool)) x0),(3,.own 54),(4,.own 24000),(6,.bp 6 0),(8,.bp 8 0),(15,.own 24000),(16,.int .i64 (v0.length:Int)),(17,.int .i64 st1.2),(21,.own 24000),(22,.int .i64 (v0.length:Int)),(23,.int .i64 st2.2),(31,.bool (decide ((v0.getD st1.2.toNat (0,0,0)).1=(v0.getD st2.2.toNat (0,0,0)).1)))] [(6,.box 35 [.int .i64 (v0.getD st1.2.toNat (0,0,0)).1,.int .i64 (v0.getD st1.2.toNat (0,0,0)).2.1,.int .i64 (v0.getD st1.2.toNat (0,0,0)).2.2]),(8,.box 35 [.int .i64 (v0.getD st2.2.toNat (0,0,0)).1,.int .i64 (v0.getD st2.2.toNat (0,0,0)).2.1,.int .i64 (v0.getD st2.2.toNat (0,0,0)).2.2]),(54,.arr 30 (.sl Y0) st2.1),(24000,.arr 35 Y0 v0)] ?_
        refine zS 1 [(0,.sl (.sl (.pair (.int .i64) .bool)) x0),(3,.own 54),(4,.own 24000),(6,.bp 6 0),(8,.bp 8 0),(15,.own 24000),(16,.int .i64 (v0.length:Int)),(17,.int .i64 st1.2),(21,.own 24000),(22,.int .i64 (v0.length:Int)),(23,.int .i64 st2.2),(32,.bool (decide ((v0.getD st1.2.toNat (0,0,0)).1=(v0.getD st2.2.toNat (0,0,0)).1)))] [(6,.box 35 [.int .i64 (v0.getD st1.2.toNat (0,0,0)).1,.int .i64 (v0.getD st1.2.toNat (0,0,0)).2.1,.int .i64 (v0.getD st1.2.toNat (0,0,0)).2.2]),(8,.box 35 [.int .i64 (v0.getD st2.2.toNat (0,0,0)).1,.int .i64 (v0.getD st2.2.toNat (0,0,0)).2.1,.int .i64 (v0.getD st2.2.toNat (0,0,0)).2.2]),(54,.arr 30 (.sl Y0) st2.1),(24000,.arr 35 Y0 v0)] ?_
        rcases zI h with ⟨hb20,h⟩|⟨hb20,h⟩
        ·refine zS 4 [(0,.sl (.sl (.pair (.int .i64) .bool)) x0),(3,.own 54),(4,.own 24000),(6,.bp 6 0),(8,.bp 8 0),(15,.own 24000),(16,.int .i64 (v0.length:Int)),(17,.int .i64 st1.2),(21,.own 24000),(22,.int .i64 (v0.length:Int)),(23,.int .i64 st2.2),(32,.bool true),(33,.cv (undef)),(35,.cv (undef)),(36,.cv (undef))] [(6,.box 35 [.int .i64 (v0.getD st1.2.toNat (0,0,0)).1,.int .i64 (v0.getD st1.2.toNat (0,0,0)).2.1,.int .i64 (v0.getD st1.2.toNat (0,0,0)).2.2]),(8,.box 35 [.int .i64 (v0.getD st2.2.toNat (0,0,0)).1,.int .i64 (v0.getD st2.2.toNat (0,0,0)).2.1,.int .i64 (v0.getD st2.2.toNat (0,0,0)).2.2]),(54,.arr 30 (.sl Y0) st2.1),(24000,.arr 35 Y0 v0)] ?_
         refine zS 4 [(0,.sl (.sl (.pair (.int .i64) .bool)) x0),(3,.own 54),(4,.own 24000),(6,.bp 6 0),(8,.bp 8 0),(15,.own 24000),(16,.int .i64 (v0.length:Int)),(17,.int .i64 st1.2),(21,.own 24000),(22,.int .i64 (v0.length:Int)),(23,.int .i64 st2.2),(32,.bool true),(33,.cv (undef)),(35,.cv (undef)),(37,.cv (undef)),(39,.cv (undef)),(40,.cv (undef))] [(6,.box 35 [.int .i64 (v0.getD st1.2.toNat (0,0,0)).1,.int .i64 (v0.getD st1.2.toNat (0,0,0)).2.1,.int .i64 (v0.getD st1.2.toNat (0,0,0)).2.2]),(8,.box 35 [.int .i64 (v0.getD st2.2.toNat (0,0,0)).1,.int .i64 (v0.getD st2.2.toNat (0,0,0)).2.1,.int .i64 (v0.getD st2.2.toNat (0,0,0)).2.2]),(54,.arr 30 (.sl Y0) st2.1),(24000,.arr 35 Y0 v0)] ?_
         refine zB [(0,.sl (.sl (.pair (.int .i64) .bool)) x0),(3,.own 54),(4,.own 24000),(6,.bp 6 0),(8,.bp 8 0),(15,.own 24000),(16,.int .i64 (v0.length:Int)),(17,.int .i64 st1.2),(21,.own 24000),(22,.int .i64 (v0.length:Int)),(23,.int .i64 st2.2),(44,.bool true)] [(6,.box 35 [.int .i64 (v0.getD st1.2.toNat (0,0,0)).1,.int .i64 (v0.getD st1.2.toNat (0,0,0)).2.1,.int .i64 (v0.getD st1.2.toNat (0,0,0)).2.2]),(8,.box 35 [.int .i64 (v0.getD st2.2.toNat (0,0,0)).1,.int .i64 (v0.getD st2.2.toNat (0,0,0)).2.1,.int .i64 (v0.getD st2.2.toNat (0,0,0)).2.2]),(54,.arr 30 (.sl Y0) st2.1),(24000,.arr 35 Y0 v0)] ?_
         refine AW.cond (b:=true) rfl (fun _=>?_) (fun hb21=>by cases hb21)
         refine AW.exit ?_
         refine athen_e ?_
         refine ablock_s ?_
         refine athen_n ?_
         exact AW.weaken (zL [] [] []) (hk_linealref09_circles_k3 _ h)
        ·refine zS 5 [(0,.sl (.sl (.pair (.int .i64) .bool)) x0),(3,.own 54),(4,.own 24000),(6,.bp 6 0),(8,.bp 8 0),(15,.own 24000),(16,.int .i64 (v0.length:Int)),(17,.int .i64 st1.2),(21,.own 24000),(22,.int .i64 (v0.length:Int)),(23,.int .i64 st2.2),(32,.bool false),(33,.sl (.sl (.pair (.int .i64) .bool)) x0),(35,.int .i64 (v0.getD st1.2.toNat (0,0,0)).1),(37,.int .i64 (v0.getD st1.2.toNat (0,0,0)).2.2)] [(6,.box 35 [.int .i64 (v0.getD st1.2.toNat (0,0,0)).1,.int .i64 (v0.getD st1.2.toNat (0,0,0)).2.1,.int .i64 (v0.getD st1.2.toNat (0,0,0)).2.2]),(8,.box 35 [.int .i64 (v0.getD st2.2.toNat (0,0,0)).1,.int .i64 (v0.getD st2.2.toNat (0,0,0)).2.1,.int .i64 (v0.getD st2.2.toNat (0,0,0)).2.2]),(54,.arr 30 (.sl Y0) st2.1),(24000,.arr 35 Y0 v0)] ?_
         refine zS 4 [(0,.sl (.sl (.pair (.int .i64) .bool)) x0),(3,.own 54),(4,.own 24000),(6,.bp 6 0),(8,.bp 8 0),(15,.own 24000),(16,.int .i64 (v0.length:Int)),(17,.int .i64 st1.2),(21,.own 24000),(22,.int .i64 (v0.length:Int)),(23,.int .i64 st2.2),(32,.bool false),(33,.sl (.sl (.pair (.int .i64) .bool)) x0),(35,.int .i64 (v0.getD st1.2.toNat (0,0,0)).1),(37,.int .i64 (v0.getD st1.2.toNat (0,0,0)).2.2),(39,.int .i64 (v0.getD st2.2.toNat (0,0,0)).1),(41,.int .i64 (v0.getD st2.2.toNat (0,0,0)).2.1)] [(6,.box 35 [.int .i64 (v0.getD st1.2.toNat (0,0,0)).1,.int .i64 (v0.getD st1.2.toNat (0,0,0)).2.1,.int .i64 (v0.getD st1.2.toNat (0,0,0)).2.2]),(8,.box 35 [.int .i64 (v0.getD st2.2.toNat (0,0,0)).1,.int .i64 (v0.getD st2.2.toNat (0,0,0)).2.1,.int .i64 (v0.getD st2.2.toNat (0,0,0)).2.2]),(54,.arr 30 (.sl Y0) st2.1),(24000,.arr 35 Y0 v0)] ?_
         obtain ⟨v0_2,hv22,h⟩:=Option.bind_eq_some_iff.1 h
         refine zG [] [] (hc_linealref09_conflict x0 (v0.getD st1.2.toNat (0,0,0)).1 (v0.getD st1.2.toNat (0,0,0)).2.2 (v0.getD st2.2.toNat (0,0,0)).1 (v0.getD st2.2.toNat (0,0,0)).2.1 hv22) [(0,.sl (.sl (.pair (.int .i64) .bool)) x0),(3,.own 54),(4,.own 24000),(6,.bp 6 0),(8,.bp 8 0),(15,.own 24000),(16,.int .i64 (v0.length:Int)),(17,.int .i64 st1.2),(21,.own 24000),(22,.int .i64 (v0.length:Int)),(23,.int .i64 st2.2),(32,.bool false),(42,.bool v0_2)] [(6,.box 35 [.int .i64 (v0.getD st1.2.toNat (0,0,0)).1,.int .i64 (v0.getD st1.2.toNat (0,0,0)).2.1,.int .i64 (v0.getD st1.2.toNat (0,0,0)).2.2]),(8,.box 35 [.int .i64 (v0.getD st2.2.toNat (0,0,0)).1,.int .i64 (v0.getD st2.2.toNat (0,0,0)).2.1,.int .i64 (v0.getD st2.2.toNat (0,0,0)).2.2]),(54,.arr 30 (.sl Y0) st2.1),(24000,.arr 35 Y0 v0)] ?_
         refine zB [(0,.sl (.sl (.pair (.int .i64) .bool)) x0),(3,.own 54),(4,.own 24000),(6,.bp 6 0),(8,.bp 8 0),(15,.own 24000),(16,.int .i64 (v0.length:Int)),(17,.int .i64 st1.2),(21,.own 24000),(22,.int .i64 (v0.length:Int)),(23,.int .i64 st2.2),(44,.bool (!v0_2))] [(6,.box 35 [.int .i64 (v0.getD st1.2.toNat (0,0,0)).1,.int .i64 (v0.getD st1.2.toNat (0,0,0)).2.1,.int .i64 (v0.getD st1.2.toNat (0,0,0)).2.2]),(8,.box 35 [.int .i64 (v0.getD st2.2.toNat (0,0,0)).1,.int .i64 (v0.getD st2.2.toNat (0,0,0)).2.1,.int .i64 (v0.getD st2.2.toNat (0,0,0)).2.2]),(54,.arr 30 (.sl Y0) st2.1),(24000,.arr 35 Y0 v0)] ?_
         refine zQ h (fun hb23 h=>?_) (fun hb23 h=>?_)
         ·refine AW.exit ?_
          refine athen_e ?_
          refine ablock_s ?_
          refine athen_n ?_
          exact AW.weaken (zL [] [] []) (hk_linealref09_circles_k3 _ h)
         ·refine zk ?_
          refine AW.have2 (fun b4:(List (List (Int×Int×Int)))=>linealref09_circles_k4 x0 v0 st1 st2 b4=some x14) (fun b4=>⟨fr [(0,.sl (.sl (.pair (.int .i64) .bool)) x0),(3,.own 54),(4,.own 24000),(6,.bp 6 0),(8,.bp 8 0),(15,.own 24000),(16,.int .i64 (v0.length:Int)),(17,.int .i64 st1.2),(21,.own 24000),(22,.int .i64 (v0.length:Int)),(23,.int .i64 st2.2),(55,.own 24000),(56,.int .i64 (v0.length:Int)),(57,.int .i64 0)],hpGet [(6,.box 35 [.int .i64 (v0.getD st1.2.toNat (0,0,0)).1,.int .i64 (v0.getD st1.2.toNat (0,0,0)).2.1,.int .i64 (v0.getD st1.2.toNat (0,0,0)).2.2]),(8,.box 35 [.int .i64 (v0.getD st2.2.toNat (0,0,0)).1,.int .i64 (v0.getD st2.2.toNat (0,0,0)).2.1,.int .i64 (v0.getD st2.2.toNat (0,0,0)).2.2]),(54,.arr 30 (.sl Y0) b4),(24000,.arr 35 Y0 v0)],gt⟩) (fun b4 h=>?_) (fun hk_linealref09_circles_k4=>?_)
          ·as_aux_lemma =>
            unfold linealref09_circles_k4 at h
            refine AW.block ?_
            obtain ⟨rv28,hw24,ho25⟩:=Option.bind_eq_some_iff.1 h
            refine AW.loopO (linealref09_circles_b3 x0 v0 st1 st2) (fun st3=>⟨fr [(0,.sl (.sl (.pair (.int .i64) .bool)) x0),(3,.own 54),(4,.own 24000),(6,.bp 6 0),(8,.bp 8 0),(15,.own 24000),(16,.int .i64 (v0.length:Int)),(17,.int .i64 st1.2),(21,.own 24000),(22,.int .i64 (v0.length:Int)),(23,.int .i64 st2.2),(55,.own 24000),(56,.int .i64 (v0.length:Int)),(57,.int .i64 st3.2)],hpGet [(6,.box 35 [.int .i64 (v0.getD st1.2.toNat (0,0,0)).1,.int .i64 (v0.getD st1.2.toNat (0,0,0)).2.1,.int .i64 (v0.getD st1.2.toNat (0,0,0)).2.2]),(8,.box 35 [.int .i64 (v0.getD st2.2.toNat (0,0,0)).1,.int .i64 (v0.getD st2.2.toNat (0,0,0)).2.1,.int .i64 (v0.getD st2.2.toNat (0,0,0)).2.2]),(54,.arr 30 (.sl Y0) st3.1),(24000,.arr 35 Y0 v0)],gt⟩) (b4,0) hw24 (zL [] [] []) ?_
            as_aux_lemma =>
             intro st3 x27 h hd26
             unfold linealref09_circles_b3 at h
             refine zo ?_
             refine zB [(0,.sl (.sl (.pair (.int .i64) .bool)) x0),(3,.own 54),(4,.own 24000),(6,.bp 6 0),(8,.bp 8 0),(15,.own 24000),(16,.int .i64 (v0.length:Int)),(17,.int .i64 st1.2),(21,.own 24000),(22,.int .i64 (v0.length:Int)),(23,.int .i64 st2.2),(55,.own 24000),(56,.int .i64 (v0.length:Int)),(57,.int .i64 st3.2),(58,.bool (decide (st3.2<(v0.length:Int))))] [(6,.box 35 [.int .i64 (v0.getD st1.2.toNat (0,0,0)).1,.int .i64 (v0.getD st1.2.toNat (0,0,0)).2.1,.int .i64 (v0.getD st1.2.toNat (0,0,0)).2.2]),(8,.box 35 [.int .i64 (v0.getD st2.2.toNat (0,0,0)).1,.int .i64 (v0.getD st2.2.toNat (0,0,0)).2.1,.int .i64 (v0.getD st2.2.toNat (0,0,0)).2.2]),(54,.arr 30 (.sl Y0) st3.1),(24000,.arr 35 Y0 v0)] ?_
             refine AW.seq ?_
             refine zQ h (fun hb29 h=>?_) (fun hb29 h=>?_)
             ·refine zk ?_
              refine AW.seq ?_
              refine AW.block ?_
              refine zo ?_
              obtain ⟨c30,h⟩:=ck_some.1 h
              obtain ⟨c31,h⟩:=ck_some.1 h
              refine zB [(0,.sl (.sl (.pair (.int .i64) .bool)) x0),(3,.own 54),(4,.own 24000),(6,.bp 6 0),(8,.bp 8 0),(11,.bp 11 0),(15,.own 24000),(16,.int .i64 (v0.length:Int)),(17,.int .i64 st1.2),(21,.own 24000),(22,.int .i64 (v0.length:Int)),(23,.int .i64 st2.2),(55,.own 24000),(56,.int .i64 (v0.length:Int)),(57,.int .i64 st3.2)] [(6,.box 35 [.int .i64 (v0.getD st1.2.toNat (0,0,0)).1,.int .i64 (v0.getD st1.2.toNat (0,0,0)).2.1,.int .i64 (v0.getD st1.2.toNat (0,0,0)).2.2]),(8,.box 35 [.int .i64 (v0.getD st2.2.toNat (0,0,0)).1,.int .i64 (v0.getD st2.2.toNat (0,0,0)).2.1,.int .i64 (v0.getD st2.2.toNat (0,0,0)).2.2]),(11,.box 35 [.int .i64 (v0.getD st3.2.toNat (0,0,0)).1,.int .i64 (v0.getD st3.2.toNat (0,0,0)).2.1,.int .i64 (v0.getD st3.2.toNat (0,0,0)).2.2]),(54,.arr 30 (.sl Y0) st3.1),(24000,.arr 35 Y0 v0)] ?_
              refine zo ?_
              refine zB [(0,.sl (.sl (.pair (.int .i64) .bool)) x0),(3,.own 54),(4,.own 24000),(6,.bp 6 0),(8,.bp 8 0),(12,.own 64),(15,.own 24000),(16,.int .i64 (v0.length:Int)),(17,.int .i64 st1.2),(21,.own 24000),(22,.int .i64 (v0.length:Int)),(23,.int .i64 st2.2),(55,.own 24000),(56,.int .i64 (v0.length:Int)),(57,.int .i64 st3.2)] [(6,.box 35 [.int .i64 (v0.getD st1.2.toNat (0,0,0)).1,.int .i64 (v0.getD st1.2.toNat (0,0,0)).2.1,.int .i64 (v0.getD st1.2.toNat (0,0,0)).2.2]),(8,.box 35 [.int .i64 (v0.getD st2.2.toNat (0,0,0)).1,.int .i64 (v0.getD st2.2.toNat (0,0,0)).2.1,.int .i64 (v0.getD st2.2.toNat (0,0,0)).2.2]),(54,.arr 30 (.sl Y0) st3.1),(64,.arr 35 Y0 [(v0.getD st1.2.toNat (0,0,0)),(v0.getD st2.2.toNat (0,0,0)),(v0.getD st3.2.toNat (0,0,0))]),(24000,.arr 35 Y0 v0)] ?_
              refine zo ?_
              refine zS 2 [(0,.sl (.sl (.pair (.int .i64) .bool)) x0),(3,.own 54),(4,.own 24000),(6,.bp 6 0),(8,.bp 8 0),(12,.own 64),(15,.own 24000),(16,.int .i64 (v0.length:Int)),(17,.int .i64 st1.2),(21,.own 24000),(22,.int .i64 (v0.length:Int)),(23,.int .i64 st2.2),(55,.own 24000),(56,.int .i64 (v0.length:Int)),(57,.int .i64 st3.2),(65,.sl (.sl (.pair (.int .i64) .bool)) x0),(66,.own 64)] [(6,.box 35 [.int .i64 (v0.getD st1.2.toNat (0,0,0)).1,.int .i64 (v0.getD st1.2.toNat (0,0,0)).2.1,.int .i64 (v0.getD st1.2.toNat (0,0,0)).2.2]),(8,.box 35 [.int .i64 (v0.getD st2.2.toNat (0,0,0)).1,.int .i64 (v0.getD st2.2.toNat (0,0,0)).2.1,.int .i64 (v0.getD st2.2.toNat (0,0,0)).2.2]),(54,.arr 30 (.sl Y0) st3.1),(64,.arr 35 Y0 [(v0.getD st1.2.toNat (0,0,0)),(v0.getD st2.2.toNat (0,0,0)),(v0.getD st3.2.toNat (0,0,0))]),(24000,.arr 35 Y0 v0)] ?_
              obtain ⟨v0_4,hv32,h⟩:=Option.bind_eq_some_iff.1 h
              refine zC [64] [] (hc_linealref09_isCircle x0 [(v0.getD st1.2.toNat (0,0,0)),(v0.getD st2.2.toNat (0,0,0)),(v0.getD st3.2.toNat (0,0,0))] hv32) [(0,.sl (.sl (.pair (.int .i64) .bool)) x0),(3,.own 54),(4,.own 24000),(6,.bp 6 0),(8,.bp 8 0),(12,.own 64),(15,.own 24000),(16,.int .i64 (v0.length:Int)),(17,.int .i64 st1.2),(21,.own 24000),(22,.int .i64 (v0.length:Int)),(23,.int .i64 st2.2),(55,.own 24000),(56,.int .i64 (v0.length:Int)),(57,.int .i64 st3.2),(67,.bool v0_4)] [(6,.box 35 [.int .i64 (v0.getD st1.2.toNat (0,0,0)).1,.int .i64 (v0.getD st1.2.toNat (0,0,0)).2.1,.int .i64 (v0.getD st1.2.toNat (0,0,0)).2.2]),(8,.box 35 [.int .i64 (v0.getD st2.2.toNat (0,0,0)).1,.int .i64 (v0.getD st2.2.toNat (0,0,0)).2.1,.int .i64 (v0.getD st2.2.toNat (0,0,0)).2.2]),(54,.arr 30 (.sl Y0) st3.1),(64,.arr 35 Y0 [(v0.getD st1.2.toNat (0,0,0)),(v0.getD st2.2.toNat (0,0,0)),(v0.getD st3.2.toNat (0,0,0))]),(24000,.arr 35 Y0 v0)] ?_
              refine zB [(0,.sl (.sl (.pair (.int .i64) .bool)) x0),(3,.own 54),(4,.own 24000),(6,.bp 6 0),(8,.bp 8 0),(12,.own 64),(15,.own 24000),(16,.int .i64 (v0.length:Int)),(17,.int .i64 st1.2),(21,.own 24000),(22,.int .i64 (v0.length:Int)),(23,.int .i64 st2.2),(55,.own 24000),(56,.int .i64 (v0.length:Int)),(57,.int .i64 st3.2),(67,.bool v0_4)] [(6,.box 35 [.int .i64 (v0.getD st1.2.toNat (0,0,0)).1,.int .i64 (v0.getD st1.2.toNat (0,0,0)).2.1,.int .i64 (v0.getD st1.2.toNat (0,0,0)).2.2]),(8,.box 35 [.int .i64 (v0.getD st2.2.toNat (0,0,0)).1,.int .i64 (v0.getD st2.2.toNat (0,0,0)).2.1,.int .i64 (v0.getD st2.2.toNat (0,0,0)).2.2]),(54,.arr 30 (.sl Y0) st3.1),(64,.arr 35 Y0 [(v0.getD st1.2.toNat (0,0,0)),(v0.getD st2.2.toNat (0,0,0)),(v0.getD st3.2.toNat (0,0,0))]),(24000,.arr 35 Y0 v0)] ?_
              refine zQ h (fun hb33 h=>?_) (fun hb33 h=>?_)
              ·refine AW.ops ?_
               obtain ⟨c34,h⟩:=ck_some.1 h
               refine zA [(0,.sl (.sl (.pair (.int .i64) .bool)) x0),(3,.own 71),(4,.own 24000),(6,.bp 6 0),(8,.bp 8 0),(15,.own 24000),(16,.int .i64 (v0.length:Int)),(17,.int .i64 st1.2),(21,.own 24000),(22,.int .i64 (v0.length:Int)),(23,.int .i64 st2.2),(55,.own 24000),(56,.int .i64 (v0.length:Int)),(57,.int .i64 st3.2)] [(6,.box 35 [.int .i64 (v0.getD st1.2.toNat (0,0,0)).1,.int .i64 (v0.getD st1.2.toNat (0,0,0)).2.1,.int .i64 (v0.getD st1.2.toNat (0,0,0)).2.2]),(8,.box 35 [.int .i64 (v0.getD st2.2.toNat (0,0,0)).1,.int .i64 (v0.getD st2.2.toNat (0,0,0)).2.1,.int .i64 (v0.getD st2.2.toNat (0,0,0)).2.2]),(71,.arr 30 (.sl Y0) (st3.1++[[(v0.getD st1.2.toNat (0,0,0)),(v0.getD st2.2.toNat (0,0,0)),(v0.getD st3.2.toNat (0,0,0))]])),(24000,.arr 35 Y0 v0)] ?_
               refine ablock_n ?_
               refine athen_n ?_
               refine AW.ops ?_
               obtain ⟨c35,h⟩:=ck_some.1 h
               refine zA [(0,.sl (.sl (.pair (.int .i64) .bool)) x0),(3,.own 71),(4,.own 24000),(6,.bp 6 0),(8,.bp 8 0),(15,.own 24000),(16,.int .i64 (v0.length:Int)),(17,.int .i64 st1.2),(21,.own 24000),(22,.int .i64 (v0.length:Int)),(23,.int .i64 st2.2),(55,.own 24000),(56,.int .i64 (v0.length:Int)),(57,.int .i64 (st3.2+1))] [(6,.box 35 [.int .i64 (v0.getD st1.2.toNat (0,0,0)).1,.int .i64 (v0.getD st1.2.toNat (0,0,0)).2.1,.int .i64 (v0.getD st1.2.toNat (0,0,0)).2.2]),(8,.box 35 [.int .i64 (v0.getD st2.2.toNat (0,0,0)).1,.int .i64 (v0.getD st2.2.toNat (0,0,0)).2.1,.int .i64 (v0.getD st2.2.toNat (0,0,0)).2.2]),(71,.arr 30 (.sl Y0) (st3.1++[[(v0.getD st1.2.toNat (0,0,0)),(v0.getD st2.2.toNat (0,0,0)),(v0.getD st3.2.toNat (0,0,0))]])),(24000,.arr 35 Y0 v0)] ?_
               obtain rfl:=Option.some.inj h
               exact ⟨_,rfl,zL [] [] [(54,71)]⟩
              ·refine zm ?_
               refine athen_n ?_
               refine AW.ops ?_
               obtain ⟨c36,h⟩:=ck_some.1 h
               refine zA [(0,.sl (.sl (.pair (.int .i64) .bool)) x0),(3,.own 54),(4,.own 24000),(6,.bp 6 0),(8,.bp 8 0),(15,.own 24000),(16,.int .i64 (v0.length:Int)),(17,.int .i64 st1.2),(21,.own 24000),(22,.int .i64 (v0.length:Int)),(23,.int .i64 st2.2),(55,.own 24000),(56,.int .i64 (v0.length:Int)),(57,.int .i64 (st3.2+1))] [(6,.box 35 [.int .i64 (v0.getD st1.2.toNat (0,0,0)).1,.int .i64 (v0.getD st1.2.toNat (0,0,0)).2.1,.int .i64 (v0.getD st1.2.toNat (0,0,0)).2.2]),(8,.box 35 [.int .i64 (v0.getD st2.2.toNat (0,0,0)).1,.int .i64 (v0.getD st2.2.toNat (0,0,0)).2.1,.int .i64 (v0.getD st2.2.toNat (0,0,0)).2.2]),(54,.arr 30 (.sl Y0) st3.1),(24000,.arr 35 Y0 v0)] ?_
               obtain rfl:=Option.some.inj h
               exact ⟨_,rfl,zL [] [] []⟩
             ·refine AW.exit ?_
              refine athen_e ?_
              obtain rfl:=Option.some.inj h
              rw [← hd26 _ rfl] at ho25
              have h:=ho25
              refine athen_e ?_
              refine ablock_s ?_
              refine ablock_n ?_
              refine athen_n ?_
              exact AW.weaken (zL [] [] []) (hk_linealref09_circles_k3 _ h)
          ·refine AW.seq ?_
           refine zo ?_
           refine zB [(0,.sl (.sl (.pair (.int .i64) .bool)) x0),(3,.own 54),(4,.own 24000),(6,.bp 6 0),(8,.bp 8 0),(9,.own 47),(15,.own 24000),(16,.int .i64 (v0.length:Int)),(17,.int .i64 st1.2),(21,.own 24000),(22,.int .i64 (v0.length:Int)),(23,.int .i64 st2.2)] [(6,.box 35 [.int .i64 (v0.getD st1.2.toNat (0,0,0)).1,.int .i64 (v0.getD st1.2.toNat (0,0,0)).2.1,.int .i64 (v0.getD st1.2.toNat (0,0,0)).2.2]),(8,.box 35 [.int .i64 (v0.getD st2.2.toNat (0,0,0)).1,.int .i64 (v0.getD st2.2.toNat (0,0,0)).2.1,.int .i64 (v0.getD st2.2.toNat (0,0,0)).2.2]),(47,.arr 35 Y0 [(v0.getD st1.2.toNat (0,0,0)),(v0.getD st2.2.toNat (0,0,0))]),(54,.arr 30 (.sl Y0) st2.1),(24000,.arr 35 Y0 v0)] ?_
           refine zo ?_
           refine zS 2 [(0,.sl (.sl (.pair (.int .i64) .bool)) x0),(3,.own 54),(4,.own 24000),(6,.bp 6 0),(8,.bp 8 0),(9,.own 47),(15,.own 24000),(16,.int .i64 (v0.length:Int)),(17,.int .i64 st1.2),(21,.own 24000),(22,.int .i64 (v0.length:Int)),(23,.int .i64 st2.2),(48,.sl (.sl (.pair (.int .i64) .bool)) x0),(49,.own 47)] [(6,.box 35 [.int .i64 (v0.getD st1.2.toNat (0,0,0)).1,.int .i64 (v0.getD st1.2.toNat (0,0,0)).2.1,.int .i64 (v0.getD st1.2.toNat (0,0,0)).2.2]),(8,.box 35 [.int .i64 (v0.getD st2.2.toNat (0,0,0)).1,.int .i64 (v0.getD st2.2.toNat (0,0,0)).2.1,.int .i64 (v0.getD st2.2.toNat (0,0,0)).2.2]),(47,.arr 35 Y0 [(v0.getD st1.2.toNat (0,0,0)),(v0.getD st2.2.toNat (0,0,0))]),(54,.arr 30 (.sl Y0) st2.1),(24000,.arr 35 Y0 v0)] ?_
           obtain ⟨v0_3,hv37,h⟩:=Option.bind_eq_some_iff.1 h
           refine zC [47] [] (hc_linealref09_isCircle x0 [(v0.getD st1.2.toNat (0,0,0)),(v0.getD st2.2.toNat (0,0,0))] hv37) [(0,.sl (.sl (.pair (.int .i64) .bool)) x0),(3,.own 54),(4,.own 24000),(6,.bp 6 0),(8,.bp 8 0),(9,.own 47),(15,.own 24000),(16,.int .i64 (v0.length:Int)),(17,.int .i64 st1.2),(21,.own 24000),(22,.int .i64 (v0.length:Int)),(23,.int .i64 st2.2),(50,.bool v0_3)] [(6,.box 35 [.int .i64 (v0.getD st1.2.toNat (0,0,0)).1,.int .i64 (v0.getD st1.2.toNat (0,0,0)).2.1,.int .i64 (v0.getD st1.2.toNat (0,0,0)).2.2]),(8,.box 35 [.int .i64 (v0.getD st2.2.toNat (0,0,0)).1,.int .i64 (v0.getD st2.2.toNat (0,0,0)).2.1,.int .i64 (v0.getD st2.2.toNat (0,0,0)).2.2]),(47,.arr 35 Y0 [(v0.getD st1.2.toNat (0,0,0)),(v0.getD st2.2.toNat (0,0,0))]),(54,.arr 30 (.sl Y0) st2.1),(24000,.arr 35 Y0 v0)] ?_
           refine zB [(0,.sl (.sl (.pair (.int .i64) .bool)) x0),(3,.own 54),(4,.own 24000),(6,.bp 6 0),(8,.bp 8 0),(9,.own 47),(15,.own 24000),(16,.int .i64 (v0.length:Int)),(17,.int .i64 st1.2),(21,.own 24000),(22,.int .i64 (v0.length:Int)),(23,.int .i64 st2.2),(50,.bool v0_3)] [(6,.box 35 [.int .i64 (v0.getD st1.2.toNat (0,0,0)).1,.int .i64 (v0.getD st1.2.toNat (0,0,0)).2.1,.int .i64 (v0.getD st1.2.toNat (0,0,0)).2.2]),(8,.box 35 [.int .i64 (v0.getD st2.2.toNat (0,0,0)).1,.int .i64 (v0.getD st2.2.toNat (0,0,0)).2.1,.int .i64 (v0.getD st2.2.toNat (0,0,0)).2.2]),(47,.arr 35 Y0 [(v0.getD st1.2.toNat (0,0,0)),(v0.getD st2.2.toNat (0,0,0))]),(54,.arr 30 (.sl Y0) st2.1),(24000,.arr 35 Y0 v0)] ?_
           refine zQ h (fun hb38 h=>?_) (fun hb38 h=>?_)
           ·refine AW.ops ?_
            obtain ⟨c39,h⟩:=ck_some.1 h
            refine zB [(0,.sl (.sl (.pair (.int .i64) .bool)) x0),(3,.own 54),(4,.own 24000),(6,.bp 6 0),(8,.bp 8 0),(15,.own 24000),(16,.int .i64 (v0.length:Int)),(17,.int .i64 st1.2),(21,.own 24000),(22,.int .i64 (v0.length:Int)),(23,.int .i64 st2.2)] [(6,.box 35 [.int .i64 (v0.getD st1.2.toNat (0,0,0)).1,.int .i64 (v0.getD st1.2.toNat (0,0,0)).2.1,.int .i64 (v0.getD st1.2.toNat (0,0,0)).2.2]),(8,.box 35 [.int .i64 (v0.getD st2.2.toNat (0,0,0)).1,.int .i64 (v0.getD st2.2.toNat (0,0,0)).2.1,.int .i64 (v0.getD st2.2.toNat (0,0,0)).2.2]),(54,.arr 30 (.sl Y0) (st2.1++[[(v0.getD st1.2.toNat (0,0,0)),(v0.getD st2.2.toNat (0,0,0))]])),(24000,.arr 35 Y0 v0)] ?_
            refine zo ?_
            refine zB [(0,.sl (.sl (.pair (.int .i64) .bool)) x0),(3,.own 54),(4,.own 24000),(6,.bp 6 0),(8,.bp 8 0),(15,.own 24000),(16,.int .i64 (v0.length:Int)),(17,.int .i64 st1.2),(21,.own 24000),(22,.int .i64 (v0.length:Int)),(23,.int .i64 st2.2),(55,.own 24000),(56,.int .i64 (v0.length:Int)),(57,.int .i64 0)] [(6,.box 35 [.int .i64 (v0.getD st1.2.toNat (0,0,0)).1,.int .i64 (v0.getD st1.2.toNat (0,0,0)).2.1,.int .i64 (v0.getD st1.2.toNat (0,0,0)).2.2]),(8,.box 35 [.int .i64 (v0.getD st2.2.toNat (0,0,0)).1,.int .i64 (v0.getD st2.2.toNat (0,0,0)).2.1,.int .i64 (v0.getD st2.2.toNat (0,0,0)).2.2]),(54,.arr 30 (.sl Y0) (st2.1++[[(v0.getD st1.2.toNat (0,0,0)),(v0.getD st2.2.toNat (0,0,0))]])),(24000,.arr 35 Y0 v0)] ?_
            exact AW.weaken (zL [] [] []) (hk_linealref09_circles_k4 _ h)
           ·refine zk ?_
            refine zo ?_
            refine zB [(0,.sl (.sl (.pair (.int .i64) .bool)) x0),(3,.own 54),(4,.own 24000),(6,.bp 6 0),(8,.bp 8 0),(15,.own 24000),(16,.int .i64 (v0.length:Int)),(17,.int .i64 st1.2),(21,.own 24000),(22,.int .i64 (v0.length:Int)),(23,.int .i64 st2.2),(55,.own 24000),(56,.int .i64 (v0.length:Int)),(57,.int .i64 0)] [(6,.box 35 [.int .i64 (v0.getD st1.2.toNat (0,0,0)).1,.int .i64 (v0.getD st1.2.toNat (0,0,0)).2.1,.int .i64 (v0.getD st1.2.toNat (0,0,0)).2.2]),(8,.box 35 [.int .i64 (v0.getD st2.2.toNat (0,0,0)).1,.int .i64 (v0.getD st2.2.toNat (0,0,0)).2.1,.int .i64 (v0.getD st2.2.toNat (0,0,0)).2.2]),(54,.arr 30 (.sl Y0) st2.1),(24000,.arr 35 Y0 v0)] ?_
            exact AW.weaken (zL [] [] []) (hk_linealref09_circles_k4 _ h)
      ·refine AW.exit ?_
       refine athen_e ?_
       obtain rfl:=Option.some.inj h
       rw [← hd13 _ rfl] at ho12
       have h:=ho12
       refine athen_e ?_
       refine ablock_s ?_
       refine ablock_n ?_
       refine athen_n ?_
       exact AW.weaken (zL [] [] []) (hk_linealref09_circles_k2 _ h)
   ·refine AW.exit ?_
    refine athen_e ?_
    obtain rfl:=Option.some.inj h
    rw [← hd4 _ rfl] at ho3
    have h:=ho3
    refine athen_e ?_
    refine ablock_s ?_
    refine athen_n ?_
    exact AW.weaken (zL [] [] []) (hk_linealref09_circles_k1 _ h)
theorem hc_delay_accesses_found (x0:List (List (Int×Bool))) {r:(List ((Int×Int×Int)×(List (Int×Int×Int))))} (h:delay_accesses_found x0=some r):HC Try.prog 78 [] [.sl (.sl (.pair (.int .i64) .bool)) x0] [(2000,.map true false Y0 (.sl Y0) r)] (.own 2000):=by
 unfold delay_accesses_found at h
 refine zH Try.func78 [.tmp 2] 26 ?_
 refine zo ?_
 refine zB [(0,.sl (.sl (.pair (.int .i64) .bool)) x0)] [] ?_
 refine zo ?_
 refine AO.makeMap (ak:=true) (ae:=false) (kt:=Y0) (vt:=(.sl Y0)) (by decide) (by decide) rfl rfl ?_
 refine zT [(0,.sl (.sl (.pair (.int .i64) .bool)) x0),(7,.own 7)] [(7,.map true false Y0 (.sl Y0) [])] gt ?_
 refine zB [(0,.sl (.sl (.pair (.int .i64) .bool)) x0),(3,.bp 3 0)] [(3,.box 93 [.own 7]),(7,.map true false Y0 (.sl Y0) [])] ?_
 refine AW.have1 (fun b1:(List ((Int×Int×Int)×(List (Int×Int×Int))))=>delay_accesses_found_k1 b1=some r) (fun b1=>⟨fr [(3,.bp 3 0)],hpGet [(3,.box 93 [.own 7]),(7,.map true false Y0 (.sl Y0) b1)],gt⟩) (fun b1 h=>?_) (fun hk_delay_accesses_found_k1=>?_)
 ·as_aux_lemma =>
   unfold delay_accesses_found_k1 at h
   refine zo ?_
   refine zB [(2,.own 7)] [(7,.map true false Y0 (.sl Y0) b1)] ?_
   refine AW.ret ?_
   obtain rfl:=Option.some.inj h
   exact zR [] [] [(2000,7)]
 ·refine AW.seq ?_
  refine zo ?_
  refine zB [(3,.bp 3 0),(9,.fn (.func 73) [.sl (.sl (.pair (.int .i64) .bool)) x0] [])] [(3,.box 93 [.own 7]),(7,.map true false Y0 (.sl Y0) [])] ?_
  refine AW.block ?_
  obtain ⟨x1,hx2,h⟩:=Option.bind_eq_some_iff.1 h
  refine AW.weaken (s':=⟨fr [(3,.bp 3 0),(9,.fn (.func 73) [.sl (.sl (.pair (.int .i64) .bool)) x0] [])],hpGet ([]++[(3,.box 93 [.own 7]),(7,.map true false Y0 (.sl Y0) [])]),gt⟩) (zL [] [] []) ?_
  refine AW.rangeF (R:=Empty) (l0:=[(3,.bp 3 0)]) (hI:=[]) (h0:=fun (st1:(List ((Int×Int×Int)×(List (Int×Int×Int)))))=>[(3,.box 93 [.own 7]),(7,.map true false Y0 (.sl Y0) st1)]) (gg:=fun (st1:(List ((Int×Int×Int)×(List (Int×Int×Int)))))=>gt) (hx0:=(fun (r:Empty)=>r.elim)) (gx:=(fun (r:Empty)=>r.elim)) (ex:=(fun (r:Empty)=>r.elim)) [] [] [] [(3,1900)] [(1900,3)] (by decide) rfl (by first|exact (ic_delay_accesses_circles x0 (delay_accesses_found_y1) [] hx2)|simpa only [go_sem] using (ic_delay_accesses_circles x0 (delay_accesses_found_y1) [] hx2)) (by (simp only [go_sem])<;>(with_reducible and_intros)<;>first|assumption|rfl|omega|(unfold maxLen; omega)) rfl rfl rfl (fun _=>rfl) rfl (fun r=>r.elim) rfl (fun r=>r.elim) (fun r=>r.elim) (fun _=>rfl) (fun _=>rfl) rfl (fun _ _=>by first|rfl|(exact (hΓ _).trans (hΓ _).symm)|(exact (hΓx _).trans (hΓ _).symm)) (fun _ r=>r.elim) ?_ ?_
  ·intro lpy1 y1 st1 x3 h
   unfold delay_accesses_found_y1 at h
   refine zV [(3,.bp 1900 0),(10,.sl Y0 y1)] [(7,.map true false Y0 (.sl Y0) st1),(1900,.box 93 [.own 7])] gt ?_
   refine AW.ops ?_
   refine zA [(3,.bp 1900 0),(4,.sl Y0 y1)] [(7,.map true false Y0 (.sl Y0) st1),(1900,.box 93 [.own 7])] ?_
   refine And.intro rfl ?_
   refine AW.block ?_
   refine zo ?_
   refine zB [(3,.bp 1900 0),(4,.sl Y0 y1),(11,.sl Y0 y1),(12,.int .i64 (y1.length:Int)),(13,.int .i64 0)] [(7,.map true false Y0 (.sl Y0) st1),(1900,.box 93 [.own 7])] ?_
   refine AW.block ?_
   obtain ⟨rv8,hw4,ho5⟩:=Option.bind_eq_some_iff.1 h
   refine AW.loopO (delay_accesses_found_b2 y1) (fun st2=>⟨fr [(3,.bp 1900 0),(4,.sl Y0 y1),(11,.sl Y0 y1),(12,.int .i64 (y1.length:Int)),(13,.int .i64 st2.2)],hpGet [(7,.map true false Y0 (.sl Y0) st2.1),(1900,.box 93 [.own 7])],gt⟩) (st1,0) hw4 (zL [] [] []) ?_
   as_aux_lemma =>
    intro st2 x7 h hd6
    unfold delay_accesses_found_b2 at h
    refine zo ?_
    refine zB [(3,.bp 1900 0),(4,.sl Y0 y1),(11,.sl Y0 y1),(12,.int .i64 (y1.length:Int)),(13,.int .i64 st2.2),(14,.bool (decide (st2.2<(y1.length:Int))))] [(7,.map true false Y0 (.sl Y0) st2.1),(1900,.box 93 [.own 7])] ?_
    refine AW.seq ?_
    refine zQ h (fun hb9 h=>?_) (fun hb9 h=>?_)
    ·refine zk ?_
     refine AW.seq ?_
     refine AW.block ?_
     refine zo ?_
     obtain ⟨c10,h⟩:=ck_some.1 h
     obtain ⟨c11,h⟩:=ck_some.1 h
     refine zB [(3,.bp 1900 0),(4,.sl Y0 y1),(6,.bp 6 0),(11,.sl Y0 y1),(12,.int .i64 (y1.length:Int)),(13,.int .i64 st2.2)] [(6,.box 35 [.int .i64 (y1.getD st2.2.toNat (0,0,0)).1,.int .i64 (y1.getD st2.2.toNat (0,0,0)).2.1,.int .i64 (y1.getD st2.2.toNat (0,0,0)).2.2]),(7,.map true false Y0 (.sl Y0) st2.1),(1900,.box 93 [.own 7])] ?_
     refine zo ?_
     refine zS 2 [(3,.bp 1900 0),(4,.sl Y0 y1),(6,.bp 6 0),(11,.sl Y0 y1),(12,.int .i64 (y1.length:Int)),(13,.int .i64 st2.2),(17,.own 7),(18,.agg [.int .i64 (y1.getD st2.2.toNat (0,0,0)).1,.int .i64 (y1.getD st2.2.toNat (0,0,0)).2.1,.int .i64 (y1.getD st2.2.toNat (0,0,0)).2.2])] [(6,.box 35 [.int .i64 (y1.getD st2.2.toNat (0,0,0)).1,.int .i64 (y1.getD st2.2.toNat (0,0,0)).2.1,.int .i64 (y1.getD st2.2.toNat (0,0,0)).2.2]),(7,.map true false Y0 (.sl Y0) st2.1),(1900,.box 93 [.own 7])] ?_
     obtain ⟨c12,h⟩:=ck_some.1 h
     obtain ⟨c13,h⟩:=ck_some.1 h
     obtain ⟨c14,h⟩:=ck_some.1 h
     obtain ⟨c15,h⟩:=ck_some.1 h
     refine AO.lookupNil tab_ok mapty_93 (by decide) (by decide) rfl rfl rfl rfl (neg:=false) rfl tab_30 rfl rfl (by first|rfl|(simp only [go_sem,hb9])<;>(with_reducible and_intros)<;>first|assumption|rfl|omega|(unfold maxLen; omega)) (l:=[.int .i64 (y1.getD st2.2.toNat (0,0,0)).1,.int .i64 (y1.getD st2.2.toNat (0,0,0)).2.1,.int .i64 (y1.getD st2.2.toNat (0,0,0)).2.2]) (by first|rfl|(simp only [go_sem,hb9])<;>(with_reducible and_intros)<;>first|assumption|rfl|omega|(unfold maxLen; omega)) (by first|rfl|(simp only [go_sem,hb9])<;>(with_reducible and_intros)<;>first|assumption|rfl|omega|(unfold maxLen; omega)) (by first|assumption|omega|(simp only [go_sem,hb9])<;>(with_reducible and_intros)<;>first|assumption|rfl|omega|(unfold maxLen; omega)) rfl (by first|assumption|omega|(simp only [go_sem,hb9])<;>(with_reducible and_intros)<;>first|assumption|rfl|omega|(unfold maxLen; omega)) ?_
     refine zT [(3,.bp 1900 0),(4,.sl Y0 y1),(6,.bp 6 0),(11,.sl Y0 y1),(12,.int .i64 (y1.length:Int)),(13,.int .i64 st2.2),(20,.bool (!(mhas st2.1 (y1.getD st2.2.toNat (0,0,0)))))] [(6,.box 35 [.int .i64 (y1.getD st2.2.toNat (0,0,0)).1,.int .i64 (y1.getD st2.2.toNat (0,0,0)).2.1,.int .i64 (y1.getD st2.2.toNat (0,0,0)).2.2]),(7,.map true false Y0 (.sl Y0) st2.1),(1900,.box 93 [.own 7])] gt ?_
     refine zB [(3,.bp 1900 0),(4,.sl Y0 y1),(6,.bp 6 0),(11,.sl Y0 y1),(12,.int .i64 (y1.length:Int)),(13,.int .i64 st2.2),(20,.bool (!(mhas st2.1 (y1.getD st2.2.toNat (0,0,0)))))] [(6,.box 35 [.int .i64 (y1.getD st2.2.toNat (0,0,0)).1,.int .i64 (y1.getD st2.2.toNat (0,0,0)).2.1,.int .i64 (y1.getD st2.2.toNat (0,0,0)).2.2]),(7,.map true false Y0 (.sl Y0) st2.1),(1900,.box 93 [.own 7])] ?_
     refine zQ h (fun hb16 h=>?_) (fun hb16 h=>?_)
     ·refine AW.ops ?_
      refine zS 3 [(3,.bp 1900 0),(4,.sl Y0 y1),(11,.sl Y0 y1),(12,.int .i64 (y1.length:Int)),(13,.int .i64 st2.2),(21,.own 7),(22,.agg [.int .i64 (y1.getD st2.2.toNat (0,0,0)).1,.int .i64 (y1.getD st2.2.toNat (0,0,0)).2.1,.int .i64 (y1.getD st2.2.toNat (0,0,0)).2.2]),(23,.sl Y0 y1)] [(7,.map true false Y0 (.sl Y0) st2.1),(1900,.box 93 [.own 7])] ?_
      obtain ⟨c17,h⟩:=ck_some.1 h
      obtain ⟨c18,h⟩:=ck_some.1 h
      obtain ⟨c19,h⟩:=ck_some.1 h
      refine AO.mapPut mapty_93 (by decide) rfl (.inl rfl) rfl rfl (l:=[.int .i64 (y1.getD st2.2.toNat (0,0,0)).1,.int .i64 (y1.getD st2.2.toNat (0,0,0)).2.1,.int .i64 (y1.getD st2.2.toNat (0,0,0)).2.2]) (by (simp only [go_sem,hb9,hb16])<;>(with_reducible and_intros)<;>first|assumption|rfl|omega|(unfold maxLen; omega)) (by first|rfl|(simp only [go_sem,hb9,hb16])<;>(with_reducible and_intros)<;>first|assumption|rfl|omega|(unfold maxLen; omega)) (by (simp only [go_sem,hb9,hb16])<;>(with_reducible and_intros)<;>first|assumption|rfl|omega|(unfold maxLen; omega)) (lv:=[.sl Y0 y1]) (by (simp only [go_sem,hb9,hb16])<;>(with_reducible and_intros)<;>first|assumption|rfl|omega|(unfold maxLen; omega)) (by first|rfl|(simp only [go_sem,hb9,hb16])<;>(with_reducible and_intros)<;>first|assumption|rfl|omega|(unfold maxLen; omega)) (.inr ⟨_,_,rfl⟩) ?_
      refine zT [(3,.bp 1900 0),(4,.sl Y0 y1),(11,.sl Y0 y1),(12,.int .i64 (y1.length:Int)),(13,.int .i64 st2.2)] [(7,.map true false Y0 (.sl Y0) (mput st2.1 (y1.getD st2.2.toNat (0,0,0)) y1)),(1900,.box 93 [.own 7])] gt ?_
      refine zA [(3,.bp 1900 0),(4,.sl Y0 y1),(11,.sl Y0 y1),(12,.int .i64 (y1.length:Int)),(13,.int .i64 st2.2)] [(7,.map true false Y0 (.sl Y0) (mput st2.1 (y1.getD st2.2.toNat (0,0,0)) y1)),(1900,.box 93 [.own 7])] ?_
      refine ablock_n ?_
      refine athen_n ?_
      refine AW.ops ?_
      obtain ⟨c20,h⟩:=ck_some.1 h
      refine zA [(3,.bp 1900 0),(4,.sl Y0 y1),(11,.sl Y0 y1),(12,.int .i64 (y1.length:Int)),(13,.int .i64 (st2.2+1))] [(7,.map true false Y0 (.sl Y0) (mput st2.1 (y1.getD st2.2.toNat (0,0,0)) y1)),(1900,.box 93 [.own 7])] ?_
      obtain rfl:=Option.some.inj h
      exact ⟨_,rfl,zL [] [] []⟩
     ·refine zm ?_
      refine athen_n ?_
      refine AW.ops ?_
      obtain ⟨c21,h⟩:=ck_some.1 h
      refine zA [(3,.bp 1900 0),(4,.sl Y0 y1),(11,.sl Y0 y1),(12,.int .i64 (y1.length:Int)),(13,.int .i64 (st2.2+1))] [(7,.map true false Y0 (.sl Y0) st2.1),(1900,.box 93 [.own 7])] ?_
      obtain rfl:=Option.some.inj h
      exact ⟨_,rfl,zL [] [] []⟩
    ·refine AW.exit ?_
     refine athen_e ?_
     obtain rfl:=Option.some.inj h
     rw [← hd6 _ rfl] at ho5
     have h:=ho5
     refine athen_e ?_
     refine ablock_s ?_
     refine ablock_n ?_
     obtain rfl:=Option.some.inj h
     exact rpost_next rfl [] [] [] rfl (by (simp only [go_sem,hb9])<;>(with_reducible and_intros)<;>first|assumption|rfl|omega|(unfold maxLen; omega))
  ·cases x1 with
   | inl st1_2 =>
    try simp only at h
    refine ablock_n ?_
    refine athen_n ?_
    exact AW.weaken (zL [] [] []) (hk_delay_accesses_found_k1 _ h)
   | inr rx =>
    exact rx.elim
end Go.Proofs.Ytdicomoggfhbfaa
