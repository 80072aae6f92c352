import Derived.Test.YtdicomoggfhbfaaDlp
import Derived.Test.YtdicomoggfhbfaaShd
import Derived.Test.YtdicomoggfhbfaaDjc5
import Derived.Test.YtdicomoggfhbfaaDjc7
namespace Go.Proofs.Ytdicomoggfhbfaa
open Go.RowKit
set_option linter.unusedSimpArgs false
set_option linter.unusedVariables false
set_option linter.constructorNameAsVariable false
set_option maxRecDepth 100000
set_option maxHeartbeats 40000000
theorem hc_linealref09_needed (x0:List (List (Int×Bool))) {r:(List (Int×Int×Int))} (h:linealref09_needed x0=some r):HC Try.prog 76 [] [.sl (.sl (.pair (.int .i64) .bool)) x0] [(2000,.arr 35 Y0 r)] (.own 2000):=by
 unfold linealref09_needed at h
 refine zH Try.func76 [.tmp 2] 55 ?_
 refine zo ?_
 refine zB [(0,.sl (.sl (.pair (.int .i64) .bool)) x0)] [] ?_
 refine zo ?_
 refine zB [(0,.sl (.sl (.pair (.int .i64) .bool)) x0),(3,.cv (.slice none 0 0))] [] ?_
 refine zo ?_
 refine zS 1 [(0,.sl (.sl (.pair (.int .i64) .bool)) x0),(3,.cv (.slice none 0 0)),(12,.sl (.sl (.pair (.int .i64) .bool)) x0)] [] ?_
 obtain ⟨v0,hv1,h⟩:=Option.bind_eq_some_iff.1 h
 refine zC [] [] (hc_linealref09_circles x0 hv1) [(0,.sl (.sl (.pair (.int .i64) .bool)) x0),(3,.cv (.slice none 0 0)),(13,.own 23000)] [(23000,.arr 30 (.sl Y0) v0)] ?_
 refine zB [(0,.sl (.sl (.pair (.int .i64) .bool)) x0),(3,.cv (.slice none 0 0)),(4,.own 23000)] [(23000,.arr 30 (.sl Y0) v0)] ?_
 refine AW.have1 (fun b4_4:(List (Int×Int×Int))=>linealref09_needed_k1 b4_4=some r) (fun b4_4=>⟨fr [(3,.own 52)],hpGet [(52,.arr 35 Y0 b4_4)],gt⟩) (fun b4_4 h=>?_) (fun hk_linealref09_needed_k1=>?_)
 ·as_aux_lemma =>
   unfold linealref09_needed_k1 at h
   refine zo ?_
   refine zB [(2,.own 52)] [(52,.arr 35 Y0 b4_4)] ?_
   refine AW.ret ?_
   obtain rfl:=Option.some.inj h
   exact zR [] [] [(2000,52)]
 ·refine AW.seq ?_
  refine zo ?_
  refine zS 1 [(3,.cv (.slice none 0 0)),(4,.own 23000),(14,.sl (.sl (.pair (.int .i64) .bool)) x0)] [(23000,.arr 30 (.sl Y0) v0)] ?_
  obtain ⟨v0_2,hv2,h⟩:=Option.bind_eq_some_iff.1 h
  refine zC [] [] (hc_linealref09_stations x0 hv2) [(3,.cv (.slice none 0 0)),(4,.own 23000),(15,.own 25000)] [(23000,.arr 30 (.sl Y0) v0),(25000,.arr 35 Y0 v0_2)] ?_
  refine zB [(3,.cv (.slice none 0 0)),(4,.own 23000),(15,.own 25000),(16,.int .i64 (v0_2.length:Int)),(17,.int .i64 0)] [(23000,.arr 30 (.sl Y0) v0),(25000,.arr 35 Y0 v0_2)] ?_
  refine AW.block ?_
  obtain ⟨rv7,hw3,ho4⟩:=Option.bind_eq_some_iff.1 h
  refine AW.loopO (linealref09_needed_b1 v0 v0_2) (fun st1=>⟨fr [(3,.own 52),(4,.own 23000),(15,.own 25000),(16,.int .i64 (v0_2.length:Int)),(17,.int .i64 st1.2)],hpGet [(52,.arr 35 Y0 st1.1),(23000,.arr 30 (.sl Y0) v0),(25000,.arr 35 Y0 v0_2)],gt⟩) ([],0) hw3 (zL [] [52] []) ?_
  as_aux_lemma =>
   intro st1 x6 h hd5
   unfold linealref09_needed_b1 at h
   refine zo ?_
   refine zB [(3,.own 52),(4,.own 23000),(15,.own 25000),(16,.int .i64 (v0_2.length:Int)),(17,.int .i64 st1.2),(18,.bool (decide (st1.2<(v0_2.length:Int))))] [(52,.arr 35 Y0 st1.1),(23000,.arr 30 (.sl Y0) v0),(25000,.arr 35 Y0 v0_2)] ?_
   refine AW.seq ?_
   refine zQ h (fun hb8 h=>?_) (fun hb8 h=>?_)
   ·refine zk ?_
    refine AW.have1 (fun b4_3:(List (Int×Int×Int))=>linealref09_needed_k2 st1 b4_3=some x6) (fun b4_3=>⟨fr [(3,.own 52),(4,.own 23000),(15,.own 25000),(16,.int .i64 (v0_2.length:Int)),(17,.int .i64 st1.2)],hpGet [(52,.arr 35 Y0 b4_3),(23000,.arr 30 (.sl Y0) v0),(25000,.arr 35 Y0 v0_2)],gt⟩) (fun b4_3 h=>?_) (fun hk_linealref09_needed_k2=>?_)
    ·as_aux_lemma =>
      unfold linealref09_needed_k2 at h
      refine AW.ops ?_
      obtain ⟨c9,h⟩:=ck_some.1 h
      refine zA [(3,.own 52),(4,.own 23000),(15,.own 25000),(16,.int .i64 (v0_2.length:Int)),(17,.int .i64 (st1.2+1))] [(52,.arr 35 Y0 b4_3),(23000,.arr 30 (.sl Y0) v0),(25000,.arr 35 Y0 v0_2)] ?_
      obtain rfl:=Option.some.inj h
      exact ⟨_,rfl,zL [] [] []⟩
    ·refine AW.seq ?_
     refine AW.block ?_
     refine zo ?_
     obtain ⟨c10,h⟩:=ck_some.1 h
     obtain ⟨c11,h⟩:=ck_some.1 h
     refine zB [(3,.own 52),(4,.own 23000),(6,.bp 6 0),(15,.own 25000),(16,.int .i64 (v0_2.length:Int)),(17,.int .i64 st1.2)] [(6,.box 35 [.int .i64 (v0_2.getD st1.2.toNat (0,0,0)).1,.int .i64 (v0_2.getD st1.2.toNat (0,0,0)).2.1,.int .i64 (v0_2.getD st1.2.toNat (0,0,0)).2.2]),(52,.arr 35 Y0 st1.1),(23000,.arr 30 (.sl Y0) v0),(25000,.arr 35 Y0 v0_2)] ?_
     refine zo ?_
     refine zB [(3,.own 52),(4,.own 23000),(6,.bp 6 0),(7,.bool false),(15,.own 25000),(16,.int .i64 (v0_2.length:Int)),(17,.int .i64 st1.2)] [(6,.box 35 [.int .i64 (v0_2.getD st1.2.toNat (0,0,0)).1,.int .i64 (v0_2.getD st1.2.toNat (0,0,0)).2.1,.int .i64 (v0_2.getD st1.2.toNat (0,0,0)).2.2]),(52,.arr 35 Y0 st1.1),(23000,.arr 30 (.sl Y0) v0),(25000,.arr 35 Y0 v0_2)] ?_
     refine AW.have1 (fun b4_2:Bool=>linealref09_needed_k3 v0_2 st1 b4_2=some x6) (fun b4_2=>⟨fr [(3,.own 52),(4,.own 23000),(6,.bp 6 0),(7,.bool b4_2),(15,.own 25000),(16,.int .i64 (v0_2.length:Int)),(17,.int .i64 st1.2)],hpGet [(6,.box 35 [.int .i64 (v0_2.getD st1.2.toNat (0,0,0)).1,.int .i64 (v0_2.getD st1.2.toNat (0,0,0)).2.1,.int .i64 (v0_2.getD st1.2.toNat (0,0,0)).2.2]),(52,.arr 35 Y0 st1.1),(23000,.arr 30 (.sl Y0) v0),(25000,.arr 35 Y0 v0_2)],gt⟩) (fun b4_2 h=>?_) (fun hk_linealref09_needed_k3=>?_)
     ·as_aux_lemma =>
       unfold linealref09_needed_k3 at h
       refine zo ?_
       refine zB [(3,.own 52),(4,.own 23000),(6,.bp 6 0),(15,.own 25000),(16,.int .i64 (v0_2.length:Int)),(17,.int .i64 st1.2),(48,.bool b4_2)] [(6,.box 35 [.int .i64 (v0_2.getD st1.2.toNat (0,0,0)).1,.int .i64 (v0_2.getD st1.2.toNat (0,0,0)).2.1,.int .i64 (v0_2.getD st1.2.toNat (0,0,0)).2.2]),(52,.arr 35 Y0 st1.1),(23000,.arr 30 (.sl Y0) v0),(25000,.arr 35 Y0 v0_2)] ?_
       refine zQ h (fun hb12 h=>?_) (fun hb12 h=>?_)
       ·refine AW.ops ?_
        obtain ⟨c13,h⟩:=ck_some.1 h
        refine zA [(3,.own 52),(4,.own 23000),(15,.own 25000),(16,.int .i64 (v0_2.length:Int)),(17,.int .i64 st1.2)] [(52,.arr 35 Y0 (st1.1++[(v0_2.getD st1.2.toNat (0,0,0))])),(23000,.arr 30 (.sl Y0) v0),(25000,.arr 35 Y0 v0_2)] ?_
        refine ablock_n ?_
        refine athen_n ?_
        exact AW.weaken (zL [] [] []) (hk_linealref09_needed_k2 _ h)
       ·refine zm ?_
        refine athen_n ?_
        exact AW.weaken (zL [] [] []) (hk_linealref09_needed_k2 _ h)
     ·refine AW.seq ?_
      refine zo ?_
      refine zB [(3,.own 52),(4,.own 23000),(6,.bp 6 0),(7,.bool false),(15,.own 25000),(16,.int .i64 (v0_2.length:Int)),(17,.int .i64 st1.2),(21,.own 23000),(22,.int .i64 (v0.length:Int)),(23,.int .i64 0)] [(6,.box 35 [.int .i64 (v0_2.getD st1.2.toNat (0,0,0)).1,.int .i64 (v0_2.getD st1.2.toNat (0,0,0)).2.1,.int .i64 (v0_2.getD st1.2.toNat (0,0,0)).2.2]),(52,.arr 35 Y0 st1.1),(23000,.arr 30 (.sl Y0) v0),(25000,.arr 35 Y0 v0_2)] ?_
      refine AW.block ?_
      obtain ⟨rv18,hw14,ho15⟩:=Option.bind_eq_some_iff.1 h
      refine AW.loopO (linealref09_needed_b2 v0 v0_2 st1) (fun st2=>⟨fr [(3,.own 52),(4,.own 23000),(6,.bp 6 0),(7,.bool st2.1),(15,.own 25000),(16,.int .i64 (v0_2.length:Int)),(17,.int .i64 st1.2),(21,.own 23000),(22,.int .i64 (v0.length:Int)),(23,.int .i64 st2.2)],hpGet [(6,.box 35 [.int .i64 (v0_2.getD st1.2.toNat (0,0,0)).1,.int .i64 (v0_2.getD st1.2.toNat (0,0,0)).2.1,.int .i64 (v0_2.getD st1.2.toNat (0,0,0)).2.2]),(52,.arr 35 Y0 st1.1),(23000,.arr 30 (.sl Y0) v0),(25000,.arr 35 Y0 v0_2)],gt⟩) (false,0) hw14 (zL [] [] []) ?_
      as_aux_lemma =>
       intro st2 x17 h hd16
       unfold linealref09_needed_b2 at h
       refine zo ?_
       refine zB [(3,.own 52),(4,.own 23000),(6,.bp 6 0),(7,.bool st2.1),(15,.own 25000),(16,.int .i64 (v0_2.length:Int)),(17,.int .i64 st1.2),(21,.own 23000),(22,.int .i64 (v0.length:Int)),(23,.int .i64 st2.2),(24,.bool (decide (st2.2<(v0.length:Int))))] [(6,.box 35 [.int .i64 (v0_2.getD st1.2.toNat (0,0,0)).1,.int .i64 (v0_2.getD st1.2.toNat (0,0,0)).2.1,.int .i64 (v0_2.getD st1.2.toNat (0,0,0)).2.2]),(52,.arr 35 Y0 st1.1),(23000,.arr 30 (.sl Y0) v0),(25000,.arr 35 Y0 v0_2)] ?_
       refine AW.seq ?_
       refine zQ h (fun hb19 h=>?_) (fun hb19 h=>?_)
       ·refine zk ?_
        refine AW.have1 (fun b4:Bool=>linealref09_needed_k4 st2 b4=some x17) (fun b4=>⟨fr [(3,.own 52),(4,.own 23000),(6,.bp 6 0),(7,.bool b4),(15,.own 25000),(16,.int .i64 (v0_2.length:Int)),(17,.int .i64 st1.2),(21,.own 23000),(22,.int .i64 (v0.length:Int)),(23,.int .i64 st2.2)],hpGet [(6,.box 35 [.int .i64 (v0_2.getD st1.2.toNat (0,0,0)).1,.int .i64 (v0_2.getD st1.2.toNat (0,0,0)).2.1,.int .i64 (v0_2.getD st1.2.toNat (0,0,0)).2.2]),(52,.arr 35 Y0 st1.1),(23000,.arr 30 (.sl Y0) v0),(25000,.arr 35 Y0 v0_2)],gt⟩) (fun b4 h=>?_) (fun hk_linealref09_needed_k4=>?_)
        ·as_aux_lemma =>
          unfold linealref09_needed_k4 at h
          refine AW.ops ?_
          obtain ⟨c20,h⟩:=ck_some.1 h
          refine zA [(3,.own 52),(4,.own 23000),(6,.bp 6 0),(7,.bool b4),(15,.own 25000),(16,.int .i64 (v0_2.length:Int)),(17,.int .i64 st1.2),(21,.own 23000),(22,.int .i64 (v0.length:Int)),(23,.int .i64 (st2.2+1))] [(6,.box 35 [.int .i64 (v0_2.getD st1.2.toNat (0,0,0)).1,.int .i64 (v0_2.getD st1.2.toNat (0,0,0)).2.1,.int .i64 (v0_2.getD st1.2.toNat (0,0,0)).2.2]),(52,.arr 35 Y0 st1.1),(23000,.arr 30 (.sl Y0) v0),(25000,.arr 35 Y0 v0_2)] ?_
          obtain rfl:=Option.some.inj h
          exact ⟨_,rfl,zL [] [] []⟩
        ·refine AW.seq ?_
         refine AW.block ?_
         refine zo ?_
         obtain ⟨c21,h⟩:=ck_some.1 h
         obtain ⟨c22,h⟩:=ck_some.1 h
         refine zB [(3,.own 52),(4,.own 23000),(6,.bp 6 0),(7,.bool st2.1),(9,.sl Y0 (v0.getD st2.2.toNat [])),(15,.own 25000),(16,.int .i64 (v0_2.length:Int)),(17,.int .i64 st1.2),(21,.own 23000),(22,.int .i64 (v0.length:Int)),(23,.int .i64 st2.2)] [(6,.box 35 [.int .i64 (v0_2.getD st1.2.toNat (0,0,0)).1,.int .i64 (v0_2.getD st1.2.toNat (0,0,0)).2.1,.int .i64 (v0_2.getD st1.2.toNat (0,0,0)).2.2]),(52,.arr 35 Y0 st1.1),(23000,.arr 30 (.sl Y0) v0),(25000,.arr 35 Y0 v0_2)] ?_
         refine zo ?_
         refine zB [(3,.own 52),(4,.own 23000),(6,.bp 6 0),(7,.bool st2.1),(15,.own 25000),(16,.int .i64 (v0_2.length:Int)),(17,.int .i64 st1.2),(21,.own 23000),(22,.int .i64 (v0.length:Int)),(23,.int .i64 st2.2),(27,.sl Y0 (v0.getD st2.2.toNat [])),(28,.int .i64 ((v0.getD st2.2.toNat []).length:Int)),(29,.int .i64 0)] [(6,.box 35 [.int .i64 (v0_2.getD st1.2.toNat (0,0,0)).1,.int .i64 (v0_2.getD st1.2.toNat (0,0,0)).2.1,.int .i64 (v0_2.getD st1.2.toNat (0,0,0)).2.2]),(52,.arr 35 Y0 st1.1),(23000,.arr 30 (.sl Y0) v0),(25000,.arr 35 Y0 v0_2)] ?_
         refine AW.block ?_
         obtain ⟨rv27,hw23,ho24⟩:=Option.bind_eq_some_iff.1 h
         refine AW.loopO (linealref09_needed_b3 v0 v0_2 st1 st2) (fun st3=>⟨fr [(3,.own 52),(4,.own 23000),(6,.bp 6 0),(7,.bool st3.1),(15,.own 25000),(16,.int .i64 (v0_2.length:Int)),(17,.int .i64 st1.2),(21,.own 23000),(22,.int .i64 (v0.length:Int)),(23,.int .i64 st2.2),(27,.sl Y0 (v0.getD st2.2.toNat [])),(28,.int .i64 ((v0.getD st2.2.toNat []).length:Int)),(29,.int .i64 st3.2)],hpGet [(6,.box 35 [.int .i64 (v0_2.getD st1.2.toNat (0,0,0)).1,.int .i64 (v0_2.getD st1.2.toNat (0,0,0)).2.1,.int .i64 (v0_2.getD st1.2.toNat (0,0,0)).2.2]),(52,.arr 35 Y0 st1.1),(23000,.arr 30 (.sl Y0) v0),(25000,.arr 35 Y0 v0_2)],gt⟩) (st2.1,0) hw23 (zL [] [] []) ?_
         as_aux_lemma =>
          intro st3 x26 h hd25
          unfold linealref09_needed_b3 at h
          refine zo ?_
          refine zB [(3,.own 52),(4,.own 23000),(6,.bp 6 0),(7,.bool st3.1),(15,.own 25000),(16,.int .i64 (v0_2.length:Int)),(17,.int .i64 st1.2),(21,.own 23000),(22,.int .i64 (v0.length:Int)),(23,.int .i64 st2.2),(27,.sl Y0 (v0.getD st2.2.toNat [])),(28,.int .i64 ((v0.getD st2.2.toNat []).length:Int)),(29,.int .i64 st3.2),(30,.bool (decide (st3.2<((v0.getD st2.2.toNat []).length:Int))))] [(6,.box 35 [.int .i64 (v0_2.getD st1.2.toNat (0,0,0)).1,.int .i64 (v0_2.getD st1.2.toNat (0,0,0)).2.1,.int .i64 (v0_2.getD st1.2.toNat (0,0,0)).2.2]),(52,.arr 35 Y0 st1.1),(23000,.arr 30 (.sl Y0) v0),(25000,.arr 35 Y0 v0_2)] ?_
          refine AW.seq ?_
          refine zQ h (fun hb28 h=>?_) (fun hb28 h=>?_)
          ·refine zk ?_
           refine AW.seq ?_
           refine AW.block ?_
           refine zo ?_
           obtain ⟨c29,h⟩:=ck_some.1 h
           obtain ⟨c30,h⟩:=ck_some.1 h
           refine zB [(3,.own 52),(4,.own 23000),(6,.bp 6 0),(7,.bool st3.1),(11,.bp 11 0),(15,.own 25000),(16,.int .i64 (v0_2.length:Int)),(17,.int .i64 st1.2),(21,.own 23000),(22,.int .i64 (v0.length:Int)),(23,.int .i64 st2.2),(27,.sl Y0 (v0.getD st2.2.toNat [])),(28,.int .i64 ((v0.getD st2.2.toNat []).length:Int)),(29,.int .i64 st3.2)] [(6,.box 35 [.int .i64 (v0_2.getD st1.2.toNat (0,0,0)).1,.int .i64 (v0_2.getD st1.2.toNat (0,0,0)).2.1,.int .i64 (v0_2.getD st1.2.toNat (0,0,0)).2.2]),(11,.box 35 [.int .i64 ((v0.getD st2.2.toNat []).getD st3.2.toNat (0,0,0)).1,.int .i64 ((v0.getD st2.2.toNat []).getD st3.2.toNat (0,0,0)).2.1,.int .i64 ((v0.getD st2.2.toNat []).getD st3.2.toNat (0,0,0)).2.2]),(52,.arr 35 Y0 st1.1),(23000,.arr 30 (.sl Y0) v0),(25000,.arr 35 Y0 v0_2)] ?_
           refine AW.ops ?_
           refine zS 2 [(3,.own 52),(4,.own 23000),(6,.bp 6 0),(11,.bp 11 0),(15,.own 25000),(16,.int .i64 (v0_2.length:Int)),(17,.int .i64 st1.2),(21,.own 23000),(22,.int .i64 (v0.length:Int)),(23,.int .i64 st2.2),(27,.sl Y0 (v0.getD st2.2.toNat [])),(28,.int .i64 ((v0.getD st2.2.toNat []).length:Int)),(29,.int .i64 st3.2),(34,.bool st3.1)] [(6,.box 35 [.int .i64 (v0_2.getD st1.2.toNat (0,0,0)).1,.int .i64 (v0_2.getD st1.2.toNat (0,0,0)).2.1,.int .i64 (v0_2.getD st1.2.toNat (0,0,0)).2.2]),(11,.box 35 [.int .i64 ((v0.getD st2.2.toNat []).getD st3.2.toNat (0,0,0)).1,.int .i64 ((v0.getD st2.2.toNat []).getD st3.2.toNat (0,0,0)).2.1,.int .i64 ((v0.getD st2.2.toNat []).getD st3.2.toNat (0,0,0)).2.2]),(52,.arr 35 Y0 st1.1),(23000,.arr 30 (.sl Y0) v0),(25000,.arr 35 Y0 v0_2)] ?_
           rcases zI h with ⟨hb31,h⟩|⟨hb31,h⟩
           ·refine zS 4 [(3,.own 52),(4,.own 23000),(6,.bp 6 0),(15,.own 25000),(16,.int .i64 (v0_2.length:Int)),(17,.int .i64 st1.2),(21,.own 23000),(22,.int .i64 (v0.length:Int)),(23,.int .i64 st2.2),(27,.sl Y0 (v0.getD st2.2.toNat [])),(28,.int .i64 ((v0.getD st2.2.toNat []).length:Int)),(29,.int .i64 st3.2),(34,.bool true),(38,.cv (undef))] [(6,.box 35 [.int .i64 (v0_2.getD st1.2.toNat (0,0,0)).1,.int .i64 (v0_2.getD st1.2.toNat (0,0,0)).2.1,.int .i64 (v0_2.getD st1.2.toNat (0,0,0)).2.2]),(52,.arr 35 Y0 st1.1),(23000,.arr 30 (.sl Y0) v0),(25000,.arr 35 Y0 v0_2)] ?_
            refine zS 4 [(3,.own 52),(4,.own 23000),(6,.bp 6 0),(15,.own 25000),(16,.int .i64 (v0_2.length:Int)),(17,.int .i64 st1.2),(21,.own 23000),(22,.int .i64 (v0.length:Int)),(23,.int .i64 st2.2),(27,.sl Y0 (v0.getD st2.2.toNat [])),(28,.int .i64 ((v0.getD st2.2.toNat []).length:Int)),(29,.int .i64 st3.2),(34,.bool true),(38,.cv (undef)),(40,.cv (undef)),(42,.cv (undef))] [(6,.box 35 [.int .i64 (v0_2.getD st1.2.toNat (0,0,0)).1,.int .i64 (v0_2.getD st1.2.toNat (0,0,0)).2.1,.int .i64 (v0_2.getD st1.2.toNat (0,0,0)).2.2]),(52,.arr 35 Y0 st1.1),(23000,.arr 30 (.sl Y0) v0),(25000,.arr 35 Y0 v0_2)] ?_
            refine zA [(3,.own 52),(4,.own 23000),(6,.bp 6 0),(7,.bool true),(15,.own 25000),(16,.int .i64 (v0_2.length:Int)),(17,.int .i64 st1.2),(21,.own 23000),(22,.int .i64 (v0.length:Int)),(23,.int .i64 st2.2),(27,.sl Y0 (v0.getD st2.2.toNat [])),(28,.int .i64 ((v0.getD st2.2.toNat []).length:Int)),(29,.int .i64 st3.2)] [(6,.box 35 [.int .i64 (v0_2.getD st1.2.toNat (0,0,0)).1,.int .i64 (v0_2.getD st1.2.toNat (0,0,0)).2.1,.int .i64 (v0_2.getD st1.2.toNat (0,0,0)).2.2]),(52,.arr 35 Y0 st1.1),(23000,.arr 30 (.sl Y0) v0),(25000,.arr 35 Y0 v0_2)] ?_
            refine ablock_n ?_
            refine athen_n ?_
            refine AW.ops ?_
            obtain ⟨c32,h⟩:=ck_some.1 h
            refine zA [(3,.own 52),(4,.own 23000),(6,.bp 6 0),(7,.bool true),(15,.own 25000),(16,.int .i64 (v0_2.length:Int)),(17,.int .i64 st1.2),(21,.own 23000),(22,.int .i64 (v0.length:Int)),(23,.int .i64 st2.2),(27,.sl Y0 (v0.getD st2.2.toNat [])),(28,.int .i64 ((v0.getD st2.2.toNat []).length:Int)),(29,.int .i64 (st3.2+1))] [(6,.box 35 [.int .i64 (v0_2.getD st1.2.toNat (0,0,0)).1,.int .i64 (v0_2.getD st1.2.toNat (0,0,0)).2.1,.int .i64 (v0_2.getD st1.2.toNat (0,0,0)).2.2]),(52,.arr 35 Y0 st1.1),(23000,.arr 30 (.sl Y0) v0),(25000,.arr 35 Y0 v0_2)] ?_
            obtain rfl:=Option.some.inj h
            exact ⟨_,rfl,zL [] [] []⟩
           ·refine zS 2 [(3,.own 52),(4,.own 23000),(6,.bp 6 0),(15,.own 25000),(16,.int .i64 (v0_2.length:Int)),(17,.int .i64 st1.2),(21,.own 23000),(22,.int .i64 (v0.length:Int)),(23,.int .i64 st2.2),(27,.sl Y0 (v0.getD st2.2.toNat [])),(28,.int .i64 ((v0.getD st2.2.toNat []).length:Int)),(29,.int .i64 st3.2),(34,.bool false),(35,.agg [.int .i64 ((v0.getD st2.2.toNat []).getD st3.2.toNat (0,0,0)).1,.int .i64 ((v0.getD st2.2.toNat []).getD st3.2.toNat (0,0,0)).2.1,.int .i64 ((v0.getD st2.2.toNat []).getD st3.2.toNat (0,0,0)).2.2]),(36,.agg [.int .i64 (v0_2.getD st1.2.toNat (0,0,0)).1,.int .i64 (v0_2.getD st1.2.toNat (0,0,0)).2.1,.int .i64 (v0_2.getD st1.2.toNat (0,0,0)).2.2])] [(6,.box 35 [.int .i64 (v0_2.getD st1.2.toNat (0,0,0)).1,.int .i64 (v0_2.getD st1.2.toNat (0,0,0)).2.1,.int .i64 (v0_2.getD st1.2.toNat (0,0,0)).2.2]),(52,.arr 35 Y0 st1.1),(23000,.arr 30 (.sl Y0) v0),(25000,.arr 35 Y0 v0_2)] ?_
            obtain ⟨c33,h⟩:=ck_some.1 h
            obtain ⟨c34,h⟩:=ck_some.1 h
            obtain ⟨c35,h⟩:=ck_some.1 h
            obtain ⟨c36,h⟩:=ck_some.1 h
            obtain ⟨c37,h⟩:=ck_some.1 h
            obtain ⟨c38,h⟩:=ck_some.1 h
            refine AO.aggEqG (neg:=false) eqty_35 (by decide) (.inr ⟨_,_,_,rfl,rfl,rfl⟩) rfl (lx:=[.int .i64 ((v0.getD st2.2.toNat []).getD st3.2.toNat (0,0,0)).1,.int .i64 ((v0.getD st2.2.toNat []).getD st3.2.toNat (0,0,0)).2.1,.int .i64 ((v0.getD st2.2.toNat []).getD st3.2.toNat (0,0,0)).2.2]) (ly:=[.int .i64 (v0_2.getD st1.2.toNat (0,0,0)).1,.int .i64 (v0_2.getD st1.2.toNat (0,0,0)).2.1,.int .i64 (v0_2.getD st1.2.toNat (0,0,0)).2.2]) (by first|rfl|(simp only [go_sem,hb8,hb19,hb28,hb31])<;>(with_reducible and_intros)<;>first|assumption|rfl|omega|(unfold maxLen; omega)) (by first|rfl|(simp only [go_sem,hb8,hb19,hb28,hb31])<;>(with_reducible and_intros)<;>first|assumption|rfl|omega|(unfold maxLen; omega)) (by first|rfl|(simp only [go_sem,hb8,hb19,hb28,hb31])<;>(with_reducible and_intros)<;>first|assumption|rfl|omega|(unfold maxLen; omega)) (by first|rfl|(simp only [go_sem,hb8,hb19,hb28,hb31])<;>(with_reducible and_intros)<;>first|assumption|rfl|omega|(unfold maxLen; omega)) (by first|assumption|omega|(simp only [go_sem,hb8,hb19,hb28,hb31])<;>(with_reducible and_intros)<;>first|assumption|rfl|omega|(unfold maxLen; omega)) (by first|assumption|omega|(simp only [go_sem,hb8,hb19,hb28,hb31])<;>(with_reducible and_intros)<;>first|assumption|rfl|omega|(unfold maxLen; omega)) ?_
            refine zT [(3,.own 52),(4,.own 23000),(6,.bp 6 0),(15,.own 25000),(16,.int .i64 (v0_2.length:Int)),(17,.int .i64 st1.2),(21,.own 23000),(22,.int .i64 (v0.length:Int)),(23,.int .i64 st2.2),(27,.sl Y0 (v0.getD st2.2.toNat [])),(28,.int .i64 ((v0.getD st2.2.toNat []).length:Int)),(29,.int .i64 st3.2),(34,.bool false),(37,.bool (decide (((v0.getD st2.2.toNat []).getD st3.2.toNat (0,0,0))=(v0_2.getD st1.2.toNat (0,0,0)))))] [(6,.box 35 [.int .i64 (v0_2.getD st1.2.toNat (0,0,0)).1,.int .i64 (v0_2.getD st1.2.toNat (0,0,0)).2.1,.int .i64 (v0_2.getD st1.2.toNat (0,0,0)).2.2]),(52,.arr 35 Y0 st1.1),(23000,.arr 30 (.sl Y0) v0),(25000,.arr 35 Y0 v0_2)] gt ?_
            refine zS 1 [(3,.own 52),(4,.own 23000),(6,.bp 6 0),(15,.own 25000),(16,.int .i64 (v0_2.length:Int)),(17,.int .i64 st1.2),(21,.own 23000),(22,.int .i64 (v0.length:Int)),(23,.int .i64 st2.2),(27,.sl Y0 (v0.getD st2.2.toNat [])),(28,.int .i64 ((v0.getD st2.2.toNat []).length:Int)),(29,.int .i64 st3.2),(34,.bool false),(38,.bool (decide (((v0.getD st2.2.toNat []).getD st3.2.toNat (0,0,0))=(v0_2.getD st1.2.toNat (0,0,0)))))] [(6,.box 35 [.int .i64 (v0_2.getD st1.2.toNat (0,0,0)).1,.int .i64 (v0_2.getD st1.2.toNat (0,0,0)).2.1,.int .i64 (v0_2.getD st1.2.toNat (0,0,0)).2.2]),(52,.arr 35 Y0 st1.1),(23000,.arr 30 (.sl Y0) v0),(25000,.arr 35 Y0 v0_2)] ?_
            rcases zI h with ⟨hb39,h⟩|⟨hb39,h⟩
            ·refine zS 5 [(3,.own 52),(4,.own 23000),(6,.bp 6 0),(15,.own 25000),(16,.int .i64 (v0_2.length:Int)),(17,.int .i64 st1.2),(21,.own 23000),(22,.int .i64 (v0.length:Int)),(23,.int .i64 st2.2),(27,.sl Y0 (v0.getD st2.2.toNat [])),(28,.int .i64 ((v0.getD st2.2.toNat []).length:Int)),(29,.int .i64 st3.2),(34,.bool false),(38,.bool true),(43,.bool (decide ((v0_2.getD st1.2.toNat (0,0,0)).2.1<(v0_2.getD st1.2.toNat (0,0,0)).2.2)))] [(6,.box 35 [.int .i64 (v0_2.getD st1.2.toNat (0,0,0)).1,.int .i64 (v0_2.getD st1.2.toNat (0,0,0)).2.1,.int .i64 (v0_2.getD st1.2.toNat (0,0,0)).2.2]),(52,.arr 35 Y0 st1.1),(23000,.arr 30 (.sl Y0) v0),(25000,.arr 35 Y0 v0_2)] ?_
             refine zA [(3,.own 52),(4,.own 23000),(6,.bp 6 0),(7,.bool (decide ((v0_2.getD st1.2.toNat (0,0,0)).2.1<(v0_2.getD st1.2.toNat (0,0,0)).2.2))),(15,.own 25000),(16,.int .i64 (v0_2.length:Int)),(17,.int .i64 st1.2),(21,.own 23000),(22,.int .i64 (v0.length:Int)),(23,.int .i64 st2.2),(27,.sl Y0 (v0.getD st2.2.toNat [])),(28,.int .i64 ((v0.getD st2.2.toNat []).length:Int)),(29,.int .i64 st3.2)] [(6,.box 35 [.int .i64 (v0_2.getD st1.2.toNat (0,0,0)).1,.int .i64 (v0_2.getD st1.2.toNat (0,0,0)).2.1,.int .i64 (v0_2.getD st1.2.toNat (0,0,0)).2.2]),(52,.arr 35 Y0 st1.1),(23000,.arr 30 (.sl Y0) v0),(25000,.arr 35 Y0 v0_2)] ?_
             refine ablock_n ?_
             refine athen_n ?_
             refine AW.ops ?_
             obtain ⟨c40,h⟩:=ck_some.1 h
             refine zA [(3,.own 52),(4,.own 23000),(6,.bp 6 0),(7,.bool (decide ((v0_2.getD st1.2.toNat (0,0,0)).2.1<(v0_2.getD st1.2.toNat (0,0,0)).2.2))),(15,.own 25000),(16,.int .i64 (v0_2.length:Int)),(17,.int .i64 st1.2),(21,.own 23000),(22,.int .i64 (v0.length:Int)),(23,.int .i64 st2.2),(27,.sl Y0 (v0.getD st2.2.toNat [])),(28,.int .i64 ((v0.getD st2.2.toNat []).length:Int)),(29,.int .i64 (st3.2+1))] [(6,.box 35 [.int .i64 (v0_2.getD st1.2.toNat (0,0,0)).1,.int .i64 (v0_2.getD st1.2.toNat (0,0,0)).2.1,.int .i64 (v0_2.getD st1.2.toNat (0,0,0)).2.2]),(52,.arr 35 Y0 st1.1),(23000,.arr 30 (.sl Y0) v0),(25000,.arr 35 Y0 v0_2)] ?_
             obtain rfl:=Option.some.inj h
             exact ⟨_,rfl,zL [] [] []⟩
            ·refine zS 4 [(3,.own 52),(4,.own 23000),(6,.bp 6 0),(15,.own 25000),(16,.int .i64 (v0_2.length:Int)),(17,.int .i64 st1.2),(21,.own 23000),(22,.int .i64 (v0.length:Int)),(23,.int .i64 st2.2),(27,.sl Y0 (v0.getD st2.2.toNat [])),(28,.int .i64 ((v0.getD st2.2.toNat []).length:Int)),(29,.int .i64 st3.2),(34,.bool false),(38,.bool false),(40,.cv (undef)),(42,.cv (undef))] [(6,.box 35 [.int .i64 (v0_2.getD st1.2.toNat (0,0,0)).1,.int .i64 (v0_2.getD st1.2.toNat (0,0,0)).2.1,.int .i64 (v0_2.getD st1.2.toNat (0,0,0)).2.2]),(52,.arr 35 Y0 st1.1),(23000,.arr 30 (.sl Y0) v0),(25000,.arr 35 Y0 v0_2)] ?_
             refine zA [(3,.own 52),(4,.own 23000),(6,.bp 6 0),(7,.bool false),(15,.own 25000),(16,.int .i64 (v0_2.length:Int)),(17,.int .i64 st1.2),(21,.own 23000),(22,.int .i64 (v0.length:Int)),(23,.int .i64 st2.2),(27,.sl Y0 (v0.getD st2.2.toNat [])),(28,.int .i64 ((v0.getD st2.2.toNat []).length:Int)),(29,.int .i64 st3.2)] [(6,.box 35 [.int .i64 (v0_2.getD st1.2.toNat (0,0,0)).1,.int .i64 (v0_2.getD st1.2.toNat (0,0,0)).2.1,.int .i64 (v0_2.getD st1.2.toNat (0,0,0)).2.2]),(52,.arr 35 Y0 st1.1),(23000,.arr 30 (.sl Y0) v0),(25000,.arr 35 Y0 v0_2)] ?_
             refine ablock_n ?_
             refine athen_n ?_
             refine AW.ops ?_
             obtain ⟨c41,h⟩:=ck_some.1 h
             refine zA [(3,.own 52),(4,.own 23000),(6,.bp 6 0),(7,.bool false),(15,.own 25000),(16,.int .i64 (v0_2.length:Int)),(17,.int .i64 st1.2),(21,.own 23000),(22,.int .i64 (v0.length:Int)),(23,.int .i64 st2.2),(27,.sl Y0 (v0.getD st2.2.toNat [])),(28,.int .i64 ((v0.getD st2.2.toNat []).length:Int)),(29,.int .i64 (st3.2+1))] [(6,.box 35 [.int .i64 (v0_2.getD st1.2.toNat (0,0,0)).1,.int .i64 (v0_2.getD st1.2.toNat (0,0,0)).2.1,.int .i64 (v0_2.getD st1.2.toNat (0,0,0)).2.2]),(52,.arr 35 Y0 st1.1),(23000,.arr 30 (.sl Y0) v0),(25000,.arr 35 Y0 v0_2)] ?_
             obtain rfl:=Option.some.inj h
             exact ⟨_,rfl,zL [] [] []⟩
          ·refine AW.exit ?_
           refine athen_e ?_
           obtain rfl:=Option.some.inj h
           rw [← hd25 _ rfl] at ho24
           have h:=ho24
           refine athen_e ?_
           refine ablock_s ?_
           refine ablock_n ?_
           refine athen_n ?_
           exact AW.weaken (zL [] [] []) (hk_linealref09_needed_k4 _ h)
       ·refine AW.exit ?_
        refine athen_e ?_
        obtain rfl:=Option.some.inj h
        rw [← hd16 _ rfl] at ho15
        have h:=ho15
        refine athen_e ?_
        refine ablock_s ?_
        refine athen_n ?_
        exact AW.weaken (zL [] [] []) (hk_linealref09_needed_k3 _ h)
   ·refine AW.exit ?_
    refine athen_e ?_
    obtain rfl:=Option.some.inj h
    rw [← hd5 _ rfl] at ho4
    have h:=ho4
    refine athen_e ?_
    refine ablock_s ?_
    refine athen_n ?_
    exact AW.weaken (zL [] [] []) (hk_linealref09_needed_k1 _ h)
theorem hc_lineallaw09_wide (costs:List (List Int)) {r:Bool} (h:lineallaw09_wide costs=some r):HC Try.prog 33 [] [.sl (.sl (.int .i64)) costs] [] (.bool r):=by
 unfold lineallaw09_wide at h
 refine zH Try.func33 [.tmp 2] 18 ?_
 refine zo ?_
 refine zB [(0,.sl (.sl (.int .i64)) costs)] [] ?_
 refine AW.have1 (fun _:Unit=>lineallaw09_wide_k1 costs=some r) (fun _=>⟨fr [(0,.sl (.sl (.int .i64)) costs)],hpGet [],gt⟩) (fun _ h=>?_) (fun hk_lineallaw09_wide_k1=>?_)
 ·as_aux_lemma =>
   unfold lineallaw09_wide_k1 at h
   refine zo ?_
   refine zB [(2,.bool (decide (40<(costs.length:Int))))] [] ?_
   refine AW.ret ?_
   obtain rfl:=Option.some.inj h
   exact zR [] [] []
 ·refine AW.seq ?_
  refine zo ?_
  refine zB [(0,.sl (.sl (.int .i64)) costs),(5,.sl (.sl (.int .i64)) costs),(6,.int .i64 (costs.length:Int)),(7,.int .i64 0)] [] ?_
  refine AW.block ?_
  obtain ⟨rv5,hw1,ho2⟩:=Option.bind_eq_some_iff.1 h
  refine AW.loopO (lineallaw09_wide_b1 costs) (fun st1=>⟨fr [(0,.sl (.sl (.int .i64)) costs),(5,.sl (.sl (.int .i64)) costs),(6,.int .i64 (costs.length:Int)),(7,.int .i64 st1)],hpGet [],gt⟩) 0 hw1 (zL [] [] []) ?_
  as_aux_lemma =>
   intro st1 x4 h hd3
   unfold lineallaw09_wide_b1 at h
   refine zo ?_
   refine zB [(0,.sl (.sl (.int .i64)) costs),(5,.sl (.sl (.int .i64)) costs),(6,.int .i64 (costs.length:Int)),(7,.int .i64 st1),(8,.bool (decide (st1<(costs.length:Int))))] [] ?_
   refine AW.seq ?_
   refine zQ h (fun hb6 h=>?_) (fun hb6 h=>?_)
   ·refine zk ?_
    refine AW.seq ?_
    refine AW.block ?_
    refine zo ?_
    obtain ⟨c7,h⟩:=ck_some.1 h
    obtain ⟨c8,h⟩:=ck_some.1 h
    refine zB [(0,.sl (.sl (.int .i64)) costs),(4,.sl (.int .i64) (costs.getD st1.toNat [])),(5,.sl (.sl (.int .i64)) costs),(6,.int .i64 (costs.length:Int)),(7,.int .i64 st1)] [] ?_
    refine zo ?_
    refine zB [(0,.sl (.sl (.int .i64)) costs),(5,.sl (.sl (.int .i64)) costs),(6,.int .i64 (costs.length:Int)),(7,.int .i64 st1),(13,.bool (decide (40<((costs.getD st1.toNat []).length:Int))))] [] ?_
    refine zQ h (fun hb9 h=>?_) (fun hb9 h=>?_)
    ·refine zo ?_
     refine zB [(2,.bool true)] [] ?_
     refine AW.ret ?_
     refine ablock_r ?_
     refine athen_r ?_
     obtain rfl:=Option.some.inj h
     try rw [← hd3 _ rfl] at ho2
     have h:=ho2
     try simp only at h
     refine athen_r ?_
     refine ablock_r ?_
     refine athen_r ?_
     obtain rfl:=Option.some.inj h
     exact zR [] [] []
    ·refine zm ?_
     refine athen_n ?_
     refine AW.ops ?_
     obtain ⟨c10,h⟩:=ck_some.1 h
     refine zA [(0,.sl (.sl (.int .i64)) costs),(5,.sl (.sl (.int .i64)) costs),(6,.int .i64 (costs.length:Int)),(7,.int .i64 (st1+1))] [] ?_
     obtain rfl:=Option.some.inj h
     exact ⟨_,rfl,zL [] [] []⟩
   ·refine AW.exit ?_
    refine athen_e ?_
    obtain rfl:=Option.some.inj h
    try rw [← hd3 _ rfl] at ho2
    have h:=ho2
    try simp only at h
    refine athen_e ?_
    refine ablock_s ?_
    refine athen_n ?_
    exact AW.weaken (zL [] [] []) (hk_lineallaw09_wide_k1 () h)
theorem hc_delay_holds (f:Int×Int) (pair:Int×Int×Int) {r:Bool} (h:delay_holds f pair=some r):HC Try.prog 119 [] [.agg [.int .i64 f.1,.int .i64 f.2],.agg [.int .i64 pair.1,.int .i64 pair.2.1,.int .i64 pair.2.2]] [] (.bool r):=by
 unfold delay_holds at h
 refine zH Try.func119 [.tmp 4] 24 ?_
 refine zo ?_
 refine zB [(2,.bp 2 0),(3,.bp 3 0)] [(2,.box 110 [.int .i64 f.1,.int .i64 f.2]),(3,.box 35 [.int .i64 pair.1,.int .i64 pair.2.1,.int .i64 pair.2.2])] ?_
 refine zo ?_
 refine zS 5 [(2,.bp 2 0),(3,.bp 3 0),(9,.bool (decide (f.1=pair.1)))] [(2,.box 110 [.int .i64 f.1,.int .i64 f.2]),(3,.box 35 [.int .i64 pair.1,.int .i64 pair.2.1,.int .i64 pair.2.2])] ?_
 refine zS 1 [(2,.bp 2 0),(3,.bp 3 0),(10,.bool (decide (f.1=pair.1)))] [(2,.box 110 [.int .i64 f.1,.int .i64 f.2]),(3,.box 35 [.int .i64 pair.1,.int .i64 pair.2.1,.int .i64 pair.2.2])] ?_
 rcases zI h with ⟨hb1,h⟩|⟨hb1,h⟩
 ·refine zS 5 [(2,.bp 2 0),(3,.bp 3 0),(10,.bool true),(15,.bool (decide (pair.2.1≤f.2)))] [(2,.box 110 [.int .i64 f.1,.int .i64 f.2]),(3,.box 35 [.int .i64 pair.1,.int .i64 pair.2.1,.int .i64 pair.2.2])] ?_
  refine zS 2 [(2,.bp 2 0),(3,.bp 3 0),(17,.bool (decide (pair.2.1≤f.2)))] [(2,.box 110 [.int .i64 f.1,.int .i64 f.2]),(3,.box 35 [.int .i64 pair.1,.int .i64 pair.2.1,.int .i64 pair.2.2])] ?_
  rcases zI h with ⟨hb2,h⟩|⟨hb2,h⟩
  ·refine zS 5 [(17,.bool true),(22,.bool (decide (f.2<pair.2.2)))] [] ?_
   refine zB [(4,.bool (decide (f.2<pair.2.2)))] [] ?_
   refine AW.ret ?_
   obtain rfl:=Option.some.inj h
   exact zR [] [] []
  ·refine zS 4 [(17,.bool false),(19,.cv (undef)),(21,.cv (undef))] [] ?_
   refine zB [(4,.bool false)] [] ?_
   refine AW.ret ?_
   obtain rfl:=Option.some.inj h
   exact zR [] [] []
 ·refine zS 4 [(2,.bp 2 0),(3,.bp 3 0),(10,.bool false),(12,.cv (undef)),(14,.cv (undef))] [(2,.box 110 [.int .i64 f.1,.int .i64 f.2]),(3,.box 35 [.int .i64 pair.1,.int .i64 pair.2.1,.int .i64 pair.2.2])] ?_
  refine zS 5 [(3,.bp 3 0),(17,.bool false),(19,.cv (undef))] [(3,.box 35 [.int .i64 pair.1,.int .i64 pair.2.1,.int .i64 pair.2.2])] ?_
  refine zB [(4,.bool false)] [] ?_
  refine AW.ret ?_
  obtain rfl:=Option.some.inj h
  exact zR [] [] []
theorem hc_delay_isHeld_1 (f:Int×Int) (a1:Int×Int×Int) {r:Bool} (h:delay_isHeld_1 f a1=some r):HC Try.prog 118 [(1000,.box 35 [.int .i64 a1.1,.int .i64 a1.2.1,.int .i64 a1.2.2])] [.agg [.int .i64 f.1,.int .i64 f.2],.bp 1000 0] [(1000,.box 35 [.int .i64 a1.1,.int .i64 a1.2.1,.int .i64 a1.2.2])] (.bool r):=by
 unfold delay_isHeld_1 at h
 refine zH Try.func118 [.tmp 3] 7 ?_
 refine zo ?_
 refine zB [(1,.bp 1000 0),(2,.bp 2 0)] [(2,.box 110 [.int .i64 f.1,.int .i64 f.2]),(1000,.box 35 [.int .i64 a1.1,.int .i64 a1.2.1,.int .i64 a1.2.2])] ?_
 refine zo ?_
 refine zS 2 [(4,.agg [.int .i64 f.1,.int .i64 f.2]),(5,.agg [.int .i64 a1.1,.int .i64 a1.2.1,.int .i64 a1.2.2])] [(1000,.box 35 [.int .i64 a1.1,.int .i64 a1.2.1,.int .i64 a1.2.2])] ?_
 obtain ⟨v0,hv1,h⟩:=Option.bind_eq_some_iff.1 h
 refine zC [] [] (hc_delay_holds f a1 hv1) [(6,.bool v0)] [(1000,.box 35 [.int .i64 a1.1,.int .i64 a1.2.1,.int .i64 a1.2.2])] ?_
 refine zB [(3,.bool v0)] [(1000,.box 35 [.int .i64 a1.1,.int .i64 a1.2.1,.int .i64 a1.2.2])] ?_
 refine AW.ret ?_
 obtain rfl:=Option.some.inj h
 exact zR [] [] []
theorem hc_slices_IndexFunc_8 (s:List (Int×Int)) (c0:Int×Int×Int) {r:Int} (h:slices_IndexFunc_8 s c0=some r):HC Try.prog 145 [(1000,.box 35 [.int .i64 c0.1,.int .i64 c0.2.1,.int .i64 c0.2.2])] [.sl (.pair (.int .i64) (.int .i64)) s,.fn (.func 118) [] [.bp 1000 0]] [(1000,.box 35 [.int .i64 c0.1,.int .i64 c0.2.1,.int .i64 c0.2.2])] (.int .i64 r):=by
 unfold slices_IndexFunc_8 at h
 refine zH Try.func145 [.tmp 4] 19 ?_
 refine zo ?_
 refine zB [(0,.sl (.pair (.int .i64) (.int .i64)) s),(1,.fn (.func 118) [] [.bp 1000 0])] [(1000,.box 35 [.int .i64 c0.1,.int .i64 c0.2.1,.int .i64 c0.2.2])] ?_
 refine AW.have1 (fun _:Unit=>slices_IndexFunc_8_k1=some r) (fun _=>⟨fr [],hpGet [(1000,.box 35 [.int .i64 c0.1,.int .i64 c0.2.1,.int .i64 c0.2.2])],gt⟩) (fun _ h=>?_) (fun hk_slices_IndexFunc_8_k1=>?_)
 ·as_aux_lemma =>
   unfold slices_IndexFunc_8_k1 at h
   refine zo ?_
   refine zB [(4,.int .i64 (-1))] [(1000,.box 35 [.int .i64 c0.1,.int .i64 c0.2.1,.int .i64 c0.2.2])] ?_
   refine AW.ret ?_
   obtain rfl:=Option.some.inj h
   exact zR [] [] []
 ·refine AW.seq ?_
  refine zo ?_
  refine zB [(0,.sl (.pair (.int .i64) (.int .i64)) s),(1,.fn (.func 118) [] [.bp 1000 0]),(7,.int .i64 (s.length:Int)),(8,.int .i64 0)] [(1000,.box 35 [.int .i64 c0.1,.int .i64 c0.2.1,.int .i64 c0.2.2])] ?_
  refine AW.block ?_
  obtain ⟨rv5,hw1,ho2⟩:=Option.bind_eq_some_iff.1 h
  refine AW.loopO (slices_IndexFunc_8_b1 s c0) (fun st1=>⟨fr [(0,.sl (.pair (.int .i64) (.int .i64)) s),(1,.fn (.func 118) [] [.bp 1000 0]),(7,.int .i64 (s.length:Int)),(8,.int .i64 st1)],hpGet [(1000,.box 35 [.int .i64 c0.1,.int .i64 c0.2.1,.int .i64 c0.2.2])],gt⟩) 0 hw1 (zL [] [] []) ?_
  as_aux_lemma =>
   intro st1 x4 h hd3
   unfold slices_IndexFunc_8_b1 at h
   refine zo ?_
   refine zB [(0,.sl (.pair (.int .i64) (.int .i64)) s),(1,.fn (.func 118) [] [.bp 1000 0]),(7,.int .i64 (s.length:Int)),(8,.int .i64 st1),(9,.bool (decide (st1<(s.length:Int))))] [(1000,.box 35 [.int .i64 c0.1,.int .i64 c0.2.1,.int .i64 c0.2.2])] ?_
   refine AW.seq ?_
   refine zQ h (fun hb6 h=>?_) (fun hb6 h=>?_)
   ·refine zk ?_
    refine AW.seq ?_
    refine AW.block ?_
    refine zo ?_
    refine zB [(0,.sl (.pair (.int .i64) (.int .i64)) s),(1,.fn (.func 118) [] [.bp 1000 0]),(5,.int .i64 st1),(7,.int .i64 (s.length:Int)),(8,.int .i64 st1)] [(1000,.box 35 [.int .i64 c0.1,.int .i64 c0.2.1,.int .i64 c0.2.2])] ?_
    refine zo ?_
    obtain ⟨c7,h⟩:=ck_some.1 h
    obtain ⟨c8,h⟩:=ck_some.1 h
    refine zS 5 [(0,.sl (.pair (.int .i64) (.int .i64)) s),(1,.fn (.func 118) [] [.bp 1000 0]),(5,.int .i64 st1),(7,.int .i64 (s.length:Int)),(8,.int .i64 st1),(11,.fn (.func 118) [] [.bp 1000 0]),(15,.agg [.int .i64 (s.getD st1.toNat (0,0)).1,.int .i64 (s.getD st1.toNat (0,0)).2])] [(1000,.box 35 [.int .i64 c0.1,.int .i64 c0.2.1,.int .i64 c0.2.2])] ?_
    obtain ⟨v0,hv9,h⟩:=Option.bind_eq_some_iff.1 h
    refine zC [] [(1000,1000)] (hc_delay_isHeld_1 (s.getD st1.toNat (0,0)) c0 hv9) [(0,.sl (.pair (.int .i64) (.int .i64)) s),(1,.fn (.func 118) [] [.bp 1000 0]),(5,.int .i64 st1),(7,.int .i64 (s.length:Int)),(8,.int .i64 st1),(16,.bool v0)] [(1000,.box 35 [.int .i64 c0.1,.int .i64 c0.2.1,.int .i64 c0.2.2])] ?_
    refine zB [(0,.sl (.pair (.int .i64) (.int .i64)) s),(1,.fn (.func 118) [] [.bp 1000 0]),(5,.int .i64 st1),(7,.int .i64 (s.length:Int)),(8,.int .i64 st1),(16,.bool v0)] [(1000,.box 35 [.int .i64 c0.1,.int .i64 c0.2.1,.int .i64 c0.2.2])] ?_
    refine zQ h (fun hb10 h=>?_) (fun hb10 h=>?_)
    ·refine zo ?_
     refine zB [(4,.int .i64 st1)] [(1000,.box 35 [.int .i64 c0.1,.int .i64 c0.2.1,.int .i64 c0.2.2])] ?_
     refine AW.ret ?_
     refine ablock_r ?_
     refine athen_r ?_
     obtain rfl:=Option.some.inj h
     rw [← hd3 _ rfl] at ho2
     have h:=ho2
     try simp only at h
     refine athen_r ?_
     refine ablock_r ?_
     refine athen_r ?_
     obtain rfl:=Option.some.inj h
     exact zR [] [] []
    ·refine zm ?_
     refine athen_n ?_
     refine AW.ops ?_
     obtain ⟨c11,h⟩:=ck_some.1 h
     refine zA [(0,.sl (.pair (.int .i64) (.int .i64)) s),(1,.fn (.func 118) [] [.bp 1000 0]),(7,.int .i64 (s.length:Int)),(8,.int .i64 (st1+1))] [(1000,.box 35 [.int .i64 c0.1,.int .i64 c0.2.1,.int .i64 c0.2.2])] ?_
     obtain rfl:=Option.some.inj h
     exact ⟨_,rfl,zL [] [] []⟩
   ·refine AW.exit ?_
    refine athen_e ?_
    obtain rfl:=Option.some.inj h
    try rw [← hd3 _ rfl] at ho2
    have h:=ho2
    try simp only at h
    refine athen_e ?_
    refine ablock_s ?_
    refine athen_n ?_
    exact AW.weaken (zL [] [] []) (hk_slices_IndexFunc_8_k1 () h)
theorem hc_slices_ContainsFunc_5 (s:List (Int×Int)) (c0:Int×Int×Int) {r:Bool} (h:slices_ContainsFunc_5 s c0=some r):HC Try.prog 117 [(1000,.box 35 [.int .i64 c0.1,.int .i64 c0.2.1,.int .i64 c0.2.2])] [.sl (.pair (.int .i64) (.int .i64)) s,.fn (.func 118) [] [.bp 1000 0]] [(1000,.box 35 [.int .i64 c0.1,.int .i64 c0.2.1,.int .i64 c0.2.2])] (.bool r):=by
 unfold slices_ContainsFunc_5 at h
 refine zH Try.func117 [.tmp 4] 9 ?_
 refine zo ?_
 refine zB [(0,.sl (.pair (.int .i64) (.int .i64)) s),(1,.fn (.func 118) [] [.bp 1000 0])] [(1000,.box 35 [.int .i64 c0.1,.int .i64 c0.2.1,.int .i64 c0.2.2])] ?_
 refine zo ?_
 refine zS 2 [(5,.sl (.pair (.int .i64) (.int .i64)) s),(6,.fn (.func 118) [] [.bp 1000 0])] [(1000,.box 35 [.int .i64 c0.1,.int .i64 c0.2.1,.int .i64 c0.2.2])] ?_
 obtain ⟨v0,hv1,h⟩:=Option.bind_eq_some_iff.1 h
 refine zC [] [(1000,1000)] (hc_slices_IndexFunc_8 s c0 hv1) [(7,.int .i64 v0)] [(1000,.box 35 [.int .i64 c0.1,.int .i64 c0.2.1,.int .i64 c0.2.2])] ?_
 refine zB [(4,.bool (decide (0≤v0)))] [(1000,.box 35 [.int .i64 c0.1,.int .i64 c0.2.1,.int .i64 c0.2.2])] ?_
 refine AW.ret ?_
 obtain rfl:=Option.some.inj h
 exact zR [] [] []
theorem hc_delay_isHeld (fences:List (Int×Int)) (pair:Int×Int×Int) {r:Bool} (h:delay_isHeld fences pair=some r):HC Try.prog 82 [] [.sl (.pair (.int .i64) (.int .i64)) fences,.agg [.int .i64 pair.1,.int .i64 pair.2.1,.int .i64 pair.2.2]] [] (.bool r):=by
 unfold delay_isHeld at h
 refine zH Try.func82 [.tmp 4] 8 ?_
 refine zo ?_
 refine zB [(0,.sl (.pair (.int .i64) (.int .i64)) fences),(3,.bp 3 0)] [(3,.box 35 [.int .i64 pair.1,.int .i64 pair.2.1,.int .i64 pair.2.2])] ?_
 refine zo ?_
 refine zS 2 [(5,.sl (.pair (.int .i64) (.int .i64)) fences),(6,.fn (.func 118) [] [.bp 3 0])] [(3,.box 35 [.int .i64 pair.1,.int .i64 pair.2.1,.int .i64 pair.2.2])] ?_
 obtain ⟨v0,hv1,h⟩:=Option.bind_eq_some_iff.1 h
 refine zC [] [(1000,3)] (hc_slices_ContainsFunc_5 fences pair hv1) [(7,.bool v0)] [] ?_
 refine zB [(4,.bool v0)] [] ?_
 refine AW.ret ?_
 obtain rfl:=Option.some.inj h
 exact zR [] [] []
theorem hc_linealref09_holds (f:Int×Int) (p:Int×Int×Int) {r:Bool} (h:linealref09_holds f p=some r):HC Try.prog 98 [] [.agg [.int .i64 f.1,.int .i64 f.2],.agg [.int .i64 p.1,.int .i64 p.2.1,.int .i64 p.2.2]] [] (.bool r):=by
 unfold linealref09_holds at h
 refine zH Try.func98 [.tmp 4] 24 ?_
 refine zo ?_
 refine zB [(2,.bp 2 0),(3,.bp 3 0)] [(2,.box 110 [.int .i64 f.1,.int .i64 f.2]),(3,.box 35 [.int .i64 p.1,.int .i64 p.2.1,.int .i64 p.2.2])] ?_
 refine zo ?_
 refine zS 5 [(2,.bp 2 0),(3,.bp 3 0),(9,.bool (decide (f.1=p.1)))] [(2,.box 110 [.int .i64 f.1,.int .i64 f.2]),(3,.box 35 [.int .i64 p.1,.int .i64 p.2.1,.int .i64 p.2.2])] ?_
 refine zS 1 [(2,.bp 2 0),(3,.bp 3 0),(10,.bool (decide (f.1=p.1)))] [(2,.box 110 [.int .i64 f.1,.int .i64 f.2]),(3,.box 35 [.int .i64 p.1,.int .i64 p.2.1,.int .i64 p.2.2])] ?_
 rcases zI h with ⟨hb1,h⟩|⟨hb1,h⟩
 ·refine zS 5 [(2,.bp 2 0),(3,.bp 3 0),(10,.bool true),(15,.bool (decide (p.2.1≤f.2)))] [(2,.box 110 [.int .i64 f.1,.int .i64 f.2]),(3,.box 35 [.int .i64 p.1,.int .i64 p.2.1,.int .i64 p.2.2])] ?_
  refine zS 2 [(2,.bp 2 0),(3,.bp 3 0),(17,.bool (decide (p.2.1≤f.2)))] [(2,.box 110 [.int .i64 f.1,.int .i64 f.2]),(3,.box 35 [.int .i64 p.1,.int .i64 p.2.1,.int .i64 p.2.2])] ?_
  rcases zI h with ⟨hb2,h⟩|⟨hb2,h⟩
  ·refine zS 5 [(17,.bool true),(22,.bool (decide (f.2<p.2.2)))] [] ?_
   refine zB [(4,.bool (decide (f.2<p.2.2)))] [] ?_
   refine AW.ret ?_
   obtain rfl:=Option.some.inj h
   exact zR [] [] []
  ·refine zS 4 [(17,.bool false),(19,.cv (undef)),(21,.cv (undef))] [] ?_
   refine zB [(4,.bool false)] [] ?_
   refine AW.ret ?_
   obtain rfl:=Option.some.inj h
   exact zR [] [] []
 ·refine zS 4 [(2,.bp 2 0),(3,.bp 3 0),(10,.bool false),(12,.cv (undef)),(14,.cv (undef))] [(2,.box 110 [.int .i64 f.1,.int .i64 f.2]),(3,.box 35 [.int .i64 p.1,.int .i64 p.2.1,.int .i64 p.2.2])] ?_
  refine zS 5 [(3,.bp 3 0),(17,.bool false),(19,.cv (undef))] [(3,.box 35 [.int .i64 p.1,.int .i64 p.2.1,.int .i64 p.2.2])] ?_
  refine zB [(4,.bool false)] [] ?_
  refine AW.ret ?_
  obtain rfl:=Option.some.inj h
  exact zR [] [] []
end Go.Proofs.Ytdicomoggfhbfaa
