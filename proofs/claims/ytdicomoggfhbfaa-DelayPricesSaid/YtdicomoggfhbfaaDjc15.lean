import Derived.Test.YtdicomoggfhbfaaDlp
import Derived.Test.YtdicomoggfhbfaaShd
import Derived.Test.YtdicomoggfhbfaaAvd
import Derived.Test.YtdicomoggfhbfaaDjc12
import Derived.Test.YtdicomoggfhbfaaDjc14
import Derived.Test.YtdicomoggfhbfaaDjc5
import Derived.Test.YtdicomoggfhbfaaDjc9
namespace Go.Proofs.Ytdicomoggfhbfaa
open Go.RowKit
set_option linter.unusedSimpArgs false
set_option linter.unusedVariables false
set_option linter.constructorNameAsVariable false
set_option maxRecDepth 100000
set_option maxHeartbeats 40000000
theorem hc_linealref09_Prove (x0:List (List (Int×Bool))) (costs:List (List Int)) (prices:List Int) (least:Int) {r:Bool×Int} (h:linealref09_Prove x0 costs prices least=some r):HC Try.prog 46 [] [.sl (.sl (.pair (.int .i64) .bool)) x0,.sl (.sl (.int .i64)) costs,.sl (.int .i64) prices,.int .i64 least] [] (.tup [.bool r.1,.int .i64 r.2]):=by
 unfold linealref09_Prove at h
 refine zH Try.func46 [.tmp 8,.tmp 9] 96 ?_
 refine zo ?_
 refine zB [(0,.sl (.sl (.pair (.int .i64) .bool)) x0),(1,.sl (.sl (.int .i64)) costs),(2,.sl (.int .i64) prices),(3,.int .i64 least)] [] ?_
 refine AW.seq ?_
 refine zo ?_
 refine zS 2 [(0,.sl (.sl (.pair (.int .i64) .bool)) x0),(1,.sl (.sl (.int .i64)) costs),(2,.sl (.int .i64) prices),(3,.int .i64 least),(20,.sl (.sl (.pair (.int .i64) .bool)) x0),(21,.sl (.sl (.int .i64)) costs)] [] ?_
 obtain ⟨v0,hv1,h⟩:=Option.bind_eq_some_iff.1 h
 refine zC [] [] (hc_linealref09_priced x0 costs hv1) [(0,.sl (.sl (.pair (.int .i64) .bool)) x0),(1,.sl (.sl (.int .i64)) costs),(2,.sl (.int .i64) prices),(3,.int .i64 least),(22,.int .i64 v0)] [] ?_
 refine zB [(0,.sl (.sl (.pair (.int .i64) .bool)) x0),(1,.sl (.sl (.int .i64)) costs),(2,.sl (.int .i64) prices),(3,.int .i64 least),(10,.int .i64 v0)] [] ?_
 refine zo ?_
 refine zB [(0,.sl (.sl (.pair (.int .i64) .bool)) x0),(1,.sl (.sl (.int .i64)) costs),(2,.sl (.int .i64) prices),(3,.int .i64 least),(10,.int .i64 v0),(24,.bool (!(decide (v0=0))))] [] ?_
 refine zQ h (fun hb2 h=>?_) (fun hb2 h=>?_)
 ·refine zo ?_
  refine zB [(8,.bool false),(9,.int .i64 v0)] [] ?_
  refine zr ?_
  obtain rfl:=Option.some.inj h
  exact zR [] [] []
 ·refine zk ?_
  refine zo ?_
  refine zS 1 [(0,.sl (.sl (.pair (.int .i64) .bool)) x0),(1,.sl (.sl (.int .i64)) costs),(2,.sl (.int .i64) prices),(3,.int .i64 least),(26,.sl (.sl (.pair (.int .i64) .bool)) x0)] [] ?_
  obtain ⟨v0_2,hv3,h⟩:=Option.bind_eq_some_iff.1 h
  refine zC [] [] (hc_linealref09_needed x0 hv3) [(0,.sl (.sl (.pair (.int .i64) .bool)) x0),(1,.sl (.sl (.int .i64)) costs),(2,.sl (.int .i64) prices),(3,.int .i64 least),(27,.own 37000)] [(37000,.arr 35 Y0 v0_2)] ?_
  refine zB [(0,.sl (.sl (.pair (.int .i64) .bool)) x0),(1,.sl (.sl (.int .i64)) costs),(2,.sl (.int .i64) prices),(3,.int .i64 least),(11,.own 37000)] [(37000,.arr 35 Y0 v0_2)] ?_
  refine AW.seq ?_
  refine zo ?_
  refine zS 5 [(0,.sl (.sl (.pair (.int .i64) .bool)) x0),(1,.sl (.sl (.int .i64)) costs),(2,.sl (.int .i64) prices),(3,.int .i64 least),(11,.own 37000),(32,.bool (!(decide ((prices.length:Int)=(v0_2.length:Int)))))] [(37000,.arr 35 Y0 v0_2)] ?_
  refine zS 1 [(0,.sl (.sl (.pair (.int .i64) .bool)) x0),(1,.sl (.sl (.int .i64)) costs),(2,.sl (.int .i64) prices),(3,.int .i64 least),(11,.own 37000),(33,.bool (!(decide ((prices.length:Int)=(v0_2.length:Int)))))] [(37000,.arr 35 Y0 v0_2)] ?_
  rcases zI h with ⟨hb4,h⟩|⟨hb4,h⟩
  ·refine zS 5 [(0,.sl (.sl (.pair (.int .i64) .bool)) x0),(1,.sl (.sl (.int .i64)) costs),(2,.sl (.int .i64) prices),(3,.int .i64 least),(11,.own 37000),(37,.bool true),(38,.cv (undef))] [(37000,.arr 35 Y0 v0_2)] ?_
   refine zB [(0,.sl (.sl (.pair (.int .i64) .bool)) x0),(1,.sl (.sl (.int .i64)) costs),(2,.sl (.int .i64) prices),(3,.int .i64 least),(11,.own 37000),(40,.bool true)] [(37000,.arr 35 Y0 v0_2)] ?_
   refine AW.cond (b:=true) rfl (fun _=>?_) (fun hb5=>by cases hb5)
   refine zo ?_
   refine zB [(8,.bool false),(9,.int .i64 2)] [] ?_
   refine zr ?_
   obtain rfl:=Option.some.inj h
   exact zR [] [] []
  ·refine zS 4 [(0,.sl (.sl (.pair (.int .i64) .bool)) x0),(1,.sl (.sl (.int .i64)) costs),(2,.sl (.int .i64) prices),(3,.int .i64 least),(11,.own 37000),(37,.bool (decide (least<0)))] [(37000,.arr 35 Y0 v0_2)] ?_
   rcases zI h with ⟨hb6,h⟩|⟨hb6,h⟩
   ·refine zB [(0,.sl (.sl (.pair (.int .i64) .bool)) x0),(1,.sl (.sl (.int .i64)) costs),(2,.sl (.int .i64) prices),(3,.int .i64 least),(11,.own 37000),(40,.bool true)] [(37000,.arr 35 Y0 v0_2)] ?_
    refine AW.cond (b:=true) rfl (fun _=>?_) (fun hb7=>by cases hb7)
    refine zo ?_
    refine zB [(8,.bool false),(9,.int .i64 2)] [] ?_
    refine zr ?_
    obtain rfl:=Option.some.inj h
    exact zR [] [] []
   ·refine zB [(0,.sl (.sl (.pair (.int .i64) .bool)) x0),(1,.sl (.sl (.int .i64)) costs),(2,.sl (.int .i64) prices),(3,.int .i64 least),(11,.own 37000),(40,.bool (decide (1000<least)))] [(37000,.arr 35 Y0 v0_2)] ?_
    refine zQ h (fun hb8 h=>?_) (fun hb8 h=>?_)
    ·refine zo ?_
     refine zB [(8,.bool false),(9,.int .i64 2)] [] ?_
     refine zr ?_
     obtain rfl:=Option.some.inj h
     exact zR [] [] []
    ·refine zk ?_
     refine zo ?_
     refine zB [(0,.sl (.sl (.pair (.int .i64) .bool)) x0),(1,.sl (.sl (.int .i64)) costs),(2,.sl (.int .i64) prices),(3,.int .i64 least),(11,.own 37000),(12,.int .i64 0)] [(37000,.arr 35 Y0 v0_2)] ?_
     refine AW.have1 (fun b1:Int=>linealref09_Prove_k1 x0 costs prices least v0_2 b1=some r) (fun b1=>⟨fr [(0,.sl (.sl (.pair (.int .i64) .bool)) x0),(1,.sl (.sl (.int .i64)) costs),(2,.sl (.int .i64) prices),(3,.int .i64 least),(11,.own 37000),(12,.int .i64 b1)],hpGet [(37000,.arr 35 Y0 v0_2)],gt⟩) (fun b1 h=>?_) (fun hk_linealref09_Prove_k1=>?_)
     ·as_aux_lemma =>
       unfold linealref09_Prove_k1 at h
       refine AW.have1 (fun _:Unit=>linealref09_Prove_k2 least b1=some r) (fun _=>⟨fr [(3,.int .i64 least),(12,.int .i64 b1)],hpGet [],gt⟩) (fun _ h=>?_) (fun hk_linealref09_Prove_k2=>?_)
       ·as_aux_lemma =>
         unfold linealref09_Prove_k2 at h
         refine zo ?_
         refine zB [(8,.bool (decide (least≤b1))),(9,.int .i64 0)] [] ?_
         refine AW.ret ?_
         obtain rfl:=Option.some.inj h
         exact zR [] [] []
       ·refine AW.seq ?_
        refine zo ?_
        refine zS 1 [(1,.sl (.sl (.int .i64)) costs),(2,.sl (.int .i64) prices),(3,.int .i64 least),(11,.own 37000),(12,.int .i64 b1),(57,.sl (.sl (.pair (.int .i64) .bool)) x0)] [(37000,.arr 35 Y0 v0_2)] ?_
        obtain ⟨v0_3,hv9,h⟩:=Option.bind_eq_some_iff.1 h
        refine zC [] [] (hc_linealref09_AllFences x0 hv9) [(1,.sl (.sl (.int .i64)) costs),(2,.sl (.int .i64) prices),(3,.int .i64 least),(11,.own 37000),(12,.int .i64 b1),(58,.own 68000)] [(37000,.arr 35 Y0 v0_2),(68000,.arr 110 (.pair (.int .i64) (.int .i64)) v0_3)] ?_
        refine zB [(1,.sl (.sl (.int .i64)) costs),(2,.sl (.int .i64) prices),(3,.int .i64 least),(11,.own 37000),(12,.int .i64 b1),(58,.own 68000),(59,.int .i64 (v0_3.length:Int)),(60,.int .i64 0)] [(37000,.arr 35 Y0 v0_2),(68000,.arr 110 (.pair (.int .i64) (.int .i64)) v0_3)] ?_
        refine AW.block ?_
        obtain ⟨rv14,hw10,ho11⟩:=Option.bind_eq_some_iff.1 h
        refine AW.loopO (linealref09_Prove_b2 costs prices v0_2 v0_3) (fun st2=>⟨fr [(1,.sl (.sl (.int .i64)) costs),(2,.sl (.int .i64) prices),(3,.int .i64 least),(11,.own 37000),(12,.int .i64 b1),(58,.own 68000),(59,.int .i64 (v0_3.length:Int)),(60,.int .i64 st2)],hpGet [(37000,.arr 35 Y0 v0_2),(68000,.arr 110 (.pair (.int .i64) (.int .i64)) v0_3)],gt⟩) 0 hw10 (zL [] [] []) ?_
        as_aux_lemma =>
         intro st2 x13 h hd12
         unfold linealref09_Prove_b2 at h
         refine zo ?_
         refine zB [(1,.sl (.sl (.int .i64)) costs),(2,.sl (.int .i64) prices),(3,.int .i64 least),(11,.own 37000),(12,.int .i64 b1),(58,.own 68000),(59,.int .i64 (v0_3.length:Int)),(60,.int .i64 st2),(61,.bool (decide (st2<(v0_3.length:Int))))] [(37000,.arr 35 Y0 v0_2),(68000,.arr 110 (.pair (.int .i64) (.int .i64)) v0_3)] ?_
         refine AW.seq ?_
         refine zQ h (fun hb15 h=>?_) (fun hb15 h=>?_)
         ·refine zk ?_
          refine AW.have1 (fun _:Unit=>linealref09_Prove_k3 st2=some x13) (fun _=>⟨fr [(1,.sl (.sl (.int .i64)) costs),(2,.sl (.int .i64) prices),(3,.int .i64 least),(11,.own 37000),(12,.int .i64 b1),(58,.own 68000),(59,.int .i64 (v0_3.length:Int)),(60,.int .i64 st2)],hpGet [(37000,.arr 35 Y0 v0_2),(68000,.arr 110 (.pair (.int .i64) (.int .i64)) v0_3)],gt⟩) (fun _ h=>?_) (fun hk_linealref09_Prove_k3=>?_)
          ·as_aux_lemma =>
            unfold linealref09_Prove_k3 at h
            refine AW.ops ?_
            obtain ⟨c16,h⟩:=ck_some.1 h
            refine zA [(1,.sl (.sl (.int .i64)) costs),(2,.sl (.int .i64) prices),(3,.int .i64 least),(11,.own 37000),(12,.int .i64 b1),(58,.own 68000),(59,.int .i64 (v0_3.length:Int)),(60,.int .i64 (st2+1))] [(37000,.arr 35 Y0 v0_2),(68000,.arr 110 (.pair (.int .i64) (.int .i64)) v0_3)] ?_
            obtain rfl:=Option.some.inj h
            exact ⟨_,rfl,zL [] [] []⟩
          ·refine AW.seq ?_
           refine AW.block ?_
           refine zo ?_
           obtain ⟨c17,h⟩:=ck_some.1 h
           obtain ⟨c18,h⟩:=ck_some.1 h
           refine zB [(1,.sl (.sl (.int .i64)) costs),(2,.sl (.int .i64) prices),(3,.int .i64 least),(11,.own 37000),(12,.int .i64 b1),(16,.bp 16 0),(58,.own 68000),(59,.int .i64 (v0_3.length:Int)),(60,.int .i64 st2)] [(16,.box 110 [.int .i64 (v0_3.getD st2.toNat (0,0)).1,.int .i64 (v0_3.getD st2.toNat (0,0)).2]),(37000,.arr 35 Y0 v0_2),(68000,.arr 110 (.pair (.int .i64) (.int .i64)) v0_3)] ?_
           refine zo ?_
           refine zB [(1,.sl (.sl (.int .i64)) costs),(2,.sl (.int .i64) prices),(3,.int .i64 least),(11,.own 37000),(12,.int .i64 b1),(16,.bp 16 0),(17,.int .i64 0),(58,.own 68000),(59,.int .i64 (v0_3.length:Int)),(60,.int .i64 st2)] [(16,.box 110 [.int .i64 (v0_3.getD st2.toNat (0,0)).1,.int .i64 (v0_3.getD st2.toNat (0,0)).2]),(37000,.arr 35 Y0 v0_2),(68000,.arr 110 (.pair (.int .i64) (.int .i64)) v0_3)] ?_
           refine AW.have1 (fun b4:Int=>linealref09_Prove_k4 costs v0_3 st2 b4=some x13) (fun b4=>⟨fr [(1,.sl (.sl (.int .i64)) costs),(2,.sl (.int .i64) prices),(3,.int .i64 least),(11,.own 37000),(12,.int .i64 b1),(16,.bp 16 0),(17,.int .i64 b4),(58,.own 68000),(59,.int .i64 (v0_3.length:Int)),(60,.int .i64 st2)],hpGet [(16,.box 110 [.int .i64 (v0_3.getD st2.toNat (0,0)).1,.int .i64 (v0_3.getD st2.toNat (0,0)).2]),(37000,.arr 35 Y0 v0_2),(68000,.arr 110 (.pair (.int .i64) (.int .i64)) v0_3)],gt⟩) (fun b4 h=>?_) (fun hk_linealref09_Prove_k4=>?_)
           ·as_aux_lemma =>
             unfold linealref09_Prove_k4 at h
             refine AW.seq ?_
             refine AW.draw tab_ok mixed_ok [] [] (by decide) (lex_fast (by kernel_rfl)) ?_
             as_aux_lemma =>
              obtain ⟨c20,h⟩:=ck_some.1 h
              obtain ⟨c21,h⟩:=ck_some.1 h
              refine adops_cut 6 (fun K' hK19=>?_)
              try dsimp only [List.drop_succ_cons,List.drop_zero,List.take_succ_cons,List.take_zero]
              simp only [go_sem,hb2,hb4,hb6,hb8,hb15]
              repeat with_reducible refine zN ?_
              refine hK19 _ ?_
              as_aux_lemma =>
               obtain ⟨c23,h⟩:=ck_some.1 h
               obtain ⟨c24,h⟩:=ck_some.1 h
               refine adops_cut 5 (fun K' hK22=>?_)
               try dsimp only [List.drop_succ_cons,List.drop_zero,List.take_succ_cons,List.take_zero]
               simp only [go_sem,hb2,hb4,hb6,hb8,hb15]
               repeat with_reducible refine zN ?_
               refine hK22 _ ?_
               refine adops_nil ?_
               refine athen_n ?_
               refine zV [(1,.sl (.sl (.int .i64)) costs),(2,.sl (.int .i64) prices),(3,.int .i64 least),(11,.own 37000),(12,.int .i64 b1),(58,.own 68000),(59,.int .i64 (v0_3.length:Int)),(60,.int .i64 st2),(91,.bool (decide (((costs.getD (v0_3.getD st2.toNat (0,0)).1.toNat []).getD (v0_3.getD st2.toNat (0,0)).2.toNat 0)<b4)))] [(37000,.arr 35 Y0 v0_2),(68000,.arr 110 (.pair (.int .i64) (.int .i64)) v0_3)] gt ?_
               as_aux_lemma =>
                refine zQ h (fun hb25 h=>?_) (fun hb25 h=>?_)
                ·refine zo ?_
                 refine zB [(8,.bool false),(9,.int .i64 0)] [] ?_
                 refine AW.ret ?_
                 refine ablock_r ?_
                 refine athen_r ?_
                 obtain rfl:=Option.some.inj h
                 try rw [← hd12 _ rfl] at ho11
                 have h:=ho11
                 try simp only at h
                 refine athen_r ?_
                 refine ablock_r ?_
                 refine athen_r ?_
                 obtain rfl:=Option.some.inj h
                 exact zR [] [] []
                ·refine zm ?_
                 refine athen_n ?_
                 exact AW.weaken (zL [] [] []) (hk_linealref09_Prove_k3 () h)
           ·refine AW.seq ?_
            refine zo ?_
            refine zB [(1,.sl (.sl (.int .i64)) costs),(2,.sl (.int .i64) prices),(3,.int .i64 least),(11,.own 37000),(12,.int .i64 b1),(16,.bp 16 0),(17,.int .i64 0),(58,.own 68000),(59,.int .i64 (v0_3.length:Int)),(60,.int .i64 st2),(64,.own 37000),(65,.int .i64 (v0_2.length:Int)),(66,.int .i64 0)] [(16,.box 110 [.int .i64 (v0_3.getD st2.toNat (0,0)).1,.int .i64 (v0_3.getD st2.toNat (0,0)).2]),(37000,.arr 35 Y0 v0_2),(68000,.arr 110 (.pair (.int .i64) (.int .i64)) v0_3)] ?_
            refine AW.block ?_
            obtain ⟨rv30,hw26,ho27⟩:=Option.bind_eq_some_iff.1 h
            refine AW.loopO (linealref09_Prove_b3 prices v0_2 v0_3 st2) (fun st3=>⟨fr [(1,.sl (.sl (.int .i64)) costs),(2,.sl (.int .i64) prices),(3,.int .i64 least),(11,.own 37000),(12,.int .i64 b1),(16,.bp 16 0),(17,.int .i64 st3.1),(58,.own 68000),(59,.int .i64 (v0_3.length:Int)),(60,.int .i64 st2),(64,.own 37000),(65,.int .i64 (v0_2.length:Int)),(66,.int .i64 st3.2)],hpGet [(16,.box 110 [.int .i64 (v0_3.getD st2.toNat (0,0)).1,.int .i64 (v0_3.getD st2.toNat (0,0)).2]),(37000,.arr 35 Y0 v0_2),(68000,.arr 110 (.pair (.int .i64) (.int .i64)) v0_3)],gt⟩) (0,0) hw26 (zL [] [] []) ?_
            as_aux_lemma =>
             intro st3 x29 h hd28
             unfold linealref09_Prove_b3 at h
             refine zo ?_
             refine zB [(1,.sl (.sl (.int .i64)) costs),(2,.sl (.int .i64) prices),(3,.int .i64 least),(11,.own 37000),(12,.int .i64 b1),(16,.bp 16 0),(17,.int .i64 st3.1),(58,.own 68000),(59,.int .i64 (v0_3.length:Int)),(60,.int .i64 st2),(64,.own 37000),(65,.int .i64 (v0_2.length:Int)),(66,.int .i64 st3.2),(67,.bool (decide (st3.2<(v0_2.length:Int))))] [(16,.box 110 [.int .i64 (v0_3.getD st2.toNat (0,0)).1,.int .i64 (v0_3.getD st2.toNat (0,0)).2]),(37000,.arr 35 Y0 v0_2),(68000,.arr 110 (.pair (.int .i64) (.int .i64)) v0_3)] ?_
             refine AW.seq ?_
             refine zQ h (fun hb31 h=>?_) (fun hb31 h=>?_)
             ·refine zk ?_
              refine AW.seq ?_
              refine AW.block ?_
              refine zo ?_
              obtain ⟨c32,h⟩:=ck_some.1 h
              obtain ⟨c33,h⟩:=ck_some.1 h
              refine zS 5 [(1,.sl (.sl (.int .i64)) costs),(2,.sl (.int .i64) prices),(3,.int .i64 least),(11,.own 37000),(12,.int .i64 b1),(16,.bp 16 0),(17,.int .i64 st3.1),(18,.int .i64 st3.2),(19,.bp 19 0),(58,.own 68000),(59,.int .i64 (v0_3.length:Int)),(60,.int .i64 st2),(64,.own 37000),(65,.int .i64 (v0_2.length:Int)),(66,.int .i64 st3.2),(70,.agg [.int .i64 (v0_2.getD st3.2.toNat (0,0,0)).1,.int .i64 (v0_2.getD st3.2.toNat (0,0,0)).2.1,.int .i64 (v0_2.getD st3.2.toNat (0,0,0)).2.2])] [(16,.box 110 [.int .i64 (v0_3.getD st2.toNat (0,0)).1,.int .i64 (v0_3.getD st2.toNat (0,0)).2]),(19,.box 35 [.int .i64 0,.int .i64 0,.int .i64 0]),(37000,.arr 35 Y0 v0_2),(68000,.arr 110 (.pair (.int .i64) (.int .i64)) v0_3)] ?_
              refine zB [(1,.sl (.sl (.int .i64)) costs),(2,.sl (.int .i64) prices),(3,.int .i64 least),(11,.own 37000),(12,.int .i64 b1),(16,.bp 16 0),(17,.int .i64 st3.1),(18,.int .i64 st3.2),(19,.bp 19 0),(58,.own 68000),(59,.int .i64 (v0_3.length:Int)),(60,.int .i64 st2),(64,.own 37000),(65,.int .i64 (v0_2.length:Int)),(66,.int .i64 st3.2)] [(16,.box 110 [.int .i64 (v0_3.getD st2.toNat (0,0)).1,.int .i64 (v0_3.getD st2.toNat (0,0)).2]),(19,.box 35 [.int .i64 (v0_2.getD st3.2.toNat (0,0,0)).1,.int .i64 (v0_2.getD st3.2.toNat (0,0,0)).2.1,.int .i64 (v0_2.getD st3.2.toNat (0,0,0)).2.2]),(37000,.arr 35 Y0 v0_2),(68000,.arr 110 (.pair (.int .i64) (.int .i64)) v0_3)] ?_
              refine zo ?_
              refine zS 2 [(1,.sl (.sl (.int .i64)) costs),(2,.sl (.int .i64) prices),(3,.int .i64 least),(11,.own 37000),(12,.int .i64 b1),(16,.bp 16 0),(17,.int .i64 st3.1),(18,.int .i64 st3.2),(58,.own 68000),(59,.int .i64 (v0_3.length:Int)),(60,.int .i64 st2),(64,.own 37000),(65,.int .i64 (v0_2.length:Int)),(66,.int .i64 st3.2),(71,.agg [.int .i64 (v0_3.getD st2.toNat (0,0)).1,.int .i64 (v0_3.getD st2.toNat (0,0)).2]),(72,.agg [.int .i64 (v0_2.getD st3.2.toNat (0,0,0)).1,.int .i64 (v0_2.getD st3.2.toNat (0,0,0)).2.1,.int .i64 (v0_2.getD st3.2.toNat (0,0,0)).2.2])] [(16,.box 110 [.int .i64 (v0_3.getD st2.toNat (0,0)).1,.int .i64 (v0_3.getD st2.toNat (0,0)).2]),(37000,.arr 35 Y0 v0_2),(68000,.arr 110 (.pair (.int .i64) (.int .i64)) v0_3)] ?_
              obtain ⟨v0_4,hv34,h⟩:=Option.bind_eq_some_iff.1 h
              refine zC [] [] (hc_linealref09_holds (v0_3.getD st2.toNat (0,0)) (v0_2.getD st3.2.toNat (0,0,0)) hv34) [(1,.sl (.sl (.int .i64)) costs),(2,.sl (.int .i64) prices),(3,.int .i64 least),(11,.own 37000),(12,.int .i64 b1),(16,.bp 16 0),(17,.int .i64 st3.1),(18,.int .i64 st3.2),(58,.own 68000),(59,.int .i64 (v0_3.length:Int)),(60,.int .i64 st2),(64,.own 37000),(65,.int .i64 (v0_2.length:Int)),(66,.int .i64 st3.2),(73,.bool v0_4)] [(16,.box 110 [.int .i64 (v0_3.getD st2.toNat (0,0)).1,.int .i64 (v0_3.getD st2.toNat (0,0)).2]),(37000,.arr 35 Y0 v0_2),(68000,.arr 110 (.pair (.int .i64) (.int .i64)) v0_3)] ?_
              refine zB [(1,.sl (.sl (.int .i64)) costs),(2,.sl (.int .i64) prices),(3,.int .i64 least),(11,.own 37000),(12,.int .i64 b1),(16,.bp 16 0),(17,.int .i64 st3.1),(18,.int .i64 st3.2),(58,.own 68000),(59,.int .i64 (v0_3.length:Int)),(60,.int .i64 st2),(64,.own 37000),(65,.int .i64 (v0_2.length:Int)),(66,.int .i64 st3.2),(73,.bool v0_4)] [(16,.box 110 [.int .i64 (v0_3.getD st2.toNat (0,0)).1,.int .i64 (v0_3.getD st2.toNat (0,0)).2]),(37000,.arr 35 Y0 v0_2),(68000,.arr 110 (.pair (.int .i64) (.int .i64)) v0_3)] ?_
              refine zQ h (fun hb35 h=>?_) (fun hb35 h=>?_)
              ·refine AW.ops ?_
               obtain ⟨c36,h⟩:=ck_some.1 h
               obtain ⟨c37,h⟩:=ck_some.1 h
               refine zS 5 [(1,.sl (.sl (.int .i64)) costs),(2,.sl (.int .i64) prices),(3,.int .i64 least),(11,.own 37000),(12,.int .i64 b1),(16,.bp 16 0),(58,.own 68000),(59,.int .i64 (v0_3.length:Int)),(60,.int .i64 st2),(64,.own 37000),(65,.int .i64 (v0_2.length:Int)),(66,.int .i64 st3.2),(74,.int .i64 st3.1),(78,.int .i64 (prices.getD st3.2.toNat 0))] [(16,.box 110 [.int .i64 (v0_3.getD st2.toNat (0,0)).1,.int .i64 (v0_3.getD st2.toNat (0,0)).2]),(37000,.arr 35 Y0 v0_2),(68000,.arr 110 (.pair (.int .i64) (.int .i64)) v0_3)] ?_
               obtain ⟨c38,h⟩:=ck_some.1 h
               refine zA [(1,.sl (.sl (.int .i64)) costs),(2,.sl (.int .i64) prices),(3,.int .i64 least),(11,.own 37000),(12,.int .i64 b1),(16,.bp 16 0),(17,.int .i64 (st3.1+(prices.getD st3.2.toNat 0))),(58,.own 68000),(59,.int .i64 (v0_3.length:Int)),(60,.int .i64 st2),(64,.own 37000),(65,.int .i64 (v0_2.length:Int)),(66,.int .i64 st3.2)] [(16,.box 110 [.int .i64 (v0_3.getD st2.toNat (0,0)).1,.int .i64 (v0_3.getD st2.toNat (0,0)).2]),(37000,.arr 35 Y0 v0_2),(68000,.arr 110 (.pair (.int .i64) (.int .i64)) v0_3)] ?_
               refine ablock_n ?_
               refine athen_n ?_
               refine AW.ops ?_
               obtain ⟨c39,h⟩:=ck_some.1 h
               refine zA [(1,.sl (.sl (.int .i64)) costs),(2,.sl (.int .i64) prices),(3,.int .i64 least),(11,.own 37000),(12,.int .i64 b1),(16,.bp 16 0),(17,.int .i64 (st3.1+(prices.getD st3.2.toNat 0))),(58,.own 68000),(59,.int .i64 (v0_3.length:Int)),(60,.int .i64 st2),(64,.own 37000),(65,.int .i64 (v0_2.length:Int)),(66,.int .i64 (st3.2+1))] [(16,.box 110 [.int .i64 (v0_3.getD st2.toNat (0,0)).1,.int .i64 (v0_3.getD st2.toNat (0,0)).2]),(37000,.arr 35 Y0 v0_2),(68000,.arr 110 (.pair (.int .i64) (.int .i64)) v0_3)] ?_
               obtain rfl:=Option.some.inj h
               exact ⟨_,rfl,zL [] [] []⟩
              ·refine zm ?_
               refine athen_n ?_
               refine AW.ops ?_
               obtain ⟨c40,h⟩:=ck_some.1 h
               refine zA [(1,.sl (.sl (.int .i64)) costs),(2,.sl (.int .i64) prices),(3,.int .i64 least),(11,.own 37000),(12,.int .i64 b1),(16,.bp 16 0),(17,.int .i64 st3.1),(58,.own 68000),(59,.int .i64 (v0_3.length:Int)),(60,.int .i64 st2),(64,.own 37000),(65,.int .i64 (v0_2.length:Int)),(66,.int .i64 (st3.2+1))] [(16,.box 110 [.int .i64 (v0_3.getD st2.toNat (0,0)).1,.int .i64 (v0_3.getD st2.toNat (0,0)).2]),(37000,.arr 35 Y0 v0_2),(68000,.arr 110 (.pair (.int .i64) (.int .i64)) v0_3)] ?_
               obtain rfl:=Option.some.inj h
               exact ⟨_,rfl,zL [] [] []⟩
             ·refine AW.exit ?_
              refine athen_e ?_
              obtain rfl:=Option.some.inj h
              rw [← hd28 _ rfl] at ho27
              have h:=ho27
              refine athen_e ?_
              refine ablock_s ?_
              refine athen_n ?_
              exact AW.weaken (zL [] [] []) (hk_linealref09_Prove_k4 _ h)
         ·refine AW.exit ?_
          refine athen_e ?_
          obtain rfl:=Option.some.inj h
          try rw [← hd12 _ rfl] at ho11
          have h:=ho11
          try simp only at h
          refine athen_e ?_
          refine ablock_s ?_
          refine athen_n ?_
          exact AW.weaken (zL [] [] []) (hk_linealref09_Prove_k2 () h)
     ·refine AW.seq ?_
      refine zo ?_
      refine zB [(0,.sl (.sl (.pair (.int .i64) .bool)) x0),(1,.sl (.sl (.int .i64)) costs),(2,.sl (.int .i64) prices),(3,.int .i64 least),(11,.own 37000),(12,.int .i64 0),(41,.sl (.int .i64) prices),(42,.int .i64 (prices.length:Int)),(43,.int .i64 0)] [(37000,.arr 35 Y0 v0_2)] ?_
      refine AW.block ?_
      obtain ⟨rv45,hw41,ho42⟩:=Option.bind_eq_some_iff.1 h
      refine AW.loopO (linealref09_Prove_b1 prices) (fun st1=>⟨fr [(0,.sl (.sl (.pair (.int .i64) .bool)) x0),(1,.sl (.sl (.int .i64)) costs),(2,.sl (.int .i64) prices),(3,.int .i64 least),(11,.own 37000),(12,.int .i64 st1.1),(41,.sl (.int .i64) prices),(42,.int .i64 (prices.length:Int)),(43,.int .i64 st1.2)],hpGet [(37000,.arr 35 Y0 v0_2)],gt⟩) (0,0) hw41 (zL [] [] []) ?_
      as_aux_lemma =>
       intro st1 x44 h hd43
       unfold linealref09_Prove_b1 at h
       refine zo ?_
       refine zB [(0,.sl (.sl (.pair (.int .i64) .bool)) x0),(1,.sl (.sl (.int .i64)) costs),(2,.sl (.int .i64) prices),(3,.int .i64 least),(11,.own 37000),(12,.int .i64 st1.1),(41,.sl (.int .i64) prices),(42,.int .i64 (prices.length:Int)),(43,.int .i64 st1.2),(44,.bool (decide (st1.2<(prices.length:Int))))] [(37000,.arr 35 Y0 v0_2)] ?_
       refine AW.seq ?_
       refine zQ h (fun hb46 h=>?_) (fun hb46 h=>?_)
       ·refine zk ?_
        refine AW.seq ?_
        refine AW.block ?_
        refine zo ?_
        obtain ⟨c47,h⟩:=ck_some.1 h
        obtain ⟨c48,h⟩:=ck_some.1 h
        refine zB [(0,.sl (.sl (.pair (.int .i64) .bool)) x0),(1,.sl (.sl (.int .i64)) costs),(2,.sl (.int .i64) prices),(3,.int .i64 least),(11,.own 37000),(12,.int .i64 st1.1),(14,.int .i64 (prices.getD st1.2.toNat 0)),(41,.sl (.int .i64) prices),(42,.int .i64 (prices.length:Int)),(43,.int .i64 st1.2)] [(37000,.arr 35 Y0 v0_2)] ?_
        refine AW.seq ?_
        refine zo ?_
        refine zS 3 [(0,.sl (.sl (.pair (.int .i64) .bool)) x0),(1,.sl (.sl (.int .i64)) costs),(2,.sl (.int .i64) prices),(3,.int .i64 least),(11,.own 37000),(12,.int .i64 st1.1),(14,.int .i64 (prices.getD st1.2.toNat 0)),(41,.sl (.int .i64) prices),(42,.int .i64 (prices.length:Int)),(43,.int .i64 st1.2),(49,.bool (decide ((prices.getD st1.2.toNat 0)<0)))] [(37000,.arr 35 Y0 v0_2)] ?_
        rcases zI h with ⟨hb49,h⟩|⟨hb49,h⟩
        ·refine zB [(0,.sl (.sl (.pair (.int .i64) .bool)) x0),(1,.sl (.sl (.int .i64)) costs),(2,.sl (.int .i64) prices),(3,.int .i64 least),(11,.own 37000),(12,.int .i64 st1.1),(14,.int .i64 (prices.getD st1.2.toNat 0)),(41,.sl (.int .i64) prices),(42,.int .i64 (prices.length:Int)),(43,.int .i64 st1.2),(52,.bool true)] [(37000,.arr 35 Y0 v0_2)] ?_
         refine AW.cond (b:=true) rfl (fun _=>?_) (fun hb50=>by cases hb50)
         refine zo ?_
         refine zB [(8,.bool false),(9,.int .i64 2)] [] ?_
         refine zr ?_
         refine ablock_r ?_
         refine athen_r ?_
         obtain rfl:=Option.some.inj h
         try rw [← hd43 _ rfl] at ho42
         have h:=ho42
         try simp only at h
         refine athen_r ?_
         refine ablock_r ?_
         refine athen_r ?_
         obtain rfl:=Option.some.inj h
         exact zR [] [] []
        ·refine zB [(0,.sl (.sl (.pair (.int .i64) .bool)) x0),(1,.sl (.sl (.int .i64)) costs),(2,.sl (.int .i64) prices),(3,.int .i64 least),(11,.own 37000),(12,.int .i64 st1.1),(14,.int .i64 (prices.getD st1.2.toNat 0)),(41,.sl (.int .i64) prices),(42,.int .i64 (prices.length:Int)),(43,.int .i64 st1.2),(52,.bool (decide (100<(prices.getD st1.2.toNat 0))))] [(37000,.arr 35 Y0 v0_2)] ?_
         refine zQ h (fun hb51 h=>?_) (fun hb51 h=>?_)
         ·refine zo ?_
          refine zB [(8,.bool false),(9,.int .i64 2)] [] ?_
          refine zr ?_
          refine ablock_r ?_
          refine athen_r ?_
          obtain rfl:=Option.some.inj h
          try rw [← hd43 _ rfl] at ho42
          have h:=ho42
          try simp only at h
          refine athen_r ?_
          refine ablock_r ?_
          refine athen_r ?_
          obtain rfl:=Option.some.inj h
          exact zR [] [] []
         ·refine zk ?_
          refine AW.ops ?_
          obtain ⟨c52,h⟩:=ck_some.1 h
          refine zA [(0,.sl (.sl (.pair (.int .i64) .bool)) x0),(1,.sl (.sl (.int .i64)) costs),(2,.sl (.int .i64) prices),(3,.int .i64 least),(11,.own 37000),(12,.int .i64 (st1.1+(prices.getD st1.2.toNat 0))),(41,.sl (.int .i64) prices),(42,.int .i64 (prices.length:Int)),(43,.int .i64 st1.2)] [(37000,.arr 35 Y0 v0_2)] ?_
          refine ablock_n ?_
          refine athen_n ?_
          refine AW.ops ?_
          obtain ⟨c53,h⟩:=ck_some.1 h
          refine zA [(0,.sl (.sl (.pair (.int .i64) .bool)) x0),(1,.sl (.sl (.int .i64)) costs),(2,.sl (.int .i64) prices),(3,.int .i64 least),(11,.own 37000),(12,.int .i64 (st1.1+(prices.getD st1.2.toNat 0))),(41,.sl (.int .i64) prices),(42,.int .i64 (prices.length:Int)),(43,.int .i64 (st1.2+1))] [(37000,.arr 35 Y0 v0_2)] ?_
          obtain rfl:=Option.some.inj h
          exact ⟨_,rfl,zL [] [] []⟩
       ·refine AW.exit ?_
        refine athen_e ?_
        obtain rfl:=Option.some.inj h
        rw [← hd43 _ rfl] at ho42
        have h:=ho42
        try simp only at h
        refine athen_e ?_
        refine ablock_s ?_
        refine athen_n ?_
        exact AW.weaken (zL [] [] []) (hk_linealref09_Prove_k1 _ h)
theorem hc_delay_offer_most (o:(List (List (Int×Bool)))×(List (Int×Int×Int))×(List (List Int))) (pair:Int×Int×Int) (prices:List Int) {r:Int} (h:delay_offer_most o pair prices=some r):HC Try.prog 136 [] [.agg [.sl (.sl (.pair (.int .i64) .bool)) o.1,.sl Y0 o.2.1,.sl (.sl (.int .i64)) o.2.2],.agg [.int .i64 pair.1,.int .i64 pair.2.1,.int .i64 pair.2.2],.sl (.int .i64) prices] [] (.int .i64 r):=by
 unfold delay_offer_most at h
 refine zH Try.func136 [.tmp 6] 29 ?_
 refine zo ?_
 refine zB [(2,.sl (.int .i64) prices),(3,.bp 3 0),(4,.bp 4 0)] [(3,.box 103 [.sl (.sl (.pair (.int .i64) .bool)) o.1,.sl Y0 o.2.1,.sl (.sl (.int .i64)) o.2.2]),(4,.box 35 [.int .i64 pair.1,.int .i64 pair.2.1,.int .i64 pair.2.2])] ?_
 refine zo ?_
 refine zB [(2,.sl (.int .i64) prices),(3,.bp 3 0),(4,.bp 4 0),(7,.int .i64 9)] [(3,.box 103 [.sl (.sl (.pair (.int .i64) .bool)) o.1,.sl Y0 o.2.1,.sl (.sl (.int .i64)) o.2.2]),(4,.box 35 [.int .i64 pair.1,.int .i64 pair.2.1,.int .i64 pair.2.2])] ?_
 refine AW.have1 (fun b1:Int=>delay_offer_most_k1 b1=some r) (fun b1=>⟨fr [(7,.int .i64 b1)],hpGet [],gt⟩) (fun b1 h=>?_) (fun hk_delay_offer_most_k1=>?_)
 ·as_aux_lemma =>
   unfold delay_offer_most_k1 at h
   refine zo ?_
   refine zB [(6,.int .i64 b1)] [] ?_
   refine AW.ret ?_
   obtain rfl:=Option.some.inj h
   exact zR [] [] []
 ·refine AW.seq ?_
  refine zo ?_
  refine zS 2 [(2,.sl (.int .i64) prices),(3,.bp 3 0),(4,.bp 4 0),(7,.int .i64 9),(11,.sl (.sl (.pair (.int .i64) .bool)) o.1)] [(3,.box 103 [.sl (.sl (.pair (.int .i64) .bool)) o.1,.sl Y0 o.2.1,.sl (.sl (.int .i64)) o.2.2]),(4,.box 35 [.int .i64 pair.1,.int .i64 pair.2.1,.int .i64 pair.2.2])] ?_
  obtain ⟨v0,hv1,h⟩:=Option.bind_eq_some_iff.1 h
  refine zC [] [] (hc_delay_accesses_fences o.1 hv1) [(2,.sl (.int .i64) prices),(3,.bp 3 0),(4,.bp 4 0),(7,.int .i64 9),(12,.own 22000)] [(3,.box 103 [.sl (.sl (.pair (.int .i64) .bool)) o.1,.sl Y0 o.2.1,.sl (.sl (.int .i64)) o.2.2]),(4,.box 35 [.int .i64 pair.1,.int .i64 pair.2.1,.int .i64 pair.2.2]),(22000,.arr 110 (.pair (.int .i64) (.int .i64)) v0)] ?_
  refine zB [(2,.sl (.int .i64) prices),(3,.bp 3 0),(4,.bp 4 0),(7,.int .i64 9),(12,.own 22000),(13,.int .i64 (v0.length:Int)),(14,.int .i64 0)] [(3,.box 103 [.sl (.sl (.pair (.int .i64) .bool)) o.1,.sl Y0 o.2.1,.sl (.sl (.int .i64)) o.2.2]),(4,.box 35 [.int .i64 pair.1,.int .i64 pair.2.1,.int .i64 pair.2.2]),(22000,.arr 110 (.pair (.int .i64) (.int .i64)) v0)] ?_
  refine AW.block ?_
  obtain ⟨rv6,hw2,ho3⟩:=Option.bind_eq_some_iff.1 h
  refine AW.loopO (delay_offer_most_b1 o pair prices v0) (fun st1=>⟨fr [(2,.sl (.int .i64) prices),(3,.bp 3 0),(4,.bp 4 0),(7,.int .i64 st1.1),(12,.own 22000),(13,.int .i64 (v0.length:Int)),(14,.int .i64 st1.2)],hpGet [(3,.box 103 [.sl (.sl (.pair (.int .i64) .bool)) o.1,.sl Y0 o.2.1,.sl (.sl (.int .i64)) o.2.2]),(4,.box 35 [.int .i64 pair.1,.int .i64 pair.2.1,.int .i64 pair.2.2]),(22000,.arr 110 (.pair (.int .i64) (.int .i64)) v0)],gt⟩) (9,0) hw2 (zL [] [] []) ?_
  as_aux_lemma =>
   intro st1 x5 h hd4
   unfold delay_offer_most_b1 at h
   refine zo ?_
   refine zB [(2,.sl (.int .i64) prices),(3,.bp 3 0),(4,.bp 4 0),(7,.int .i64 st1.1),(12,.own 22000),(13,.int .i64 (v0.length:Int)),(14,.int .i64 st1.2),(15,.bool (decide (st1.2<(v0.length:Int))))] [(3,.box 103 [.sl (.sl (.pair (.int .i64) .bool)) o.1,.sl Y0 o.2.1,.sl (.sl (.int .i64)) o.2.2]),(4,.box 35 [.int .i64 pair.1,.int .i64 pair.2.1,.int .i64 pair.2.2]),(22000,.arr 110 (.pair (.int .i64) (.int .i64)) v0)] ?_
   refine AW.seq ?_
   refine zQ h (fun hb7 h=>?_) (fun hb7 h=>?_)
   ·refine zk ?_
    refine AW.seq ?_
    refine AW.block ?_
    refine zo ?_
    obtain ⟨c8,h⟩:=ck_some.1 h
    obtain ⟨c9,h⟩:=ck_some.1 h
    refine zB [(2,.sl (.int .i64) prices),(3,.bp 3 0),(4,.bp 4 0),(7,.int .i64 st1.1),(9,.bp 9 0),(12,.own 22000),(13,.int .i64 (v0.length:Int)),(14,.int .i64 st1.2)] [(3,.box 103 [.sl (.sl (.pair (.int .i64) .bool)) o.1,.sl Y0 o.2.1,.sl (.sl (.int .i64)) o.2.2]),(4,.box 35 [.int .i64 pair.1,.int .i64 pair.2.1,.int .i64 pair.2.2]),(9,.box 110 [.int .i64 (v0.getD st1.2.toNat (0,0)).1,.int .i64 (v0.getD st1.2.toNat (0,0)).2]),(22000,.arr 110 (.pair (.int .i64) (.int .i64)) v0)] ?_
    refine zo ?_
    refine zS 2 [(2,.sl (.int .i64) prices),(3,.bp 3 0),(4,.bp 4 0),(7,.int .i64 st1.1),(9,.bp 9 0),(12,.own 22000),(13,.int .i64 (v0.length:Int)),(14,.int .i64 st1.2),(18,.agg [.int .i64 (v0.getD st1.2.toNat (0,0)).1,.int .i64 (v0.getD st1.2.toNat (0,0)).2]),(19,.agg [.int .i64 pair.1,.int .i64 pair.2.1,.int .i64 pair.2.2])] [(3,.box 103 [.sl (.sl (.pair (.int .i64) .bool)) o.1,.sl Y0 o.2.1,.sl (.sl (.int .i64)) o.2.2]),(4,.box 35 [.int .i64 pair.1,.int .i64 pair.2.1,.int .i64 pair.2.2]),(9,.box 110 [.int .i64 (v0.getD st1.2.toNat (0,0)).1,.int .i64 (v0.getD st1.2.toNat (0,0)).2]),(22000,.arr 110 (.pair (.int .i64) (.int .i64)) v0)] ?_
    obtain ⟨v0_2,hv10,h⟩:=Option.bind_eq_some_iff.1 h
    refine zC [] [] (hc_delay_holds (v0.getD st1.2.toNat (0,0)) pair hv10) [(2,.sl (.int .i64) prices),(3,.bp 3 0),(4,.bp 4 0),(7,.int .i64 st1.1),(9,.bp 9 0),(12,.own 22000),(13,.int .i64 (v0.length:Int)),(14,.int .i64 st1.2),(20,.bool v0_2)] [(3,.box 103 [.sl (.sl (.pair (.int .i64) .bool)) o.1,.sl Y0 o.2.1,.sl (.sl (.int .i64)) o.2.2]),(4,.box 35 [.int .i64 pair.1,.int .i64 pair.2.1,.int .i64 pair.2.2]),(9,.box 110 [.int .i64 (v0.getD st1.2.toNat (0,0)).1,.int .i64 (v0.getD st1.2.toNat (0,0)).2]),(22000,.arr 110 (.pair (.int .i64) (.int .i64)) v0)] ?_
    refine zB [(2,.sl (.int .i64) prices),(3,.bp 3 0),(4,.bp 4 0),(7,.int .i64 st1.1),(9,.bp 9 0),(12,.own 22000),(13,.int .i64 (v0.length:Int)),(14,.int .i64 st1.2),(20,.bool v0_2)] [(3,.box 103 [.sl (.sl (.pair (.int .i64) .bool)) o.1,.sl Y0 o.2.1,.sl (.sl (.int .i64)) o.2.2]),(4,.box 35 [.int .i64 pair.1,.int .i64 pair.2.1,.int .i64 pair.2.2]),(9,.box 110 [.int .i64 (v0.getD st1.2.toNat (0,0)).1,.int .i64 (v0.getD st1.2.toNat (0,0)).2]),(22000,.arr 110 (.pair (.int .i64) (.int .i64)) v0)] ?_
    refine zQ h (fun hb11 h=>?_) (fun hb11 h=>?_)
    ·refine AW.ops ?_
     refine zS 4 [(2,.sl (.int .i64) prices),(3,.bp 3 0),(4,.bp 4 0),(12,.own 22000),(13,.int .i64 (v0.length:Int)),(14,.int .i64 st1.2),(21,.int .i64 st1.1),(22,.agg [.sl (.sl (.pair (.int .i64) .bool)) o.1,.sl Y0 o.2.1,.sl (.sl (.int .i64)) o.2.2]),(23,.agg [.int .i64 (v0.getD st1.2.toNat (0,0)).1,.int .i64 (v0.getD st1.2.toNat (0,0)).2]),(24,.sl (.int .i64) prices)] [(3,.box 103 [.sl (.sl (.pair (.int .i64) .bool)) o.1,.sl Y0 o.2.1,.sl (.sl (.int .i64)) o.2.2]),(4,.box 35 [.int .i64 pair.1,.int .i64 pair.2.1,.int .i64 pair.2.2]),(22000,.arr 110 (.pair (.int .i64) (.int .i64)) v0)] ?_
     obtain ⟨v0_3,hv12,h⟩:=Option.bind_eq_some_iff.1 h
     refine zC [] [] (hc_delay_offer_left o (v0.getD st1.2.toNat (0,0)) prices hv12) [(2,.sl (.int .i64) prices),(3,.bp 3 0),(4,.bp 4 0),(12,.own 22000),(13,.int .i64 (v0.length:Int)),(14,.int .i64 st1.2),(21,.int .i64 st1.1),(25,.int .i64 v0_3)] [(3,.box 103 [.sl (.sl (.pair (.int .i64) .bool)) o.1,.sl Y0 o.2.1,.sl (.sl (.int .i64)) o.2.2]),(4,.box 35 [.int .i64 pair.1,.int .i64 pair.2.1,.int .i64 pair.2.2]),(22000,.arr 110 (.pair (.int .i64) (.int .i64)) v0)] ?_
     refine zA [(2,.sl (.int .i64) prices),(3,.bp 3 0),(4,.bp 4 0),(7,.int .i64 (min st1.1 v0_3)),(12,.own 22000),(13,.int .i64 (v0.length:Int)),(14,.int .i64 st1.2)] [(3,.box 103 [.sl (.sl (.pair (.int .i64) .bool)) o.1,.sl Y0 o.2.1,.sl (.sl (.int .i64)) o.2.2]),(4,.box 35 [.int .i64 pair.1,.int .i64 pair.2.1,.int .i64 pair.2.2]),(22000,.arr 110 (.pair (.int .i64) (.int .i64)) v0)] ?_
     refine ablock_n ?_
     refine athen_n ?_
     refine AW.ops ?_
     obtain ⟨c13,h⟩:=ck_some.1 h
     refine zA [(2,.sl (.int .i64) prices),(3,.bp 3 0),(4,.bp 4 0),(7,.int .i64 (min st1.1 v0_3)),(12,.own 22000),(13,.int .i64 (v0.length:Int)),(14,.int .i64 (st1.2+1))] [(3,.box 103 [.sl (.sl (.pair (.int .i64) .bool)) o.1,.sl Y0 o.2.1,.sl (.sl (.int .i64)) o.2.2]),(4,.box 35 [.int .i64 pair.1,.int .i64 pair.2.1,.int .i64 pair.2.2]),(22000,.arr 110 (.pair (.int .i64) (.int .i64)) v0)] ?_
     obtain rfl:=Option.some.inj h
     exact ⟨_,rfl,zL [] [] []⟩
    ·refine zm ?_
     refine athen_n ?_
     refine AW.ops ?_
     obtain ⟨c14,h⟩:=ck_some.1 h
     refine zA [(2,.sl (.int .i64) prices),(3,.bp 3 0),(4,.bp 4 0),(7,.int .i64 st1.1),(12,.own 22000),(13,.int .i64 (v0.length:Int)),(14,.int .i64 (st1.2+1))] [(3,.box 103 [.sl (.sl (.pair (.int .i64) .bool)) o.1,.sl Y0 o.2.1,.sl (.sl (.int .i64)) o.2.2]),(4,.box 35 [.int .i64 pair.1,.int .i64 pair.2.1,.int .i64 pair.2.2]),(22000,.arr 110 (.pair (.int .i64) (.int .i64)) v0)] ?_
     obtain rfl:=Option.some.inj h
     exact ⟨_,rfl,zL [] [] []⟩
   ·refine AW.exit ?_
    refine athen_e ?_
    obtain rfl:=Option.some.inj h
    rw [← hd4 _ rfl] at ho3
    have h:=ho3
    refine athen_e ?_
    refine ablock_s ?_
    refine athen_n ?_
    exact AW.weaken (zL [] [] []) (hk_delay_offer_most_k1 _ h)
end Go.Proofs.Ytdicomoggfhbfaa
