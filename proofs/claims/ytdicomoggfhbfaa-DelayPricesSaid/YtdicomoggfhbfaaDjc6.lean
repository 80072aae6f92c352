import Derived.Test.YtdicomoggfhbfaaDlp
import Derived.Test.YtdicomoggfhbfaaShd
import Derived.Test.YtdicomoggfhbfaaDjc3
import Derived.Test.YtdicomoggfhbfaaDjc4
namespace Go.Proofs.Ytdicomoggfhbfaa
open Go.RowKit
set_option linter.unusedSimpArgs false
set_option linter.unusedVariables false
set_option linter.constructorNameAsVariable false
set_option maxRecDepth 100000
set_option maxHeartbeats 40000000
theorem hc_linealref09_isCircle (x0:List (List (Int×Bool))) (l:List (Int×Int×Int)) {r:Bool} (h:linealref09_isCircle x0 l=some r):HC Try.prog 72 [] [.sl (.sl (.pair (.int .i64) .bool)) x0,.sl Y0 l] [] (.bool r):=by
 unfold linealref09_isCircle at h
 refine zH Try.func72 [.tmp 4] 99 ?_
 refine zo ?_
 refine zB [(0,.sl (.sl (.pair (.int .i64) .bool)) x0),(1,.sl Y0 l)] [] ?_
 refine AW.seq ?_
 refine zo ?_
 refine zS 4 [(0,.sl (.sl (.pair (.int .i64) .bool)) x0),(1,.sl Y0 l),(16,.bool (decide ((l.length:Int)<2)))] [] ?_
 rcases zI h with ⟨hb1,h⟩|⟨hb1,h⟩
 ·refine zB [(0,.sl (.sl (.pair (.int .i64) .bool)) x0),(1,.sl Y0 l),(20,.bool true)] [] ?_
  refine AW.cond (b:=true) rfl (fun _=>?_) (fun hb2=>by cases hb2)
  refine zo ?_
  refine zB [(4,.bool false)] [] ?_
  refine zr ?_
  obtain rfl:=Option.some.inj h
  exact zR [] [] []
 ·refine zB [(0,.sl (.sl (.pair (.int .i64) .bool)) x0),(1,.sl Y0 l),(20,.bool (decide (3<(l.length:Int))))] [] ?_
  refine zQ h (fun hb3 h=>?_) (fun hb3 h=>?_)
  ·refine zo ?_
   refine zB [(4,.bool false)] [] ?_
   refine zr ?_
   obtain rfl:=Option.some.inj h
   exact zR [] [] []
  ·refine zk ?_
   refine zo ?_
   refine zB [(0,.sl (.sl (.pair (.int .i64) .bool)) x0),(1,.sl Y0 l),(5,.bool false)] [] ?_
   refine AW.have1 (fun b4_3:Bool=>linealref09_isCircle_k1 x0 l b4_3=some r) (fun b4_3=>⟨fr [(0,.sl (.sl (.pair (.int .i64) .bool)) x0),(1,.sl Y0 l),(5,.bool b4_3)],hpGet [],gt⟩) (fun b4_3 h=>?_) (fun hk_linealref09_isCircle_k1=>?_)
   ·as_aux_lemma =>
     unfold linealref09_isCircle_k1 at h
     refine AW.have1 (fun _:Unit=>linealref09_isCircle_k5 b4_3=some r) (fun _=>⟨fr [(5,.bool b4_3)],hpGet [],gt⟩) (fun _ h=>?_) (fun hk_linealref09_isCircle_k5=>?_)
     ·as_aux_lemma =>
       unfold linealref09_isCircle_k5 at h
       refine zo ?_
       refine zB [(4,.bool b4_3)] [] ?_
       refine AW.ret ?_
       obtain rfl:=Option.some.inj h
       exact zR [] [] []
     ·refine AW.seq ?_
      refine zo ?_
      refine zB [(0,.sl (.sl (.pair (.int .i64) .bool)) x0),(1,.sl Y0 l),(5,.bool b4_3),(71,.sl Y0 l),(72,.int .i64 (l.length:Int)),(73,.int .i64 0)] [] ?_
      refine AW.block ?_
      obtain ⟨rv8,hw4,ho5⟩:=Option.bind_eq_some_iff.1 h
      refine AW.loopO (linealref09_isCircle_b3 x0 l) (fun st3=>⟨fr [(0,.sl (.sl (.pair (.int .i64) .bool)) x0),(1,.sl Y0 l),(5,.bool b4_3),(71,.sl Y0 l),(72,.int .i64 (l.length:Int)),(73,.int .i64 st3)],hpGet [],gt⟩) 0 hw4 (zL [] [] []) ?_
      as_aux_lemma =>
       intro st3 x7 h hd6
       unfold linealref09_isCircle_b3 at h
       refine zo ?_
       refine zB [(0,.sl (.sl (.pair (.int .i64) .bool)) x0),(1,.sl Y0 l),(5,.bool b4_3),(71,.sl Y0 l),(72,.int .i64 (l.length:Int)),(73,.int .i64 st3),(74,.bool (decide (st3<(l.length:Int))))] [] ?_
       refine AW.seq ?_
       refine zQ h (fun hb9 h=>?_) (fun hb9 h=>?_)
       ·refine zk ?_
        refine AW.seq ?_
        refine AW.block ?_
        refine zo ?_
        obtain ⟨c10,h⟩:=ck_some.1 h
        obtain ⟨c11,h⟩:=ck_some.1 h
        refine zS 5 [(0,.sl (.sl (.pair (.int .i64) .bool)) x0),(1,.sl Y0 l),(5,.bool b4_3),(10,.int .i64 st3),(11,.bp 11 0),(71,.sl Y0 l),(72,.int .i64 (l.length:Int)),(73,.int .i64 st3),(77,.agg [.int .i64 (l.getD st3.toNat (0,0,0)).1,.int .i64 (l.getD st3.toNat (0,0,0)).2.1,.int .i64 (l.getD st3.toNat (0,0,0)).2.2])] [(11,.box 35 [.int .i64 0,.int .i64 0,.int .i64 0])] ?_
        refine zB [(0,.sl (.sl (.pair (.int .i64) .bool)) x0),(1,.sl Y0 l),(5,.bool b4_3),(10,.int .i64 st3),(11,.bp 11 0),(71,.sl Y0 l),(72,.int .i64 (l.length:Int)),(73,.int .i64 st3)] [(11,.box 35 [.int .i64 (l.getD st3.toNat (0,0,0)).1,.int .i64 (l.getD st3.toNat (0,0,0)).2.1,.int .i64 (l.getD st3.toNat (0,0,0)).2.2])] ?_
        refine zo ?_
        obtain ⟨c12,h⟩:=ck_some.1 h
        refine zS 5 [(0,.sl (.sl (.pair (.int .i64) .bool)) x0),(1,.sl Y0 l),(5,.bool b4_3),(11,.bp 11 0),(71,.sl Y0 l),(72,.int .i64 (l.length:Int)),(73,.int .i64 st3),(78,.sl Y0 l),(80,.int .i64 (st3+1)),(82,.int .i64 (l.length:Int))] [(11,.box 35 [.int .i64 (l.getD st3.toNat (0,0,0)).1,.int .i64 (l.getD st3.toNat (0,0,0)).2.1,.int .i64 (l.getD st3.toNat (0,0,0)).2.2])] ?_
        obtain ⟨c13,h⟩:=ck_some.1 h
        obtain ⟨c14,h⟩:=ck_some.1 h
        obtain ⟨c15,h⟩:=ck_some.1 h
        obtain ⟨c16,h⟩:=ck_some.1 h
        refine zB [(0,.sl (.sl (.pair (.int .i64) .bool)) x0),(1,.sl Y0 l),(5,.bool b4_3),(11,.bp 11 0),(12,.bp 12 0),(71,.sl Y0 l),(72,.int .i64 (l.length:Int)),(73,.int .i64 st3)] [(11,.box 35 [.int .i64 (l.getD st3.toNat (0,0,0)).1,.int .i64 (l.getD st3.toNat (0,0,0)).2.1,.int .i64 (l.getD st3.toNat (0,0,0)).2.2]),(12,.box 35 [.int .i64 (l.getD ((st3+1) % (l.length:Int)).toNat (0,0,0)).1,.int .i64 (l.getD ((st3+1) % (l.length:Int)).toNat (0,0,0)).2.1,.int .i64 (l.getD ((st3+1) % (l.length:Int)).toNat (0,0,0)).2.2])] ?_
        refine zo ?_
        refine zS 5 [(0,.sl (.sl (.pair (.int .i64) .bool)) x0),(1,.sl Y0 l),(5,.bool b4_3),(12,.bp 12 0),(71,.sl Y0 l),(72,.int .i64 (l.length:Int)),(73,.int .i64 st3),(86,.sl (.sl (.pair (.int .i64) .bool)) x0),(88,.int .i64 (l.getD st3.toNat (0,0,0)).1),(90,.int .i64 (l.getD st3.toNat (0,0,0)).2.2)] [(12,.box 35 [.int .i64 (l.getD ((st3+1) % (l.length:Int)).toNat (0,0,0)).1,.int .i64 (l.getD ((st3+1) % (l.length:Int)).toNat (0,0,0)).2.1,.int .i64 (l.getD ((st3+1) % (l.length:Int)).toNat (0,0,0)).2.2])] ?_
        refine zS 4 [(0,.sl (.sl (.pair (.int .i64) .bool)) x0),(1,.sl Y0 l),(5,.bool b4_3),(71,.sl Y0 l),(72,.int .i64 (l.length:Int)),(73,.int .i64 st3),(86,.sl (.sl (.pair (.int .i64) .bool)) x0),(88,.int .i64 (l.getD st3.toNat (0,0,0)).1),(90,.int .i64 (l.getD st3.toNat (0,0,0)).2.2),(92,.int .i64 (l.getD ((st3+1) % (l.length:Int)).toNat (0,0,0)).1),(94,.int .i64 (l.getD ((st3+1) % (l.length:Int)).toNat (0,0,0)).2.1)] [] ?_
        obtain ⟨v0_3,hv17,h⟩:=Option.bind_eq_some_iff.1 h
        refine zC [] [] (hc_linealref09_conflict x0 (l.getD st3.toNat (0,0,0)).1 (l.getD st3.toNat (0,0,0)).2.2 (l.getD ((st3+1) % (l.length:Int)).toNat (0,0,0)).1 (l.getD ((st3+1) % (l.length:Int)).toNat (0,0,0)).2.1 hv17) [(0,.sl (.sl (.pair (.int .i64) .bool)) x0),(1,.sl Y0 l),(5,.bool b4_3),(71,.sl Y0 l),(72,.int .i64 (l.length:Int)),(73,.int .i64 st3),(95,.bool v0_3)] [] ?_
        refine zB [(0,.sl (.sl (.pair (.int .i64) .bool)) x0),(1,.sl Y0 l),(5,.bool b4_3),(71,.sl Y0 l),(72,.int .i64 (l.length:Int)),(73,.int .i64 st3),(96,.bool (!v0_3))] [] ?_
        refine zQ h (fun hb18 h=>?_) (fun hb18 h=>?_)
        ·refine zo ?_
         refine zB [(4,.bool false)] [] ?_
         refine AW.ret ?_
         refine ablock_r ?_
         refine athen_r ?_
         obtain rfl:=Option.some.inj h
         try rw [← hd6 _ rfl] at ho5
         have h:=ho5
         try simp only at h
         refine athen_r ?_
         refine ablock_r ?_
         refine athen_r ?_
         obtain rfl:=Option.some.inj h
         exact zR [] [] []
        ·refine zm ?_
         refine athen_n ?_
         refine AW.ops ?_
         obtain ⟨c19,h⟩:=ck_some.1 h
         refine zA [(0,.sl (.sl (.pair (.int .i64) .bool)) x0),(1,.sl Y0 l),(5,.bool b4_3),(71,.sl Y0 l),(72,.int .i64 (l.length:Int)),(73,.int .i64 (st3+1))] [] ?_
         obtain rfl:=Option.some.inj h
         exact ⟨_,rfl,zL [] [] []⟩
       ·refine AW.exit ?_
        refine athen_e ?_
        obtain rfl:=Option.some.inj h
        try rw [← hd6 _ rfl] at ho5
        have h:=ho5
        try simp only at h
        refine athen_e ?_
        refine ablock_s ?_
        refine athen_n ?_
        exact AW.weaken (zL [] [] []) (hk_linealref09_isCircle_k5 () h)
   ·refine AW.seq ?_
    refine zo ?_
    refine zB [(0,.sl (.sl (.pair (.int .i64) .bool)) x0),(1,.sl Y0 l),(5,.bool false),(21,.sl Y0 l),(22,.int .i64 (l.length:Int)),(23,.int .i64 0)] [] ?_
    refine AW.block ?_
    obtain ⟨rv24,hw20,ho21⟩:=Option.bind_eq_some_iff.1 h
    refine AW.loopO (linealref09_isCircle_b1 x0 l) (fun st1=>⟨fr [(0,.sl (.sl (.pair (.int .i64) .bool)) x0),(1,.sl Y0 l),(5,.bool st1.1),(21,.sl Y0 l),(22,.int .i64 (l.length:Int)),(23,.int .i64 st1.2)],hpGet [],gt⟩) (false,0) hw20 (zL [] [] []) ?_
    as_aux_lemma =>
     intro st1 x23 h hd22
     unfold linealref09_isCircle_b1 at h
     refine zo ?_
     refine zB [(0,.sl (.sl (.pair (.int .i64) .bool)) x0),(1,.sl Y0 l),(5,.bool st1.1),(21,.sl Y0 l),(22,.int .i64 (l.length:Int)),(23,.int .i64 st1.2),(24,.bool (decide (st1.2<(l.length:Int))))] [] ?_
     refine AW.seq ?_
     refine zQ h (fun hb25 h=>?_) (fun hb25 h=>?_)
     ·refine zk ?_
      refine AW.have1 (fun b4_2:Bool=>linealref09_isCircle_k2 st1 b4_2=some x23) (fun b4_2=>⟨fr [(0,.sl (.sl (.pair (.int .i64) .bool)) x0),(1,.sl Y0 l),(5,.bool b4_2),(21,.sl Y0 l),(22,.int .i64 (l.length:Int)),(23,.int .i64 st1.2)],hpGet [],gt⟩) (fun b4_2 h=>?_) (fun hk_linealref09_isCircle_k2=>?_)
      ·as_aux_lemma =>
        unfold linealref09_isCircle_k2 at h
        refine AW.ops ?_
        obtain ⟨c26,h⟩:=ck_some.1 h
        refine zA [(0,.sl (.sl (.pair (.int .i64) .bool)) x0),(1,.sl Y0 l),(5,.bool b4_2),(21,.sl Y0 l),(22,.int .i64 (l.length:Int)),(23,.int .i64 (st1.2+1))] [] ?_
        obtain rfl:=Option.some.inj h
        exact ⟨_,rfl,zL [] [] []⟩
      ·refine AW.seq ?_
       refine AW.block ?_
       refine zo ?_
       obtain ⟨c27,h⟩:=ck_some.1 h
       obtain ⟨c28,h⟩:=ck_some.1 h
       refine zS 5 [(0,.sl (.sl (.pair (.int .i64) .bool)) x0),(1,.sl Y0 l),(5,.bool st1.1),(6,.int .i64 st1.2),(7,.bp 7 0),(21,.sl Y0 l),(22,.int .i64 (l.length:Int)),(23,.int .i64 st1.2),(27,.agg [.int .i64 (l.getD st1.2.toNat (0,0,0)).1,.int .i64 (l.getD st1.2.toNat (0,0,0)).2.1,.int .i64 (l.getD st1.2.toNat (0,0,0)).2.2])] [(7,.box 35 [.int .i64 0,.int .i64 0,.int .i64 0])] ?_
       refine zB [(0,.sl (.sl (.pair (.int .i64) .bool)) x0),(1,.sl Y0 l),(5,.bool st1.1),(6,.int .i64 st1.2),(7,.bp 7 0),(21,.sl Y0 l),(22,.int .i64 (l.length:Int)),(23,.int .i64 st1.2)] [(7,.box 35 [.int .i64 (l.getD st1.2.toNat (0,0,0)).1,.int .i64 (l.getD st1.2.toNat (0,0,0)).2.1,.int .i64 (l.getD st1.2.toNat (0,0,0)).2.2])] ?_
       refine AW.have1 (fun _:Unit=>linealref09_isCircle_k3 l st1=some x23) (fun _=>⟨fr [(0,.sl (.sl (.pair (.int .i64) .bool)) x0),(1,.sl Y0 l),(5,.bool st1.1),(6,.int .i64 st1.2),(7,.bp 7 0),(21,.sl Y0 l),(22,.int .i64 (l.length:Int)),(23,.int .i64 st1.2)],hpGet [(7,.box 35 [.int .i64 (l.getD st1.2.toNat (0,0,0)).1,.int .i64 (l.getD st1.2.toNat (0,0,0)).2.1,.int .i64 (l.getD st1.2.toNat (0,0,0)).2.2])],gt⟩) (fun _ h=>?_) (fun hk_linealref09_isCircle_k3=>?_)
       ·as_aux_lemma =>
         unfold linealref09_isCircle_k3 at h
         refine AW.have2 (fun b4:Bool=>linealref09_isCircle_k4 l st1 b4=some x23) (fun b4=>⟨fr [(0,.sl (.sl (.pair (.int .i64) .bool)) x0),(1,.sl Y0 l),(5,.bool b4),(7,.bp 7 0),(21,.sl Y0 l),(22,.int .i64 (l.length:Int)),(23,.int .i64 st1.2),(58,.sl Y0 (l.take st1.2.toNat)),(59,.int .i64 ((l.take st1.2.toNat).length:Int)),(60,.int .i64 0)],hpGet [(7,.box 35 [.int .i64 (l.getD st1.2.toNat (0,0,0)).1,.int .i64 (l.getD st1.2.toNat (0,0,0)).2.1,.int .i64 (l.getD st1.2.toNat (0,0,0)).2.2])],gt⟩) (fun b4 h=>?_) (fun hk_linealref09_isCircle_k4=>?_)
         ·as_aux_lemma =>
           unfold linealref09_isCircle_k4 at h
           refine AW.block ?_
           obtain ⟨rv33,hw29,ho30⟩:=Option.bind_eq_some_iff.1 h
           refine AW.loopO (linealref09_isCircle_b2 l st1) (fun st2=>⟨fr [(0,.sl (.sl (.pair (.int .i64) .bool)) x0),(1,.sl Y0 l),(5,.bool b4),(7,.bp 7 0),(21,.sl Y0 l),(22,.int .i64 (l.length:Int)),(23,.int .i64 st1.2),(58,.sl Y0 (l.take st1.2.toNat)),(59,.int .i64 ((l.take st1.2.toNat).length:Int)),(60,.int .i64 st2)],hpGet [(7,.box 35 [.int .i64 (l.getD st1.2.toNat (0,0,0)).1,.int .i64 (l.getD st1.2.toNat (0,0,0)).2.1,.int .i64 (l.getD st1.2.toNat (0,0,0)).2.2])],gt⟩) 0 hw29 (zL [] [] []) ?_
           as_aux_lemma =>
            intro st2 x32 h hd31
            unfold linealref09_isCircle_b2 at h
            refine zo ?_
            refine zB [(0,.sl (.sl (.pair (.int .i64) .bool)) x0),(1,.sl Y0 l),(5,.bool b4),(7,.bp 7 0),(21,.sl Y0 l),(22,.int .i64 (l.length:Int)),(23,.int .i64 st1.2),(58,.sl Y0 (l.take st1.2.toNat)),(59,.int .i64 ((l.take st1.2.toNat).length:Int)),(60,.int .i64 st2),(61,.bool (decide (st2<((l.take st1.2.toNat).length:Int))))] [(7,.box 35 [.int .i64 (l.getD st1.2.toNat (0,0,0)).1,.int .i64 (l.getD st1.2.toNat (0,0,0)).2.1,.int .i64 (l.getD st1.2.toNat (0,0,0)).2.2])] ?_
            refine AW.seq ?_
            refine zQ h (fun hb34 h=>?_) (fun hb34 h=>?_)
            ·refine zk ?_
             refine AW.seq ?_
             refine AW.block ?_
             refine zo ?_
             obtain ⟨c35,h⟩:=ck_some.1 h
             obtain ⟨c36,h⟩:=ck_some.1 h
             refine zB [(0,.sl (.sl (.pair (.int .i64) .bool)) x0),(1,.sl Y0 l),(5,.bool b4),(7,.bp 7 0),(9,.bp 9 0),(21,.sl Y0 l),(22,.int .i64 (l.length:Int)),(23,.int .i64 st1.2),(58,.sl Y0 (l.take st1.2.toNat)),(59,.int .i64 ((l.take st1.2.toNat).length:Int)),(60,.int .i64 st2)] [(7,.box 35 [.int .i64 (l.getD st1.2.toNat (0,0,0)).1,.int .i64 (l.getD st1.2.toNat (0,0,0)).2.1,.int .i64 (l.getD st1.2.toNat (0,0,0)).2.2]),(9,.box 35 [.int .i64 ((l.take st1.2.toNat).getD st2.toNat (0,0,0)).1,.int .i64 ((l.take st1.2.toNat).getD st2.toNat (0,0,0)).2.1,.int .i64 ((l.take st1.2.toNat).getD st2.toNat (0,0,0)).2.2])] ?_
             refine zo ?_
             refine zB [(0,.sl (.sl (.pair (.int .i64) .bool)) x0),(1,.sl Y0 l),(5,.bool b4),(7,.bp 7 0),(21,.sl Y0 l),(22,.int .i64 (l.length:Int)),(23,.int .i64 st1.2),(58,.sl Y0 (l.take st1.2.toNat)),(59,.int .i64 ((l.take st1.2.toNat).length:Int)),(60,.int .i64 st2),(68,.bool (decide (((l.take st1.2.toNat).getD st2.toNat (0,0,0)).1=(l.getD st1.2.toNat (0,0,0)).1)))] [(7,.box 35 [.int .i64 (l.getD st1.2.toNat (0,0,0)).1,.int .i64 (l.getD st1.2.toNat (0,0,0)).2.1,.int .i64 (l.getD st1.2.toNat (0,0,0)).2.2])] ?_
             refine zQ h (fun hb37 h=>?_) (fun hb37 h=>?_)
             ·refine zo ?_
              refine zB [(4,.bool false)] [] ?_
              refine AW.ret ?_
              refine ablock_r ?_
              refine athen_r ?_
              obtain rfl:=Option.some.inj h
              try rw [← hd31 _ rfl] at ho30
              have h:=ho30
              try simp only at h
              refine athen_r ?_
              refine ablock_r ?_
              refine ablock_r ?_
              refine athen_r ?_
              obtain rfl:=Option.some.inj h
              try rw [← hd22 _ rfl] at ho21
              have h:=ho21
              try simp only at h
              refine athen_r ?_
              refine ablock_r ?_
              refine athen_r ?_
              obtain rfl:=Option.some.inj h
              exact zR [] [] []
             ·refine zm ?_
              refine athen_n ?_
              refine AW.ops ?_
              obtain ⟨c38,h⟩:=ck_some.1 h
              refine zA [(0,.sl (.sl (.pair (.int .i64) .bool)) x0),(1,.sl Y0 l),(5,.bool b4),(7,.bp 7 0),(21,.sl Y0 l),(22,.int .i64 (l.length:Int)),(23,.int .i64 st1.2),(58,.sl Y0 (l.take st1.2.toNat)),(59,.int .i64 ((l.take st1.2.toNat).length:Int)),(60,.int .i64 (st2+1))] [(7,.box 35 [.int .i64 (l.getD st1.2.toNat (0,0,0)).1,.int .i64 (l.getD st1.2.toNat (0,0,0)).2.1,.int .i64 (l.getD st1.2.toNat (0,0,0)).2.2])] ?_
              obtain rfl:=Option.some.inj h
              exact ⟨_,rfl,zL [] [] []⟩
            ·refine AW.exit ?_
             refine athen_e ?_
             obtain rfl:=Option.some.inj h
             try rw [← hd31 _ rfl] at ho30
             have h:=ho30
             try simp only at h
             refine athen_e ?_
             refine ablock_s ?_
             refine ablock_n ?_
             refine athen_n ?_
             exact AW.weaken (zL [] [] []) (hk_linealref09_isCircle_k2 _ h)
         ·refine zo ?_
          refine zS 2 [(0,.sl (.sl (.pair (.int .i64) .bool)) x0),(1,.sl Y0 l),(6,.int .i64 st1.2),(7,.bp 7 0),(21,.sl Y0 l),(22,.int .i64 (l.length:Int)),(23,.int .i64 st1.2),(49,.bool st1.1)] [(7,.box 35 [.int .i64 (l.getD st1.2.toNat (0,0,0)).1,.int .i64 (l.getD st1.2.toNat (0,0,0)).2.1,.int .i64 (l.getD st1.2.toNat (0,0,0)).2.2])] ?_
          rcases zI h with ⟨hb39,h⟩|⟨hb39,h⟩
          ·refine zS 4 [(0,.sl (.sl (.pair (.int .i64) .bool)) x0),(1,.sl Y0 l),(6,.int .i64 st1.2),(7,.bp 7 0),(21,.sl Y0 l),(22,.int .i64 (l.length:Int)),(23,.int .i64 st1.2),(49,.bool true),(51,.cv (undef)),(53,.cv (undef))] [(7,.box 35 [.int .i64 (l.getD st1.2.toNat (0,0,0)).1,.int .i64 (l.getD st1.2.toNat (0,0,0)).2.1,.int .i64 (l.getD st1.2.toNat (0,0,0)).2.2])] ?_
           refine zB [(0,.sl (.sl (.pair (.int .i64) .bool)) x0),(1,.sl Y0 l),(5,.bool true),(6,.int .i64 st1.2),(7,.bp 7 0),(21,.sl Y0 l),(22,.int .i64 (l.length:Int)),(23,.int .i64 st1.2)] [(7,.box 35 [.int .i64 (l.getD st1.2.toNat (0,0,0)).1,.int .i64 (l.getD st1.2.toNat (0,0,0)).2.1,.int .i64 (l.getD st1.2.toNat (0,0,0)).2.2])] ?_
           refine zo ?_
           obtain ⟨c40,h⟩:=ck_some.1 h
           obtain ⟨c41,h⟩:=ck_some.1 h
           refine zB [(0,.sl (.sl (.pair (.int .i64) .bool)) x0),(1,.sl Y0 l),(5,.bool true),(7,.bp 7 0),(21,.sl Y0 l),(22,.int .i64 (l.length:Int)),(23,.int .i64 st1.2),(58,.sl Y0 (l.take st1.2.toNat)),(59,.int .i64 ((l.take st1.2.toNat).length:Int)),(60,.int .i64 0)] [(7,.box 35 [.int .i64 (l.getD st1.2.toNat (0,0,0)).1,.int .i64 (l.getD st1.2.toNat (0,0,0)).2.1,.int .i64 (l.getD st1.2.toNat (0,0,0)).2.2])] ?_
           exact AW.weaken (zL [] [] []) (hk_linealref09_isCircle_k4 _ h)
          ·refine zS 5 [(0,.sl (.sl (.pair (.int .i64) .bool)) x0),(1,.sl Y0 l),(6,.int .i64 st1.2),(7,.bp 7 0),(21,.sl Y0 l),(22,.int .i64 (l.length:Int)),(23,.int .i64 st1.2),(49,.bool false),(54,.bool (!(decide ((l.getD st1.2.toNat (0,0,0)).2.1=(l.getD st1.2.toNat (0,0,0)).2.2))))] [(7,.box 35 [.int .i64 (l.getD st1.2.toNat (0,0,0)).1,.int .i64 (l.getD st1.2.toNat (0,0,0)).2.1,.int .i64 (l.getD st1.2.toNat (0,0,0)).2.2])] ?_
           refine zB [(0,.sl (.sl (.pair (.int .i64) .bool)) x0),(1,.sl Y0 l),(5,.bool (!(decide ((l.getD st1.2.toNat (0,0,0)).2.1=(l.getD st1.2.toNat (0,0,0)).2.2)))),(6,.int .i64 st1.2),(7,.bp 7 0),(21,.sl Y0 l),(22,.int .i64 (l.length:Int)),(23,.int .i64 st1.2)] [(7,.box 35 [.int .i64 (l.getD st1.2.toNat (0,0,0)).1,.int .i64 (l.getD st1.2.toNat (0,0,0)).2.1,.int .i64 (l.getD st1.2.toNat (0,0,0)).2.2])] ?_
           refine zo ?_
           obtain ⟨c42,h⟩:=ck_some.1 h
           obtain ⟨c43,h⟩:=ck_some.1 h
           refine zB [(0,.sl (.sl (.pair (.int .i64) .bool)) x0),(1,.sl Y0 l),(5,.bool (!(decide ((l.getD st1.2.toNat (0,0,0)).2.1=(l.getD st1.2.toNat (0,0,0)).2.2)))),(7,.bp 7 0),(21,.sl Y0 l),(22,.int .i64 (l.length:Int)),(23,.int .i64 st1.2),(58,.sl Y0 (l.take st1.2.toNat)),(59,.int .i64 ((l.take st1.2.toNat).length:Int)),(60,.int .i64 0)] [(7,.box 35 [.int .i64 (l.getD st1.2.toNat (0,0,0)).1,.int .i64 (l.getD st1.2.toNat (0,0,0)).2.1,.int .i64 (l.getD st1.2.toNat (0,0,0)).2.2])] ?_
           exact AW.weaken (zL [] [] []) (hk_linealref09_isCircle_k4 _ h)
       ·refine AW.seq ?_
        refine zo ?_
        refine zS 5 [(0,.sl (.sl (.pair (.int .i64) .bool)) x0),(1,.sl Y0 l),(5,.bool st1.1),(6,.int .i64 st1.2),(7,.bp 7 0),(21,.sl Y0 l),(22,.int .i64 (l.length:Int)),(23,.int .i64 st1.2),(28,.sl (.sl (.pair (.int .i64) .bool)) x0),(30,.int .i64 (l.getD st1.2.toNat (0,0,0)).1),(32,.int .i64 (l.getD st1.2.toNat (0,0,0)).2.1)] [(7,.box 35 [.int .i64 (l.getD st1.2.toNat (0,0,0)).1,.int .i64 (l.getD st1.2.toNat (0,0,0)).2.1,.int .i64 (l.getD st1.2.toNat (0,0,0)).2.2])] ?_
        obtain ⟨v0,hv44,h⟩:=Option.bind_eq_some_iff.1 h
        refine zC [] [] (hc_linealref09_IsAccess x0 (l.getD st1.2.toNat (0,0,0)).1 (l.getD st1.2.toNat (0,0,0)).2.1 hv44) [(0,.sl (.sl (.pair (.int .i64) .bool)) x0),(1,.sl Y0 l),(5,.bool st1.1),(6,.int .i64 st1.2),(7,.bp 7 0),(21,.sl Y0 l),(22,.int .i64 (l.length:Int)),(23,.int .i64 st1.2),(33,.bool v0)] [(7,.box 35 [.int .i64 (l.getD st1.2.toNat (0,0,0)).1,.int .i64 (l.getD st1.2.toNat (0,0,0)).2.1,.int .i64 (l.getD st1.2.toNat (0,0,0)).2.2])] ?_
        refine zS 2 [(0,.sl (.sl (.pair (.int .i64) .bool)) x0),(1,.sl Y0 l),(5,.bool st1.1),(6,.int .i64 st1.2),(7,.bp 7 0),(21,.sl Y0 l),(22,.int .i64 (l.length:Int)),(23,.int .i64 st1.2),(35,.bool (!v0))] [(7,.box 35 [.int .i64 (l.getD st1.2.toNat (0,0,0)).1,.int .i64 (l.getD st1.2.toNat (0,0,0)).2.1,.int .i64 (l.getD st1.2.toNat (0,0,0)).2.2])] ?_
        rcases zI h with ⟨hb45,h⟩|⟨hb45,h⟩
        ·refine zS 4 [(0,.sl (.sl (.pair (.int .i64) .bool)) x0),(1,.sl Y0 l),(5,.bool st1.1),(6,.int .i64 st1.2),(7,.bp 7 0),(21,.sl Y0 l),(22,.int .i64 (l.length:Int)),(23,.int .i64 st1.2),(35,.bool true),(37,.cv (undef)),(39,.cv (undef))] [(7,.box 35 [.int .i64 (l.getD st1.2.toNat (0,0,0)).1,.int .i64 (l.getD st1.2.toNat (0,0,0)).2.1,.int .i64 (l.getD st1.2.toNat (0,0,0)).2.2])] ?_
         refine zS 4 [(0,.sl (.sl (.pair (.int .i64) .bool)) x0),(1,.sl Y0 l),(5,.bool st1.1),(6,.int .i64 st1.2),(7,.bp 7 0),(21,.sl Y0 l),(22,.int .i64 (l.length:Int)),(23,.int .i64 st1.2),(35,.bool true),(41,.cv (undef)),(42,.cv (undef)),(43,.cv (undef))] [(7,.box 35 [.int .i64 (l.getD st1.2.toNat (0,0,0)).1,.int .i64 (l.getD st1.2.toNat (0,0,0)).2.1,.int .i64 (l.getD st1.2.toNat (0,0,0)).2.2])] ?_
         refine zB [(0,.sl (.sl (.pair (.int .i64) .bool)) x0),(1,.sl Y0 l),(5,.bool st1.1),(6,.int .i64 st1.2),(7,.bp 7 0),(21,.sl Y0 l),(22,.int .i64 (l.length:Int)),(23,.int .i64 st1.2),(47,.bool true)] [(7,.box 35 [.int .i64 (l.getD st1.2.toNat (0,0,0)).1,.int .i64 (l.getD st1.2.toNat (0,0,0)).2.1,.int .i64 (l.getD st1.2.toNat (0,0,0)).2.2])] ?_
         refine AW.cond (b:=true) rfl (fun _=>?_) (fun hb46=>by cases hb46)
         refine zo ?_
         refine zB [(4,.bool false)] [] ?_
         refine zr ?_
         refine ablock_r ?_
         refine athen_r ?_
         obtain rfl:=Option.some.inj h
         try rw [← hd22 _ rfl] at ho21
         have h:=ho21
         try simp only at h
         refine athen_r ?_
         refine ablock_r ?_
         refine athen_r ?_
         obtain rfl:=Option.some.inj h
         exact zR [] [] []
        ·refine zS 5 [(0,.sl (.sl (.pair (.int .i64) .bool)) x0),(1,.sl Y0 l),(5,.bool st1.1),(6,.int .i64 st1.2),(7,.bp 7 0),(21,.sl Y0 l),(22,.int .i64 (l.length:Int)),(23,.int .i64 st1.2),(35,.bool false),(40,.bool (!(decide ((l.getD st1.2.toNat (0,0,0)).2.1=(l.getD st1.2.toNat (0,0,0)).2.2))))] [(7,.box 35 [.int .i64 (l.getD st1.2.toNat (0,0,0)).1,.int .i64 (l.getD st1.2.toNat (0,0,0)).2.1,.int .i64 (l.getD st1.2.toNat (0,0,0)).2.2])] ?_
         refine zS 1 [(0,.sl (.sl (.pair (.int .i64) .bool)) x0),(1,.sl Y0 l),(5,.bool st1.1),(6,.int .i64 st1.2),(7,.bp 7 0),(21,.sl Y0 l),(22,.int .i64 (l.length:Int)),(23,.int .i64 st1.2),(35,.bool false),(41,.bool (!(decide ((l.getD st1.2.toNat (0,0,0)).2.1=(l.getD st1.2.toNat (0,0,0)).2.2))))] [(7,.box 35 [.int .i64 (l.getD st1.2.toNat (0,0,0)).1,.int .i64 (l.getD st1.2.toNat (0,0,0)).2.1,.int .i64 (l.getD st1.2.toNat (0,0,0)).2.2])] ?_
         rcases zI h with ⟨hb47,h⟩|⟨hb47,h⟩
         ·refine zS 2 [(0,.sl (.sl (.pair (.int .i64) .bool)) x0),(1,.sl Y0 l),(5,.bool st1.1),(6,.int .i64 st1.2),(7,.bp 7 0),(21,.sl Y0 l),(22,.int .i64 (l.length:Int)),(23,.int .i64 st1.2),(35,.bool false),(41,.bool true),(42,.sl (.sl (.pair (.int .i64) .bool)) x0),(43,.agg [.int .i64 (l.getD st1.2.toNat (0,0,0)).1,.int .i64 (l.getD st1.2.toNat (0,0,0)).2.1,.int .i64 (l.getD st1.2.toNat (0,0,0)).2.2])] [(7,.box 35 [.int .i64 (l.getD st1.2.toNat (0,0,0)).1,.int .i64 (l.getD st1.2.toNat (0,0,0)).2.1,.int .i64 (l.getD st1.2.toNat (0,0,0)).2.2])] ?_
          obtain ⟨v0_2,hv48,h⟩:=Option.bind_eq_some_iff.1 h
          refine zG [] [] (hc_linealref09_IsPair x0 (l.getD st1.2.toNat (0,0,0)) hv48) [(0,.sl (.sl (.pair (.int .i64) .bool)) x0),(1,.sl Y0 l),(5,.bool st1.1),(6,.int .i64 st1.2),(7,.bp 7 0),(21,.sl Y0 l),(22,.int .i64 (l.length:Int)),(23,.int .i64 st1.2),(35,.bool false),(41,.bool true),(44,.bool v0_2)] [(7,.box 35 [.int .i64 (l.getD st1.2.toNat (0,0,0)).1,.int .i64 (l.getD st1.2.toNat (0,0,0)).2.1,.int .i64 (l.getD st1.2.toNat (0,0,0)).2.2])] ?_
          refine zB [(0,.sl (.sl (.pair (.int .i64) .bool)) x0),(1,.sl Y0 l),(5,.bool st1.1),(6,.int .i64 st1.2),(7,.bp 7 0),(21,.sl Y0 l),(22,.int .i64 (l.length:Int)),(23,.int .i64 st1.2),(47,.bool (!v0_2))] [(7,.box 35 [.int .i64 (l.getD st1.2.toNat (0,0,0)).1,.int .i64 (l.getD st1.2.toNat (0,0,0)).2.1,.int .i64 (l.getD st1.2.toNat (0,0,0)).2.2])] ?_
          refine zQ h (fun hb49 h=>?_) (fun hb49 h=>?_)
          ·refine zo ?_
           refine zB [(4,.bool false)] [] ?_
           refine zr ?_
           refine ablock_r ?_
           refine athen_r ?_
           obtain rfl:=Option.some.inj h
           try rw [← hd22 _ rfl] at ho21
           have h:=ho21
           try simp only at h
           refine athen_r ?_
           refine ablock_r ?_
           refine athen_r ?_
           obtain rfl:=Option.some.inj h
           exact zR [] [] []
          ·refine zk ?_
           exact AW.weaken (zL [] [] []) (hk_linealref09_isCircle_k3 () h)
         ·refine zS 4 [(0,.sl (.sl (.pair (.int .i64) .bool)) x0),(1,.sl Y0 l),(5,.bool st1.1),(6,.int .i64 st1.2),(7,.bp 7 0),(21,.sl Y0 l),(22,.int .i64 (l.length:Int)),(23,.int .i64 st1.2),(35,.bool false),(41,.bool false),(45,.cv (undef))] [(7,.box 35 [.int .i64 (l.getD st1.2.toNat (0,0,0)).1,.int .i64 (l.getD st1.2.toNat (0,0,0)).2.1,.int .i64 (l.getD st1.2.toNat (0,0,0)).2.2])] ?_
          refine zB [(0,.sl (.sl (.pair (.int .i64) .bool)) x0),(1,.sl Y0 l),(5,.bool st1.1),(6,.int .i64 st1.2),(7,.bp 7 0),(21,.sl Y0 l),(22,.int .i64 (l.length:Int)),(23,.int .i64 st1.2),(47,.bool false)] [(7,.box 35 [.int .i64 (l.getD st1.2.toNat (0,0,0)).1,.int .i64 (l.getD st1.2.toNat (0,0,0)).2.1,.int .i64 (l.getD st1.2.toNat (0,0,0)).2.2])] ?_
          refine AW.cond (b:=false) rfl (fun hb50=>by cases hb50) (fun _=>?_)
          refine zk ?_
          exact AW.weaken (zL [] [] []) (hk_linealref09_isCircle_k3 () h)
     ·refine AW.exit ?_
      refine athen_e ?_
      obtain rfl:=Option.some.inj h
      rw [← hd22 _ rfl] at ho21
      have h:=ho21
      try simp only at h
      refine athen_e ?_
      refine ablock_s ?_
      refine athen_n ?_
      exact AW.weaken (zL [] [] []) (hk_linealref09_isCircle_k1 _ h)
end Go.Proofs.Ytdicomoggfhbfaa
