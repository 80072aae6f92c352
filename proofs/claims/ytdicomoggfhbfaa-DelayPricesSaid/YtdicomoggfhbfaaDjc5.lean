import Derived.Test.YtdicomoggfhbfaaDlp
import Derived.Test.YtdicomoggfhbfaaShd
import Derived.Test.YtdicomoggfhbfaaDjc4
namespace Go.Proofs.Ytdicomoggfhbfaa
open Go.RowKit
set_option linter.unusedSimpArgs false
set_option linter.unusedVariables false
set_option linter.constructorNameAsVariable false
set_option maxRecDepth 100000
set_option maxHeartbeats 40000000
theorem hc_linealref09_stations (x0:List (List (Int×Bool))) {r:(List (Int×Int×Int))} (h:linealref09_stations x0=some r):HC Try.prog 70 [] [.sl (.sl (.pair (.int .i64) .bool)) x0] [(2000,.arr 35 Y0 r)] (.own 2000):=by
 unfold linealref09_stations at h
 refine zH Try.func70 [.tmp 2] 46 ?_
 refine zo ?_
 refine zB [(0,.sl (.sl (.pair (.int .i64) .bool)) x0)] [] ?_
 refine zo ?_
 refine zB [(0,.sl (.sl (.pair (.int .i64) .bool)) x0),(3,.cv (.slice none 0 0))] [] ?_
 refine AW.have1 (fun b3_3:(List (Int×Int×Int))=>linealref09_stations_k1 b3_3=some r) (fun b3_3=>⟨fr [(3,.own 41)],hpGet [(41,.arr 35 Y0 b3_3)],gt⟩) (fun b3_3 h=>?_) (fun hk_linealref09_stations_k1=>?_)
 ·as_aux_lemma =>
   unfold linealref09_stations_k1 at h
   refine zo ?_
   refine zB [(2,.own 41)] [(41,.arr 35 Y0 b3_3)] ?_
   refine AW.ret ?_
   obtain rfl:=Option.some.inj h
   exact zR [] [] [(2000,41)]
 ·refine AW.seq ?_
  refine zo ?_
  refine zB [(0,.sl (.sl (.pair (.int .i64) .bool)) x0),(3,.cv (.slice none 0 0)),(9,.sl (.sl (.pair (.int .i64) .bool)) x0),(10,.int .i64 (x0.length:Int)),(11,.int .i64 0)] [] ?_
  refine AW.block ?_
  obtain ⟨rv5,hw1,ho2⟩:=Option.bind_eq_some_iff.1 h
  refine AW.loopO (linealref09_stations_b1 x0) (fun st1=>⟨fr [(0,.sl (.sl (.pair (.int .i64) .bool)) x0),(3,.own 41),(9,.sl (.sl (.pair (.int .i64) .bool)) x0),(10,.int .i64 (x0.length:Int)),(11,.int .i64 st1.2)],hpGet [(41,.arr 35 Y0 st1.1)],gt⟩) ([],0) hw1 (zL [] [41] []) ?_
  as_aux_lemma =>
   intro st1 x4 h hd3
   unfold linealref09_stations_b1 at h
   refine zo ?_
   refine zB [(0,.sl (.sl (.pair (.int .i64) .bool)) x0),(3,.own 41),(9,.sl (.sl (.pair (.int .i64) .bool)) x0),(10,.int .i64 (x0.length:Int)),(11,.int .i64 st1.2),(12,.bool (decide (st1.2<(x0.length:Int))))] [(41,.arr 35 Y0 st1.1)] ?_
   refine AW.seq ?_
   refine zQ h (fun hb6 h=>?_) (fun hb6 h=>?_)
   ·refine zk ?_
    refine AW.have1 (fun b3_2:(List (Int×Int×Int))=>linealref09_stations_k2 st1 b3_2=some x4) (fun b3_2=>⟨fr [(0,.sl (.sl (.pair (.int .i64) .bool)) x0),(3,.own 41),(9,.sl (.sl (.pair (.int .i64) .bool)) x0),(10,.int .i64 (x0.length:Int)),(11,.int .i64 st1.2)],hpGet [(41,.arr 35 Y0 b3_2)],gt⟩) (fun b3_2 h=>?_) (fun hk_linealref09_stations_k2=>?_)
    ·as_aux_lemma =>
      unfold linealref09_stations_k2 at h
      refine AW.ops ?_
      obtain ⟨c7,h⟩:=ck_some.1 h
      refine zA [(0,.sl (.sl (.pair (.int .i64) .bool)) x0),(3,.own 41),(9,.sl (.sl (.pair (.int .i64) .bool)) x0),(10,.int .i64 (x0.length:Int)),(11,.int .i64 (st1.2+1))] [(41,.arr 35 Y0 b3_2)] ?_
      obtain rfl:=Option.some.inj h
      exact ⟨_,rfl,zL [] [] []⟩
    ·refine AW.seq ?_
     refine AW.block ?_
     refine zo ?_
     obtain ⟨c8,h⟩:=ck_some.1 h
     obtain ⟨c9,h⟩:=ck_some.1 h
     refine zB [(0,.sl (.sl (.pair (.int .i64) .bool)) x0),(3,.own 41),(4,.int .i64 st1.2),(5,.sl (.pair (.int .i64) .bool) (x0.getD st1.2.toNat [])),(9,.sl (.sl (.pair (.int .i64) .bool)) x0),(10,.int .i64 (x0.length:Int)),(11,.int .i64 st1.2)] [(41,.arr 35 Y0 st1.1)] ?_
     refine zo ?_
     refine zB [(0,.sl (.sl (.pair (.int .i64) .bool)) x0),(3,.own 41),(4,.int .i64 st1.2),(5,.sl (.pair (.int .i64) .bool) (x0.getD st1.2.toNat [])),(9,.sl (.sl (.pair (.int .i64) .bool)) x0),(10,.int .i64 (x0.length:Int)),(11,.int .i64 st1.2),(17,.int .i64 ((x0.getD st1.2.toNat []).length:Int)),(18,.int .i64 0)] [(41,.arr 35 Y0 st1.1)] ?_
     refine AW.block ?_
     obtain ⟨rv14,hw10,ho11⟩:=Option.bind_eq_some_iff.1 h
     refine AW.loopO (linealref09_stations_b2 x0 st1) (fun st2=>⟨fr [(0,.sl (.sl (.pair (.int .i64) .bool)) x0),(3,.own 41),(4,.int .i64 st1.2),(5,.sl (.pair (.int .i64) .bool) (x0.getD st1.2.toNat [])),(9,.sl (.sl (.pair (.int .i64) .bool)) x0),(10,.int .i64 (x0.length:Int)),(11,.int .i64 st1.2),(17,.int .i64 ((x0.getD st1.2.toNat []).length:Int)),(18,.int .i64 st2.2)],hpGet [(41,.arr 35 Y0 st2.1)],gt⟩) (st1.1,0) hw10 (zL [] [] []) ?_
     as_aux_lemma =>
      intro st2 x13 h hd12
      unfold linealref09_stations_b2 at h
      refine zo ?_
      refine zB [(0,.sl (.sl (.pair (.int .i64) .bool)) x0),(3,.own 41),(4,.int .i64 st1.2),(5,.sl (.pair (.int .i64) .bool) (x0.getD st1.2.toNat [])),(9,.sl (.sl (.pair (.int .i64) .bool)) x0),(10,.int .i64 (x0.length:Int)),(11,.int .i64 st1.2),(17,.int .i64 ((x0.getD st1.2.toNat []).length:Int)),(18,.int .i64 st2.2),(19,.bool (decide (st2.2<((x0.getD st1.2.toNat []).length:Int))))] [(41,.arr 35 Y0 st2.1)] ?_
      refine AW.seq ?_
      refine zQ h (fun hb15 h=>?_) (fun hb15 h=>?_)
      ·refine zk ?_
       refine AW.have1 (fun b3:(List (Int×Int×Int))=>linealref09_stations_k3 st2 b3=some x13) (fun b3=>⟨fr [(0,.sl (.sl (.pair (.int .i64) .bool)) x0),(3,.own 41),(4,.int .i64 st1.2),(5,.sl (.pair (.int .i64) .bool) (x0.getD st1.2.toNat [])),(9,.sl (.sl (.pair (.int .i64) .bool)) x0),(10,.int .i64 (x0.length:Int)),(11,.int .i64 st1.2),(17,.int .i64 ((x0.getD st1.2.toNat []).length:Int)),(18,.int .i64 st2.2)],hpGet [(41,.arr 35 Y0 b3)],gt⟩) (fun b3 h=>?_) (fun hk_linealref09_stations_k3=>?_)
       ·as_aux_lemma =>
         unfold linealref09_stations_k3 at h
         refine AW.ops ?_
         obtain ⟨c16,h⟩:=ck_some.1 h
         refine zA [(0,.sl (.sl (.pair (.int .i64) .bool)) x0),(3,.own 41),(4,.int .i64 st1.2),(5,.sl (.pair (.int .i64) .bool) (x0.getD st1.2.toNat [])),(9,.sl (.sl (.pair (.int .i64) .bool)) x0),(10,.int .i64 (x0.length:Int)),(11,.int .i64 st1.2),(17,.int .i64 ((x0.getD st1.2.toNat []).length:Int)),(18,.int .i64 (st2.2+1))] [(41,.arr 35 Y0 b3)] ?_
         obtain rfl:=Option.some.inj h
         exact ⟨_,rfl,zL [] [] []⟩
       ·refine AW.seq ?_
        refine AW.block ?_
        refine zo ?_
        refine zB [(0,.sl (.sl (.pair (.int .i64) .bool)) x0),(3,.own 41),(4,.int .i64 st1.2),(5,.sl (.pair (.int .i64) .bool) (x0.getD st1.2.toNat [])),(6,.int .i64 st2.2),(9,.sl (.sl (.pair (.int .i64) .bool)) x0),(10,.int .i64 (x0.length:Int)),(11,.int .i64 st1.2),(17,.int .i64 ((x0.getD st1.2.toNat []).length:Int)),(18,.int .i64 st2.2)] [(41,.arr 35 Y0 st2.1)] ?_
        refine zo ?_
        refine zB [(0,.sl (.sl (.pair (.int .i64) .bool)) x0),(3,.own 41),(4,.int .i64 st1.2),(5,.sl (.pair (.int .i64) .bool) (x0.getD st1.2.toNat [])),(6,.int .i64 st2.2),(9,.sl (.sl (.pair (.int .i64) .bool)) x0),(10,.int .i64 (x0.length:Int)),(11,.int .i64 st1.2),(17,.int .i64 ((x0.getD st1.2.toNat []).length:Int)),(18,.int .i64 st2.2),(22,.int .i64 ((x0.getD st1.2.toNat []).length:Int)),(23,.int .i64 0)] [(41,.arr 35 Y0 st2.1)] ?_
        refine AW.block ?_
        obtain ⟨rv21,hw17,ho18⟩:=Option.bind_eq_some_iff.1 h
        refine AW.loopO (linealref09_stations_b3 x0 st1 st2) (fun st3=>⟨fr [(0,.sl (.sl (.pair (.int .i64) .bool)) x0),(3,.own 41),(4,.int .i64 st1.2),(5,.sl (.pair (.int .i64) .bool) (x0.getD st1.2.toNat [])),(6,.int .i64 st2.2),(9,.sl (.sl (.pair (.int .i64) .bool)) x0),(10,.int .i64 (x0.length:Int)),(11,.int .i64 st1.2),(17,.int .i64 ((x0.getD st1.2.toNat []).length:Int)),(18,.int .i64 st2.2),(22,.int .i64 ((x0.getD st1.2.toNat []).length:Int)),(23,.int .i64 st3.2)],hpGet [(41,.arr 35 Y0 st3.1)],gt⟩) (st2.1,0) hw17 (zL [] [] []) ?_
        as_aux_lemma =>
         intro st3 x20 h hd19
         unfold linealref09_stations_b3 at h
         refine zo ?_
         refine zB [(0,.sl (.sl (.pair (.int .i64) .bool)) x0),(3,.own 41),(4,.int .i64 st1.2),(5,.sl (.pair (.int .i64) .bool) (x0.getD st1.2.toNat [])),(6,.int .i64 st2.2),(9,.sl (.sl (.pair (.int .i64) .bool)) x0),(10,.int .i64 (x0.length:Int)),(11,.int .i64 st1.2),(17,.int .i64 ((x0.getD st1.2.toNat []).length:Int)),(18,.int .i64 st2.2),(22,.int .i64 ((x0.getD st1.2.toNat []).length:Int)),(23,.int .i64 st3.2),(24,.bool (decide (st3.2<((x0.getD st1.2.toNat []).length:Int))))] [(41,.arr 35 Y0 st3.1)] ?_
         refine AW.seq ?_
         refine zQ h (fun hb22 h=>?_) (fun hb22 h=>?_)
         ·refine zk ?_
          refine AW.seq ?_
          refine AW.block ?_
          refine zo ?_
          refine zB [(0,.sl (.sl (.pair (.int .i64) .bool)) x0),(3,.own 41),(4,.int .i64 st1.2),(5,.sl (.pair (.int .i64) .bool) (x0.getD st1.2.toNat [])),(6,.int .i64 st2.2),(7,.int .i64 st3.2),(9,.sl (.sl (.pair (.int .i64) .bool)) x0),(10,.int .i64 (x0.length:Int)),(11,.int .i64 st1.2),(17,.int .i64 ((x0.getD st1.2.toNat []).length:Int)),(18,.int .i64 st2.2),(22,.int .i64 ((x0.getD st1.2.toNat []).length:Int)),(23,.int .i64 st3.2)] [(41,.arr 35 Y0 st3.1)] ?_
          refine zo ?_
          refine zS 5 [(0,.sl (.sl (.pair (.int .i64) .bool)) x0),(3,.own 41),(4,.int .i64 st1.2),(5,.sl (.pair (.int .i64) .bool) (x0.getD st1.2.toNat [])),(6,.int .i64 st2.2),(7,.int .i64 st3.2),(8,.bp 8 0),(9,.sl (.sl (.pair (.int .i64) .bool)) x0),(10,.int .i64 (x0.length:Int)),(11,.int .i64 st1.2),(17,.int .i64 ((x0.getD st1.2.toNat []).length:Int)),(18,.int .i64 st2.2),(22,.int .i64 ((x0.getD st1.2.toNat []).length:Int)),(23,.int .i64 st3.2),(29,.agg [.int .i64 st1.2,.int .i64 st2.2,.int .i64 st3.2])] [(8,.box 35 [.int .i64 0,.int .i64 0,.int .i64 0]),(41,.arr 35 Y0 st3.1)] ?_
          refine zB [(0,.sl (.sl (.pair (.int .i64) .bool)) x0),(3,.own 41),(4,.int .i64 st1.2),(5,.sl (.pair (.int .i64) .bool) (x0.getD st1.2.toNat [])),(6,.int .i64 st2.2),(7,.int .i64 st3.2),(8,.bp 8 0),(9,.sl (.sl (.pair (.int .i64) .bool)) x0),(10,.int .i64 (x0.length:Int)),(11,.int .i64 st1.2),(17,.int .i64 ((x0.getD st1.2.toNat []).length:Int)),(18,.int .i64 st2.2),(22,.int .i64 ((x0.getD st1.2.toNat []).length:Int)),(23,.int .i64 st3.2)] [(8,.box 35 [.int .i64 st1.2,.int .i64 st2.2,.int .i64 st3.2]),(41,.arr 35 Y0 st3.1)] ?_
          refine zo ?_
          refine zS 4 [(0,.sl (.sl (.pair (.int .i64) .bool)) x0),(3,.own 41),(4,.int .i64 st1.2),(5,.sl (.pair (.int .i64) .bool) (x0.getD st1.2.toNat [])),(6,.int .i64 st2.2),(8,.bp 8 0),(9,.sl (.sl (.pair (.int .i64) .bool)) x0),(10,.int .i64 (x0.length:Int)),(11,.int .i64 st1.2),(17,.int .i64 ((x0.getD st1.2.toNat []).length:Int)),(18,.int .i64 st2.2),(22,.int .i64 ((x0.getD st1.2.toNat []).length:Int)),(23,.int .i64 st3.2),(33,.bool (decide (st2.2=st3.2)))] [(8,.box 35 [.int .i64 st1.2,.int .i64 st2.2,.int .i64 st3.2]),(41,.arr 35 Y0 st3.1)] ?_
          rcases zI h with ⟨hb23,h⟩|⟨hb23,h⟩
          ·refine zB [(0,.sl (.sl (.pair (.int .i64) .bool)) x0),(3,.own 41),(4,.int .i64 st1.2),(5,.sl (.pair (.int .i64) .bool) (x0.getD st1.2.toNat [])),(6,.int .i64 st2.2),(8,.bp 8 0),(9,.sl (.sl (.pair (.int .i64) .bool)) x0),(10,.int .i64 (x0.length:Int)),(11,.int .i64 st1.2),(17,.int .i64 ((x0.getD st1.2.toNat []).length:Int)),(18,.int .i64 st2.2),(22,.int .i64 ((x0.getD st1.2.toNat []).length:Int)),(23,.int .i64 st3.2),(37,.bool true)] [(8,.box 35 [.int .i64 st1.2,.int .i64 st2.2,.int .i64 st3.2]),(41,.arr 35 Y0 st3.1)] ?_
           refine AW.cond (b:=true) rfl (fun _=>?_) (fun hb24=>by cases hb24)
           refine AW.ops ?_
           obtain ⟨c25,h⟩:=ck_some.1 h
           refine zA [(0,.sl (.sl (.pair (.int .i64) .bool)) x0),(3,.own 41),(4,.int .i64 st1.2),(5,.sl (.pair (.int .i64) .bool) (x0.getD st1.2.toNat [])),(6,.int .i64 st2.2),(9,.sl (.sl (.pair (.int .i64) .bool)) x0),(10,.int .i64 (x0.length:Int)),(11,.int .i64 st1.2),(17,.int .i64 ((x0.getD st1.2.toNat []).length:Int)),(18,.int .i64 st2.2),(22,.int .i64 ((x0.getD st1.2.toNat []).length:Int)),(23,.int .i64 st3.2)] [(41,.arr 35 Y0 (st3.1++[(st1.2,st2.2,st3.2)]))] ?_
           refine ablock_n ?_
           refine athen_n ?_
           refine AW.ops ?_
           obtain ⟨c26,h⟩:=ck_some.1 h
           refine zA [(0,.sl (.sl (.pair (.int .i64) .bool)) x0),(3,.own 41),(4,.int .i64 st1.2),(5,.sl (.pair (.int .i64) .bool) (x0.getD st1.2.toNat [])),(6,.int .i64 st2.2),(9,.sl (.sl (.pair (.int .i64) .bool)) x0),(10,.int .i64 (x0.length:Int)),(11,.int .i64 st1.2),(17,.int .i64 ((x0.getD st1.2.toNat []).length:Int)),(18,.int .i64 st2.2),(22,.int .i64 ((x0.getD st1.2.toNat []).length:Int)),(23,.int .i64 (st3.2+1))] [(41,.arr 35 Y0 (st3.1++[(st1.2,st2.2,st3.2)]))] ?_
           obtain rfl:=Option.some.inj h
           exact ⟨_,rfl,zL [] [] []⟩
          ·refine zS 2 [(0,.sl (.sl (.pair (.int .i64) .bool)) x0),(3,.own 41),(4,.int .i64 st1.2),(5,.sl (.pair (.int .i64) .bool) (x0.getD st1.2.toNat [])),(6,.int .i64 st2.2),(8,.bp 8 0),(9,.sl (.sl (.pair (.int .i64) .bool)) x0),(10,.int .i64 (x0.length:Int)),(11,.int .i64 st1.2),(17,.int .i64 ((x0.getD st1.2.toNat []).length:Int)),(18,.int .i64 st2.2),(22,.int .i64 ((x0.getD st1.2.toNat []).length:Int)),(23,.int .i64 st3.2),(33,.bool false),(34,.sl (.sl (.pair (.int .i64) .bool)) x0),(35,.agg [.int .i64 st1.2,.int .i64 st2.2,.int .i64 st3.2])] [(8,.box 35 [.int .i64 st1.2,.int .i64 st2.2,.int .i64 st3.2]),(41,.arr 35 Y0 st3.1)] ?_
           obtain ⟨v0,hv27,h⟩:=Option.bind_eq_some_iff.1 h
           refine zG [] [] (hc_linealref09_IsPair x0 (st1.2,st2.2,st3.2) hv27) [(0,.sl (.sl (.pair (.int .i64) .bool)) x0),(3,.own 41),(4,.int .i64 st1.2),(5,.sl (.pair (.int .i64) .bool) (x0.getD st1.2.toNat [])),(6,.int .i64 st2.2),(8,.bp 8 0),(9,.sl (.sl (.pair (.int .i64) .bool)) x0),(10,.int .i64 (x0.length:Int)),(11,.int .i64 st1.2),(17,.int .i64 ((x0.getD st1.2.toNat []).length:Int)),(18,.int .i64 st2.2),(22,.int .i64 ((x0.getD st1.2.toNat []).length:Int)),(23,.int .i64 st3.2),(33,.bool false),(36,.bool v0)] [(8,.box 35 [.int .i64 st1.2,.int .i64 st2.2,.int .i64 st3.2]),(41,.arr 35 Y0 st3.1)] ?_
           refine zB [(0,.sl (.sl (.pair (.int .i64) .bool)) x0),(3,.own 41),(4,.int .i64 st1.2),(5,.sl (.pair (.int .i64) .bool) (x0.getD st1.2.toNat [])),(6,.int .i64 st2.2),(8,.bp 8 0),(9,.sl (.sl (.pair (.int .i64) .bool)) x0),(10,.int .i64 (x0.length:Int)),(11,.int .i64 st1.2),(17,.int .i64 ((x0.getD st1.2.toNat []).length:Int)),(18,.int .i64 st2.2),(22,.int .i64 ((x0.getD st1.2.toNat []).length:Int)),(23,.int .i64 st3.2),(37,.bool v0)] [(8,.box 35 [.int .i64 st1.2,.int .i64 st2.2,.int .i64 st3.2]),(41,.arr 35 Y0 st3.1)] ?_
           refine zQ h (fun hb28 h=>?_) (fun hb28 h=>?_)
           ·refine AW.ops ?_
            obtain ⟨c29,h⟩:=ck_some.1 h
            refine zA [(0,.sl (.sl (.pair (.int .i64) .bool)) x0),(3,.own 41),(4,.int .i64 st1.2),(5,.sl (.pair (.int .i64) .bool) (x0.getD st1.2.toNat [])),(6,.int .i64 st2.2),(9,.sl (.sl (.pair (.int .i64) .bool)) x0),(10,.int .i64 (x0.length:Int)),(11,.int .i64 st1.2),(17,.int .i64 ((x0.getD st1.2.toNat []).length:Int)),(18,.int .i64 st2.2),(22,.int .i64 ((x0.getD st1.2.toNat []).length:Int)),(23,.int .i64 st3.2)] [(41,.arr 35 Y0 (st3.1++[(st1.2,st2.2,st3.2)]))] ?_
            refine ablock_n ?_
            refine athen_n ?_
            refine AW.ops ?_
            obtain ⟨c30,h⟩:=ck_some.1 h
            refine zA [(0,.sl (.sl (.pair (.int .i64) .bool)) x0),(3,.own 41),(4,.int .i64 st1.2),(5,.sl (.pair (.int .i64) .bool) (x0.getD st1.2.toNat [])),(6,.int .i64 st2.2),(9,.sl (.sl (.pair (.int .i64) .bool)) x0),(10,.int .i64 (x0.length:Int)),(11,.int .i64 st1.2),(17,.int .i64 ((x0.getD st1.2.toNat []).length:Int)),(18,.int .i64 st2.2),(22,.int .i64 ((x0.getD st1.2.toNat []).length:Int)),(23,.int .i64 (st3.2+1))] [(41,.arr 35 Y0 (st3.1++[(st1.2,st2.2,st3.2)]))] ?_
            obtain rfl:=Option.some.inj h
            exact ⟨_,rfl,zL [] [] []⟩
           ·refine zm ?_
            refine athen_n ?_
            refine AW.ops ?_
            obtain ⟨c31,h⟩:=ck_some.1 h
            refine zA [(0,.sl (.sl (.pair (.int .i64) .bool)) x0),(3,.own 41),(4,.int .i64 st1.2),(5,.sl (.pair (.int .i64) .bool) (x0.getD st1.2.toNat [])),(6,.int .i64 st2.2),(9,.sl (.sl (.pair (.int .i64) .bool)) x0),(10,.int .i64 (x0.length:Int)),(11,.int .i64 st1.2),(17,.int .i64 ((x0.getD st1.2.toNat []).length:Int)),(18,.int .i64 st2.2),(22,.int .i64 ((x0.getD st1.2.toNat []).length:Int)),(23,.int .i64 (st3.2+1))] [(41,.arr 35 Y0 st3.1)] ?_
            obtain rfl:=Option.some.inj h
            exact ⟨_,rfl,zL [] [] []⟩
         ·refine AW.exit ?_
          refine athen_e ?_
          obtain rfl:=Option.some.inj h
          rw [← hd19 _ rfl] at ho18
          have h:=ho18
          refine athen_e ?_
          refine ablock_s ?_
          refine ablock_n ?_
          refine athen_n ?_
          exact AW.weaken (zL [] [] []) (hk_linealref09_stations_k3 _ h)
      ·refine AW.exit ?_
       refine athen_e ?_
       obtain rfl:=Option.some.inj h
       rw [← hd12 _ rfl] at ho11
       have h:=ho11
       refine athen_e ?_
       refine ablock_s ?_
       refine ablock_n ?_
       refine athen_n ?_
       exact AW.weaken (zL [] [] []) (hk_linealref09_stations_k2 _ h)
   ·refine AW.exit ?_
    refine athen_e ?_
    obtain rfl:=Option.some.inj h
    rw [← hd3 _ rfl] at ho2
    have h:=ho2
    refine athen_e ?_
    refine ablock_s ?_
    refine athen_n ?_
    exact AW.weaken (zL [] [] []) (hk_linealref09_stations_k1 _ h)
theorem hc_delay_accesses_fences (x0:List (List (Int×Bool))) {r:(List (Int×Int))} (h:delay_accesses_fences x0=some r):HC Try.prog 127 [] [.sl (.sl (.pair (.int .i64) .bool)) x0] [(2000,.arr 110 (.pair (.int .i64) (.int .i64)) r)] (.own 2000):=by
 unfold delay_accesses_fences at h
 refine zH Try.func127 [.tmp 2] 29 ?_
 refine zo ?_
 refine zB [(0,.sl (.sl (.pair (.int .i64) .bool)) x0)] [] ?_
 refine zo ?_
 refine zB [(0,.sl (.sl (.pair (.int .i64) .bool)) x0),(3,.cv (.slice none 0 0))] [] ?_
 refine AW.have1 (fun b2_2:(List (Int×Int))=>delay_accesses_fences_k1 b2_2=some r) (fun b2_2=>⟨fr [(3,.own 25)],hpGet [(25,.arr 110 (.pair (.int .i64) (.int .i64)) b2_2)],gt⟩) (fun b2_2 h=>?_) (fun hk_delay_accesses_fences_k1=>?_)
 ·as_aux_lemma =>
   unfold delay_accesses_fences_k1 at h
   refine zo ?_
   refine zB [(2,.own 25)] [(25,.arr 110 (.pair (.int .i64) (.int .i64)) b2_2)] ?_
   refine AW.ret ?_
   obtain rfl:=Option.some.inj h
   exact zR [] [] [(2000,25)]
 ·refine AW.seq ?_
  refine zo ?_
  refine zB [(3,.cv (.slice none 0 0)),(7,.sl (.sl (.pair (.int .i64) .bool)) x0),(8,.int .i64 (x0.length:Int)),(9,.int .i64 0)] [] ?_
  refine AW.block ?_
  obtain ⟨rv5,hw1,ho2⟩:=Option.bind_eq_some_iff.1 h
  refine AW.loopO (delay_accesses_fences_b1 x0) (fun st1=>⟨fr [(3,.own 25),(7,.sl (.sl (.pair (.int .i64) .bool)) x0),(8,.int .i64 (x0.length:Int)),(9,.int .i64 st1.2)],hpGet [(25,.arr 110 (.pair (.int .i64) (.int .i64)) st1.1)],gt⟩) ([],0) hw1 (zL [] [25] []) ?_
  as_aux_lemma =>
   intro st1 x4 h hd3
   unfold delay_accesses_fences_b1 at h
   refine zo ?_
   refine zB [(3,.own 25),(7,.sl (.sl (.pair (.int .i64) .bool)) x0),(8,.int .i64 (x0.length:Int)),(9,.int .i64 st1.2),(10,.bool (decide (st1.2<(x0.length:Int))))] [(25,.arr 110 (.pair (.int .i64) (.int .i64)) st1.1)] ?_
   refine AW.seq ?_
   refine zQ h (fun hb6 h=>?_) (fun hb6 h=>?_)
   ·refine zk ?_
    refine AW.have1 (fun b2:(List (Int×Int))=>delay_accesses_fences_k2 st1 b2=some x4) (fun b2=>⟨fr [(3,.own 25),(7,.sl (.sl (.pair (.int .i64) .bool)) x0),(8,.int .i64 (x0.length:Int)),(9,.int .i64 st1.2)],hpGet [(25,.arr 110 (.pair (.int .i64) (.int .i64)) b2)],gt⟩) (fun b2 h=>?_) (fun hk_delay_accesses_fences_k2=>?_)
    ·as_aux_lemma =>
      unfold delay_accesses_fences_k2 at h
      refine AW.ops ?_
      obtain ⟨c7,h⟩:=ck_some.1 h
      refine zA [(3,.own 25),(7,.sl (.sl (.pair (.int .i64) .bool)) x0),(8,.int .i64 (x0.length:Int)),(9,.int .i64 (st1.2+1))] [(25,.arr 110 (.pair (.int .i64) (.int .i64)) b2)] ?_
      obtain rfl:=Option.some.inj h
      exact ⟨_,rfl,zL [] [] []⟩
    ·refine AW.seq ?_
     refine AW.block ?_
     refine zo ?_
     obtain ⟨c8,h⟩:=ck_some.1 h
     obtain ⟨c9,h⟩:=ck_some.1 h
     refine zB [(3,.own 25),(4,.int .i64 st1.2),(5,.sl (.pair (.int .i64) .bool) (x0.getD st1.2.toNat [])),(7,.sl (.sl (.pair (.int .i64) .bool)) x0),(8,.int .i64 (x0.length:Int)),(9,.int .i64 st1.2)] [(25,.arr 110 (.pair (.int .i64) (.int .i64)) st1.1)] ?_
     refine zo ?_
     obtain ⟨c10,h⟩:=ck_some.1 h
     refine zB [(3,.own 25),(4,.int .i64 st1.2),(7,.sl (.sl (.pair (.int .i64) .bool)) x0),(8,.int .i64 (x0.length:Int)),(9,.int .i64 st1.2),(16,.int .i64 (((x0.getD st1.2.toNat []).length:Int) - 1)),(17,.int .i64 0)] [(25,.arr 110 (.pair (.int .i64) (.int .i64)) st1.1)] ?_
     refine AW.block ?_
     obtain ⟨rv15,hw11,ho12⟩:=Option.bind_eq_some_iff.1 h
     refine AW.loopO (delay_accesses_fences_b2 x0 st1) (fun st2=>⟨fr [(3,.own 25),(4,.int .i64 st1.2),(7,.sl (.sl (.pair (.int .i64) .bool)) x0),(8,.int .i64 (x0.length:Int)),(9,.int .i64 st1.2),(16,.int .i64 (((x0.getD st1.2.toNat []).length:Int) - 1)),(17,.int .i64 st2.2)],hpGet [(25,.arr 110 (.pair (.int .i64) (.int .i64)) st2.1)],gt⟩) (st1.1,0) hw11 (zL [] [] []) ?_
     as_aux_lemma =>
      intro st2 x14 h hd13
      unfold delay_accesses_fences_b2 at h
      refine zo ?_
      refine zB [(3,.own 25),(4,.int .i64 st1.2),(7,.sl (.sl (.pair (.int .i64) .bool)) x0),(8,.int .i64 (x0.length:Int)),(9,.int .i64 st1.2),(16,.int .i64 (((x0.getD st1.2.toNat []).length:Int) - 1)),(17,.int .i64 st2.2),(18,.bool (decide (st2.2<(((x0.getD st1.2.toNat []).length:Int) - 1))))] [(25,.arr 110 (.pair (.int .i64) (.int .i64)) st2.1)] ?_
      refine AW.seq ?_
      refine zQ h (fun hb16 h=>?_) (fun hb16 h=>?_)
      ·refine zk ?_
       refine AW.seq ?_
       refine AW.block ?_
       refine zo ?_
       refine zB [(3,.own 25),(4,.int .i64 st1.2),(6,.int .i64 st2.2),(7,.sl (.sl (.pair (.int .i64) .bool)) x0),(8,.int .i64 (x0.length:Int)),(9,.int .i64 st1.2),(16,.int .i64 (((x0.getD st1.2.toNat []).length:Int) - 1)),(17,.int .i64 st2.2)] [(25,.arr 110 (.pair (.int .i64) (.int .i64)) st2.1)] ?_
       refine AW.ops ?_
       refine zS 5 [(4,.int .i64 st1.2),(7,.sl (.sl (.pair (.int .i64) .bool)) x0),(8,.int .i64 (x0.length:Int)),(9,.int .i64 st1.2),(16,.int .i64 (((x0.getD st1.2.toNat []).length:Int) - 1)),(17,.int .i64 st2.2),(20,.own 25),(24,.own 24)] [(24,.arr 110 (.pair (.int .i64) (.int .i64)) [(st1.2,st2.2)]),(25,.arr 110 (.pair (.int .i64) (.int .i64)) st2.1)] ?_
       obtain ⟨c17,h⟩:=ck_some.1 h
       refine zA [(3,.own 25),(4,.int .i64 st1.2),(7,.sl (.sl (.pair (.int .i64) .bool)) x0),(8,.int .i64 (x0.length:Int)),(9,.int .i64 st1.2),(16,.int .i64 (((x0.getD st1.2.toNat []).length:Int) - 1)),(17,.int .i64 st2.2)] [(25,.arr 110 (.pair (.int .i64) (.int .i64)) (st2.1++[(st1.2,st2.2)]))] ?_
       refine ablock_n ?_
       refine athen_n ?_
       refine AW.ops ?_
       obtain ⟨c18,h⟩:=ck_some.1 h
       refine zA [(3,.own 25),(4,.int .i64 st1.2),(7,.sl (.sl (.pair (.int .i64) .bool)) x0),(8,.int .i64 (x0.length:Int)),(9,.int .i64 st1.2),(16,.int .i64 (((x0.getD st1.2.toNat []).length:Int) - 1)),(17,.int .i64 (st2.2+1))] [(25,.arr 110 (.pair (.int .i64) (.int .i64)) (st2.1++[(st1.2,st2.2)]))] ?_
       obtain rfl:=Option.some.inj h
       exact ⟨_,rfl,zL [] [] []⟩
      ·refine AW.exit ?_
       refine athen_e ?_
       obtain rfl:=Option.some.inj h
       rw [← hd13 _ rfl] at ho12
       have h:=ho12
       refine athen_e ?_
       refine ablock_s ?_
       refine ablock_n ?_
       refine athen_n ?_
       exact AW.weaken (zL [] [] []) (hk_delay_accesses_fences_k2 _ h)
   ·refine AW.exit ?_
    refine athen_e ?_
    obtain rfl:=Option.some.inj h
    rw [← hd3 _ rfl] at ho2
    have h:=ho2
    refine athen_e ?_
    refine ablock_s ?_
    refine athen_n ?_
    exact AW.weaken (zL [] [] []) (hk_delay_accesses_fences_k1 _ h)
end Go.Proofs.Ytdicomoggfhbfaa
