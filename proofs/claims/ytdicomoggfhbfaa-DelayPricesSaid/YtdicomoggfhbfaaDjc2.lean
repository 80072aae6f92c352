import Derived.Test.YtdicomoggfhbfaaDlp
import Derived.Test.YtdicomoggfhbfaaShd
import Derived.Test.YtdicomoggfhbfaaAvd
import Derived.Test.YtdicomoggfhbfaaDjc1
namespace Go.Proofs.Ytdicomoggfhbfaa
open Go.RowKit
set_option linter.unusedSimpArgs false
set_option linter.unusedVariables false
set_option linter.constructorNameAsVariable false
set_option maxRecDepth 100000
set_option maxHeartbeats 40000000
theorem hc_delay_accesses_stations (x0:List (List (Int×Bool))) {r:(List (Int×Int×Int))} (h:delay_accesses_stations x0=some r):HC Try.prog 109 [] [.sl (.sl (.pair (.int .i64) .bool)) x0] [(2000,.arr 35 Y0 r)] (.own 2000):=by
 unfold delay_accesses_stations at h
 refine zH Try.func109 [.tmp 2] 41 ?_
 refine zo ?_
 refine zB [(0,.sl (.sl (.pair (.int .i64) .bool)) x0)] [] ?_
 refine zo ?_
 refine zB [(0,.sl (.sl (.pair (.int .i64) .bool)) x0),(3,.cv (.slice none 0 0))] [] ?_
 refine AW.have1 (fun b3_3:(List (Int×Int×Int))=>delay_accesses_stations_k1 b3_3=some r) (fun b3_3=>⟨fr [(3,.own 36)],hpGet [(36,.arr 35 Y0 b3_3)],gt⟩) (fun b3_3 h=>?_) (fun hk_delay_accesses_stations_k1=>?_)
 ·as_aux_lemma =>
   unfold delay_accesses_stations_k1 at h
   refine zo ?_
   refine zB [(2,.own 36)] [(36,.arr 35 Y0 b3_3)] ?_
   refine AW.ret ?_
   obtain rfl:=Option.some.inj h
   exact zR [] [] [(2000,36)]
 ·refine AW.seq ?_
  refine zo ?_
  refine zB [(0,.sl (.sl (.pair (.int .i64) .bool)) x0),(3,.cv (.slice none 0 0)),(9,.sl (.sl (.pair (.int .i64) .bool)) x0),(10,.int .i64 (x0.length:Int)),(11,.int .i64 0)] [] ?_
  refine AW.block ?_
  obtain ⟨rv5,hw1,ho2⟩:=Option.bind_eq_some_iff.1 h
  refine AW.loopO (delay_accesses_stations_b1 x0) (fun st1=>⟨fr [(0,.sl (.sl (.pair (.int .i64) .bool)) x0),(3,.own 36),(9,.sl (.sl (.pair (.int .i64) .bool)) x0),(10,.int .i64 (x0.length:Int)),(11,.int .i64 st1.2)],hpGet [(36,.arr 35 Y0 st1.1)],gt⟩) ([],0) hw1 (zL [] [36] []) ?_
  as_aux_lemma =>
   intro st1 x4 h hd3
   unfold delay_accesses_stations_b1 at h
   refine zo ?_
   refine zB [(0,.sl (.sl (.pair (.int .i64) .bool)) x0),(3,.own 36),(9,.sl (.sl (.pair (.int .i64) .bool)) x0),(10,.int .i64 (x0.length:Int)),(11,.int .i64 st1.2),(12,.bool (decide (st1.2<(x0.length:Int))))] [(36,.arr 35 Y0 st1.1)] ?_
   refine AW.seq ?_
   refine zQ h (fun hb6 h=>?_) (fun hb6 h=>?_)
   ·refine zk ?_
    refine AW.have1 (fun b3_2:(List (Int×Int×Int))=>delay_accesses_stations_k2 st1 b3_2=some x4) (fun b3_2=>⟨fr [(0,.sl (.sl (.pair (.int .i64) .bool)) x0),(3,.own 36),(9,.sl (.sl (.pair (.int .i64) .bool)) x0),(10,.int .i64 (x0.length:Int)),(11,.int .i64 st1.2)],hpGet [(36,.arr 35 Y0 b3_2)],gt⟩) (fun b3_2 h=>?_) (fun hk_delay_accesses_stations_k2=>?_)
    ·as_aux_lemma =>
      unfold delay_accesses_stations_k2 at h
      refine AW.ops ?_
      obtain ⟨c7,h⟩:=ck_some.1 h
      refine zA [(0,.sl (.sl (.pair (.int .i64) .bool)) x0),(3,.own 36),(9,.sl (.sl (.pair (.int .i64) .bool)) x0),(10,.int .i64 (x0.length:Int)),(11,.int .i64 (st1.2+1))] [(36,.arr 35 Y0 b3_2)] ?_
      obtain rfl:=Option.some.inj h
      exact ⟨_,rfl,zL [] [] []⟩
    ·refine AW.seq ?_
     refine AW.block ?_
     refine zo ?_
     obtain ⟨c8,h⟩:=ck_some.1 h
     obtain ⟨c9,h⟩:=ck_some.1 h
     refine zB [(0,.sl (.sl (.pair (.int .i64) .bool)) x0),(3,.own 36),(4,.int .i64 st1.2),(5,.sl (.pair (.int .i64) .bool) (x0.getD st1.2.toNat [])),(9,.sl (.sl (.pair (.int .i64) .bool)) x0),(10,.int .i64 (x0.length:Int)),(11,.int .i64 st1.2)] [(36,.arr 35 Y0 st1.1)] ?_
     refine zo ?_
     refine zB [(0,.sl (.sl (.pair (.int .i64) .bool)) x0),(3,.own 36),(4,.int .i64 st1.2),(5,.sl (.pair (.int .i64) .bool) (x0.getD st1.2.toNat [])),(9,.sl (.sl (.pair (.int .i64) .bool)) x0),(10,.int .i64 (x0.length:Int)),(11,.int .i64 st1.2),(17,.int .i64 ((x0.getD st1.2.toNat []).length:Int)),(18,.int .i64 0)] [(36,.arr 35 Y0 st1.1)] ?_
     refine AW.block ?_
     obtain ⟨rv14,hw10,ho11⟩:=Option.bind_eq_some_iff.1 h
     refine AW.loopO (delay_accesses_stations_b2 x0 st1) (fun st2=>⟨fr [(0,.sl (.sl (.pair (.int .i64) .bool)) x0),(3,.own 36),(4,.int .i64 st1.2),(5,.sl (.pair (.int .i64) .bool) (x0.getD st1.2.toNat [])),(9,.sl (.sl (.pair (.int .i64) .bool)) x0),(10,.int .i64 (x0.length:Int)),(11,.int .i64 st1.2),(17,.int .i64 ((x0.getD st1.2.toNat []).length:Int)),(18,.int .i64 st2.2)],hpGet [(36,.arr 35 Y0 st2.1)],gt⟩) (st1.1,0) hw10 (zL [] [] []) ?_
     as_aux_lemma =>
      intro st2 x13 h hd12
      unfold delay_accesses_stations_b2 at h
      refine zo ?_
      refine zB [(0,.sl (.sl (.pair (.int .i64) .bool)) x0),(3,.own 36),(4,.int .i64 st1.2),(5,.sl (.pair (.int .i64) .bool) (x0.getD st1.2.toNat [])),(9,.sl (.sl (.pair (.int .i64) .bool)) x0),(10,.int .i64 (x0.length:Int)),(11,.int .i64 st1.2),(17,.int .i64 ((x0.getD st1.2.toNat []).length:Int)),(18,.int .i64 st2.2),(19,.bool (decide (st2.2<((x0.getD st1.2.toNat []).length:Int))))] [(36,.arr 35 Y0 st2.1)] ?_
      refine AW.seq ?_
      refine zQ h (fun hb15 h=>?_) (fun hb15 h=>?_)
      ·refine zk ?_
       refine AW.have1 (fun b3:(List (Int×Int×Int))=>delay_accesses_stations_k3 st2 b3=some x13) (fun b3=>⟨fr [(0,.sl (.sl (.pair (.int .i64) .bool)) x0),(3,.own 36),(4,.int .i64 st1.2),(5,.sl (.pair (.int .i64) .bool) (x0.getD st1.2.toNat [])),(9,.sl (.sl (.pair (.int .i64) .bool)) x0),(10,.int .i64 (x0.length:Int)),(11,.int .i64 st1.2),(17,.int .i64 ((x0.getD st1.2.toNat []).length:Int)),(18,.int .i64 st2.2)],hpGet [(36,.arr 35 Y0 b3)],gt⟩) (fun b3 h=>?_) (fun hk_delay_accesses_stations_k3=>?_)
       ·as_aux_lemma =>
         unfold delay_accesses_stations_k3 at h
         refine AW.ops ?_
         obtain ⟨c16,h⟩:=ck_some.1 h
         refine zA [(0,.sl (.sl (.pair (.int .i64) .bool)) x0),(3,.own 36),(4,.int .i64 st1.2),(5,.sl (.pair (.int .i64) .bool) (x0.getD st1.2.toNat [])),(9,.sl (.sl (.pair (.int .i64) .bool)) x0),(10,.int .i64 (x0.length:Int)),(11,.int .i64 st1.2),(17,.int .i64 ((x0.getD st1.2.toNat []).length:Int)),(18,.int .i64 (st2.2+1))] [(36,.arr 35 Y0 b3)] ?_
         obtain rfl:=Option.some.inj h
         exact ⟨_,rfl,zL [] [] []⟩
       ·refine AW.seq ?_
        refine AW.block ?_
        refine zo ?_
        refine zB [(0,.sl (.sl (.pair (.int .i64) .bool)) x0),(3,.own 36),(4,.int .i64 st1.2),(5,.sl (.pair (.int .i64) .bool) (x0.getD st1.2.toNat [])),(6,.int .i64 st2.2),(9,.sl (.sl (.pair (.int .i64) .bool)) x0),(10,.int .i64 (x0.length:Int)),(11,.int .i64 st1.2),(17,.int .i64 ((x0.getD st1.2.toNat []).length:Int)),(18,.int .i64 st2.2)] [(36,.arr 35 Y0 st2.1)] ?_
        refine zo ?_
        refine zB [(0,.sl (.sl (.pair (.int .i64) .bool)) x0),(3,.own 36),(4,.int .i64 st1.2),(5,.sl (.pair (.int .i64) .bool) (x0.getD st1.2.toNat [])),(6,.int .i64 st2.2),(9,.sl (.sl (.pair (.int .i64) .bool)) x0),(10,.int .i64 (x0.length:Int)),(11,.int .i64 st1.2),(17,.int .i64 ((x0.getD st1.2.toNat []).length:Int)),(18,.int .i64 st2.2),(22,.int .i64 ((x0.getD st1.2.toNat []).length:Int)),(23,.int .i64 0)] [(36,.arr 35 Y0 st2.1)] ?_
        refine AW.block ?_
        obtain ⟨rv21,hw17,ho18⟩:=Option.bind_eq_some_iff.1 h
        refine AW.loopO (delay_accesses_stations_b3 x0 st1 st2) (fun st3=>⟨fr [(0,.sl (.sl (.pair (.int .i64) .bool)) x0),(3,.own 36),(4,.int .i64 st1.2),(5,.sl (.pair (.int .i64) .bool) (x0.getD st1.2.toNat [])),(6,.int .i64 st2.2),(9,.sl (.sl (.pair (.int .i64) .bool)) x0),(10,.int .i64 (x0.length:Int)),(11,.int .i64 st1.2),(17,.int .i64 ((x0.getD st1.2.toNat []).length:Int)),(18,.int .i64 st2.2),(22,.int .i64 ((x0.getD st1.2.toNat []).length:Int)),(23,.int .i64 st3.2)],hpGet [(36,.arr 35 Y0 st3.1)],gt⟩) (st2.1,0) hw17 (zL [] [] []) ?_
        as_aux_lemma =>
         intro st3 x20 h hd19
         unfold delay_accesses_stations_b3 at h
         refine zo ?_
         refine zB [(0,.sl (.sl (.pair (.int .i64) .bool)) x0),(3,.own 36),(4,.int .i64 st1.2),(5,.sl (.pair (.int .i64) .bool) (x0.getD st1.2.toNat [])),(6,.int .i64 st2.2),(9,.sl (.sl (.pair (.int .i64) .bool)) x0),(10,.int .i64 (x0.length:Int)),(11,.int .i64 st1.2),(17,.int .i64 ((x0.getD st1.2.toNat []).length:Int)),(18,.int .i64 st2.2),(22,.int .i64 ((x0.getD st1.2.toNat []).length:Int)),(23,.int .i64 st3.2),(24,.bool (decide (st3.2<((x0.getD st1.2.toNat []).length:Int))))] [(36,.arr 35 Y0 st3.1)] ?_
         refine AW.seq ?_
         refine zQ h (fun hb22 h=>?_) (fun hb22 h=>?_)
         ·refine zk ?_
          refine AW.seq ?_
          refine AW.block ?_
          refine zo ?_
          refine zB [(0,.sl (.sl (.pair (.int .i64) .bool)) x0),(3,.own 36),(4,.int .i64 st1.2),(5,.sl (.pair (.int .i64) .bool) (x0.getD st1.2.toNat [])),(6,.int .i64 st2.2),(7,.int .i64 st3.2),(9,.sl (.sl (.pair (.int .i64) .bool)) x0),(10,.int .i64 (x0.length:Int)),(11,.int .i64 st1.2),(17,.int .i64 ((x0.getD st1.2.toNat []).length:Int)),(18,.int .i64 st2.2),(22,.int .i64 ((x0.getD st1.2.toNat []).length:Int)),(23,.int .i64 st3.2)] [(36,.arr 35 Y0 st3.1)] ?_
          refine zo ?_
          refine zS 5 [(0,.sl (.sl (.pair (.int .i64) .bool)) x0),(3,.own 36),(4,.int .i64 st1.2),(5,.sl (.pair (.int .i64) .bool) (x0.getD st1.2.toNat [])),(6,.int .i64 st2.2),(8,.bp 8 0),(9,.sl (.sl (.pair (.int .i64) .bool)) x0),(10,.int .i64 (x0.length:Int)),(11,.int .i64 st1.2),(17,.int .i64 ((x0.getD st1.2.toNat []).length:Int)),(18,.int .i64 st2.2),(22,.int .i64 ((x0.getD st1.2.toNat []).length:Int)),(23,.int .i64 st3.2),(29,.agg [.int .i64 st1.2,.int .i64 st2.2,.int .i64 st3.2])] [(8,.box 35 [.int .i64 0,.int .i64 0,.int .i64 0]),(36,.arr 35 Y0 st3.1)] ?_
          refine zB [(0,.sl (.sl (.pair (.int .i64) .bool)) x0),(3,.own 36),(4,.int .i64 st1.2),(5,.sl (.pair (.int .i64) .bool) (x0.getD st1.2.toNat [])),(6,.int .i64 st2.2),(8,.bp 8 0),(9,.sl (.sl (.pair (.int .i64) .bool)) x0),(10,.int .i64 (x0.length:Int)),(11,.int .i64 st1.2),(17,.int .i64 ((x0.getD st1.2.toNat []).length:Int)),(18,.int .i64 st2.2),(22,.int .i64 ((x0.getD st1.2.toNat []).length:Int)),(23,.int .i64 st3.2)] [(8,.box 35 [.int .i64 st1.2,.int .i64 st2.2,.int .i64 st3.2]),(36,.arr 35 Y0 st3.1)] ?_
          refine zo ?_
          refine zS 2 [(0,.sl (.sl (.pair (.int .i64) .bool)) x0),(3,.own 36),(4,.int .i64 st1.2),(5,.sl (.pair (.int .i64) .bool) (x0.getD st1.2.toNat [])),(6,.int .i64 st2.2),(8,.bp 8 0),(9,.sl (.sl (.pair (.int .i64) .bool)) x0),(10,.int .i64 (x0.length:Int)),(11,.int .i64 st1.2),(17,.int .i64 ((x0.getD st1.2.toNat []).length:Int)),(18,.int .i64 st2.2),(22,.int .i64 ((x0.getD st1.2.toNat []).length:Int)),(23,.int .i64 st3.2),(30,.sl (.sl (.pair (.int .i64) .bool)) x0),(31,.agg [.int .i64 st1.2,.int .i64 st2.2,.int .i64 st3.2])] [(8,.box 35 [.int .i64 st1.2,.int .i64 st2.2,.int .i64 st3.2]),(36,.arr 35 Y0 st3.1)] ?_
          obtain ⟨v0,hv23,h⟩:=Option.bind_eq_some_iff.1 h
          refine zC [] [] (hc_delay_accesses_isStation x0 (st1.2,st2.2,st3.2) hv23) [(0,.sl (.sl (.pair (.int .i64) .bool)) x0),(3,.own 36),(4,.int .i64 st1.2),(5,.sl (.pair (.int .i64) .bool) (x0.getD st1.2.toNat [])),(6,.int .i64 st2.2),(8,.bp 8 0),(9,.sl (.sl (.pair (.int .i64) .bool)) x0),(10,.int .i64 (x0.length:Int)),(11,.int .i64 st1.2),(17,.int .i64 ((x0.getD st1.2.toNat []).length:Int)),(18,.int .i64 st2.2),(22,.int .i64 ((x0.getD st1.2.toNat []).length:Int)),(23,.int .i64 st3.2),(32,.bool v0)] [(8,.box 35 [.int .i64 st1.2,.int .i64 st2.2,.int .i64 st3.2]),(36,.arr 35 Y0 st3.1)] ?_
          refine zB [(0,.sl (.sl (.pair (.int .i64) .bool)) x0),(3,.own 36),(4,.int .i64 st1.2),(5,.sl (.pair (.int .i64) .bool) (x0.getD st1.2.toNat [])),(6,.int .i64 st2.2),(8,.bp 8 0),(9,.sl (.sl (.pair (.int .i64) .bool)) x0),(10,.int .i64 (x0.length:Int)),(11,.int .i64 st1.2),(17,.int .i64 ((x0.getD st1.2.toNat []).length:Int)),(18,.int .i64 st2.2),(22,.int .i64 ((x0.getD st1.2.toNat []).length:Int)),(23,.int .i64 st3.2),(32,.bool v0)] [(8,.box 35 [.int .i64 st1.2,.int .i64 st2.2,.int .i64 st3.2]),(36,.arr 35 Y0 st3.1)] ?_
          refine zQ h (fun hb24 h=>?_) (fun hb24 h=>?_)
          ·refine AW.ops ?_
           obtain ⟨c25,h⟩:=ck_some.1 h
           refine zA [(0,.sl (.sl (.pair (.int .i64) .bool)) x0),(3,.own 36),(4,.int .i64 st1.2),(5,.sl (.pair (.int .i64) .bool) (x0.getD st1.2.toNat [])),(6,.int .i64 st2.2),(9,.sl (.sl (.pair (.int .i64) .bool)) x0),(10,.int .i64 (x0.length:Int)),(11,.int .i64 st1.2),(17,.int .i64 ((x0.getD st1.2.toNat []).length:Int)),(18,.int .i64 st2.2),(22,.int .i64 ((x0.getD st1.2.toNat []).length:Int)),(23,.int .i64 st3.2)] [(36,.arr 35 Y0 (st3.1++[(st1.2,st2.2,st3.2)]))] ?_
           refine ablock_n ?_
           refine athen_n ?_
           refine AW.ops ?_
           obtain ⟨c26,h⟩:=ck_some.1 h
           refine zA [(0,.sl (.sl (.pair (.int .i64) .bool)) x0),(3,.own 36),(4,.int .i64 st1.2),(5,.sl (.pair (.int .i64) .bool) (x0.getD st1.2.toNat [])),(6,.int .i64 st2.2),(9,.sl (.sl (.pair (.int .i64) .bool)) x0),(10,.int .i64 (x0.length:Int)),(11,.int .i64 st1.2),(17,.int .i64 ((x0.getD st1.2.toNat []).length:Int)),(18,.int .i64 st2.2),(22,.int .i64 ((x0.getD st1.2.toNat []).length:Int)),(23,.int .i64 (st3.2+1))] [(36,.arr 35 Y0 (st3.1++[(st1.2,st2.2,st3.2)]))] ?_
           obtain rfl:=Option.some.inj h
           exact ⟨_,rfl,zL [] [] []⟩
          ·refine zm ?_
           refine athen_n ?_
           refine AW.ops ?_
           obtain ⟨c27,h⟩:=ck_some.1 h
           refine zA [(0,.sl (.sl (.pair (.int .i64) .bool)) x0),(3,.own 36),(4,.int .i64 st1.2),(5,.sl (.pair (.int .i64) .bool) (x0.getD st1.2.toNat [])),(6,.int .i64 st2.2),(9,.sl (.sl (.pair (.int .i64) .bool)) x0),(10,.int .i64 (x0.length:Int)),(11,.int .i64 st1.2),(17,.int .i64 ((x0.getD st1.2.toNat []).length:Int)),(18,.int .i64 st2.2),(22,.int .i64 ((x0.getD st1.2.toNat []).length:Int)),(23,.int .i64 (st3.2+1))] [(36,.arr 35 Y0 st3.1)] ?_
           obtain rfl:=Option.some.inj h
           exact ⟨_,rfl,zL [] [] []⟩
         ·refine AW.exit ?_
          refine athen_e ?_
          obtain rfl:=Option.some.inj h
          rw [← hd19 _ rfl] at ho18
          have h:=ho18
          refine athen_e ?_
          refine ablock_s ?_
          refine ablock_n ?_
          refine athen_n ?_
          exact AW.weaken (zL [] [] []) (hk_delay_accesses_stations_k3 _ h)
      ·refine AW.exit ?_
       refine athen_e ?_
       obtain rfl:=Option.some.inj h
       rw [← hd12 _ rfl] at ho11
       have h:=ho11
       refine athen_e ?_
       refine ablock_s ?_
       refine ablock_n ?_
       refine athen_n ?_
       exact AW.weaken (zL [] [] []) (hk_delay_accesses_stations_k2 _ h)
   ·refine AW.exit ?_
    refine athen_e ?_
    obtain rfl:=Option.some.inj h
    rw [← hd3 _ rfl] at ho2
    have h:=ho2
    refine athen_e ?_
    refine ablock_s ?_
    refine athen_n ?_
    exact AW.weaken (zL [] [] []) (hk_delay_accesses_stations_k1 _ h)
theorem hc_delay_accesses_isClosed_1 (s:Int×Int×Int) {r:Unit} (h:delay_accesses_isClosed_1 s=some r):HC Try.prog 143 [] [.agg [.int .i64 s.1,.int .i64 s.2.1,.int .i64 s.2.2]] [] (.bool (!(decide (s.2.1=s.2.2)))):=by
 unfold delay_accesses_isClosed_1 at h
 refine zH Try.func143 [.tmp 2] 6 ?_
 refine zo ?_
 refine zB [(1,.bp 1 0)] [(1,.box 35 [.int .i64 s.1,.int .i64 s.2.1,.int .i64 s.2.2])] ?_
 refine zo ?_
 refine zS 1 [(3,.agg [.int .i64 s.1,.int .i64 s.2.1,.int .i64 s.2.2])] [] ?_
 obtain ⟨v0,hv1,h⟩:=Option.bind_eq_some_iff.1 h
 refine zC [] [] (hc_delay_isOne s hv1) [(4,.bool (decide (s.2.1=s.2.2)))] [] ?_
 refine zB [(2,.bool (!(decide (s.2.1=s.2.2))))] [] ?_
 refine AW.ret ?_
 obtain rfl:=Option.some.inj h
 exact zR [] [] []
theorem hc_slices_IndexFunc_3 (s:List (Int×Int×Int)) {r:Int} (h:slices_IndexFunc_3 s=some r):HC Try.prog 116 [] [.sl Y0 s,.fn (.func 143) [] []] [] (.int .i64 r):=by
 unfold slices_IndexFunc_3 at h
 refine zH Try.func116 [.tmp 4] 19 ?_
 refine zo ?_
 refine zB [(0,.sl Y0 s),(1,.fn (.func 143) [] [])] [] ?_
 refine AW.have1 (fun _:Unit=>slices_IndexFunc_3_k1=some r) (fun _=>⟨fr [],hpGet [],gt⟩) (fun _ h=>?_) (fun hk_slices_IndexFunc_3_k1=>?_)
 ·as_aux_lemma =>
   unfold slices_IndexFunc_3_k1 at h
   refine zo ?_
   refine zB [(4,.int .i64 (-1))] [] ?_
   refine AW.ret ?_
   obtain rfl:=Option.some.inj h
   exact zR [] [] []
 ·refine AW.seq ?_
  refine zo ?_
  refine zB [(0,.sl Y0 s),(1,.fn (.func 143) [] []),(7,.int .i64 (s.length:Int)),(8,.int .i64 0)] [] ?_
  refine AW.block ?_
  obtain ⟨rv5,hw1,ho2⟩:=Option.bind_eq_some_iff.1 h
  refine AW.loopO (slices_IndexFunc_3_b1 s) (fun st1=>⟨fr [(0,.sl Y0 s),(1,.fn (.func 143) [] []),(7,.int .i64 (s.length:Int)),(8,.int .i64 st1)],hpGet [],gt⟩) 0 hw1 (zL [] [] []) ?_
  as_aux_lemma =>
   intro st1 x4 h hd3
   unfold slices_IndexFunc_3_b1 at h
   refine zo ?_
   refine zB [(0,.sl Y0 s),(1,.fn (.func 143) [] []),(7,.int .i64 (s.length:Int)),(8,.int .i64 st1),(9,.bool (decide (st1<(s.length:Int))))] [] ?_
   refine AW.seq ?_
   refine zQ h (fun hb6 h=>?_) (fun hb6 h=>?_)
   ·refine zk ?_
    refine AW.seq ?_
    refine AW.block ?_
    refine zo ?_
    refine zB [(0,.sl Y0 s),(1,.fn (.func 143) [] []),(5,.int .i64 st1),(7,.int .i64 (s.length:Int)),(8,.int .i64 st1)] [] ?_
    refine zo ?_
    obtain ⟨c7,h⟩:=ck_some.1 h
    obtain ⟨c8,h⟩:=ck_some.1 h
    refine zS 5 [(0,.sl Y0 s),(1,.fn (.func 143) [] []),(5,.int .i64 st1),(7,.int .i64 (s.length:Int)),(8,.int .i64 st1),(11,.fn (.func 143) [] []),(15,.agg [.int .i64 (s.getD st1.toNat (0,0,0)).1,.int .i64 (s.getD st1.toNat (0,0,0)).2.1,.int .i64 (s.getD st1.toNat (0,0,0)).2.2])] [] ?_
    obtain ⟨v0,hv9,h⟩:=Option.bind_eq_some_iff.1 h
    refine zC [] [] (hc_delay_accesses_isClosed_1 (s.getD st1.toNat (0,0,0)) hv9) [(0,.sl Y0 s),(1,.fn (.func 143) [] []),(5,.int .i64 st1),(7,.int .i64 (s.length:Int)),(8,.int .i64 st1),(16,.bool (!(decide ((s.getD st1.toNat (0,0,0)).2.1=(s.getD st1.toNat (0,0,0)).2.2))))] [] ?_
    refine zB [(0,.sl Y0 s),(1,.fn (.func 143) [] []),(5,.int .i64 st1),(7,.int .i64 (s.length:Int)),(8,.int .i64 st1),(16,.bool (!(decide ((s.getD st1.toNat (0,0,0)).2.1=(s.getD st1.toNat (0,0,0)).2.2))))] [] ?_
    refine zQ h (fun hb10 h=>?_) (fun hb10 h=>?_)
    ·refine zo ?_
     refine zB [(4,.int .i64 st1)] [] ?_
     refine AW.ret ?_
     refine ablock_r ?_
     refine athen_r ?_
     obtain rfl:=Option.some.inj h
     rw [← hd3 _ rfl] at ho2
     have h:=ho2
     try simp only at h
     refine athen_r ?_
     refine ablock_r ?_
     refine athen_r ?_
     obtain rfl:=Option.some.inj h
     exact zR [] [] []
    ·refine zm ?_
     refine athen_n ?_
     refine AW.ops ?_
     obtain ⟨c11,h⟩:=ck_some.1 h
     refine zA [(0,.sl Y0 s),(1,.fn (.func 143) [] []),(7,.int .i64 (s.length:Int)),(8,.int .i64 (st1+1))] [] ?_
     obtain rfl:=Option.some.inj h
     exact ⟨_,rfl,zL [] [] []⟩
   ·refine AW.exit ?_
    refine athen_e ?_
    obtain rfl:=Option.some.inj h
    try rw [← hd3 _ rfl] at ho2
    have h:=ho2
    try simp only at h
    refine athen_e ?_
    refine ablock_s ?_
    refine athen_n ?_
    exact AW.weaken (zL [] [] []) (hk_slices_IndexFunc_3_k1 () h)
theorem hc_slices_ContainsFunc_3 (s:List (Int×Int×Int)) {r:Bool} (h:slices_ContainsFunc_3 s=some r):HC Try.prog 122 [] [.sl Y0 s,.fn (.func 143) [] []] [] (.bool r):=by
 unfold slices_ContainsFunc_3 at h
 refine zH Try.func122 [.tmp 4] 9 ?_
 refine zo ?_
 refine zB [(0,.sl Y0 s),(1,.fn (.func 143) [] [])] [] ?_
 refine zo ?_
 refine zS 2 [(5,.sl Y0 s),(6,.fn (.func 143) [] [])] [] ?_
 obtain ⟨v0,hv1,h⟩:=Option.bind_eq_some_iff.1 h
 refine zC [] [] (hc_slices_IndexFunc_3 s hv1) [(7,.int .i64 v0)] [] ?_
 refine zB [(4,.bool (decide (0≤v0)))] [] ?_
 refine AW.ret ?_
 obtain rfl:=Option.some.inj h
 exact zR [] [] []
theorem hc_delay_accesses_conflict (x0:List (List (Int×Bool))) (t:Int) (a:Int) (u:Int) (b:Int) {r:Bool} (h:delay_accesses_conflict x0 t a u b=some r):HC Try.prog 63 [] [.sl (.sl (.pair (.int .i64) .bool)) x0,.int .i64 t,.int .i64 a,.int .i64 u,.int .i64 b] [] (.bool r):=by
 unfold delay_accesses_conflict at h
 refine zH Try.func63 [.tmp 10] 45 ?_
 refine zo ?_
 refine zB [(0,.sl (.sl (.pair (.int .i64) .bool)) x0),(1,.int .i64 t),(2,.int .i64 a),(3,.int .i64 u),(4,.int .i64 b)] [] ?_
 refine AW.seq ?_
 refine AW.draw tab_ok mixed_ok [(14,[11]),(15,[12]),(16,[11]),(17,[12])] [(0,[]),(1,[]),(2,[]),(3,[]),(4,[]),(5,[]),(6,[]),(7,[]),(8,[]),(9,[]),(10,[]),(11,[]),(12,[]),(13,[]),(14,[11]),(15,[12]),(100016,[]),(100017,[])] (by decide) (lex_fast (by kernel_rfl)) ?_
 as_aux_lemma =>
  obtain ⟨c2,h⟩:=ck_some.1 h
  obtain ⟨c3,h⟩:=ck_some.1 h
  obtain ⟨c4,h⟩:=ck_some.1 h
  obtain ⟨c5,h⟩:=ck_some.1 h
  refine adops_cut 6 (fun K' hK1=>?_)
  try dsimp only [List.drop_succ_cons,List.drop_zero,List.take_succ_cons,List.take_zero]
  simp only [go_sem]
  repeat with_reducible refine zN ?_
  refine hK1 _ ?_
  as_aux_lemma =>
   obtain ⟨c7,h⟩:=ck_some.1 h
   obtain ⟨c8,h⟩:=ck_some.1 h
   refine adops_cut 6 (fun K' hK6=>?_)
   try dsimp only [List.drop_succ_cons,List.drop_zero,List.take_succ_cons,List.take_zero]
   simp only [go_sem]
   repeat with_reducible refine zN ?_
   refine hK6 _ ?_
   as_aux_lemma =>
    obtain ⟨c10,h⟩:=ck_some.1 h
    obtain ⟨c11,h⟩:=ck_some.1 h
    refine adops_cut 6 (fun K' hK9=>?_)
    try dsimp only [List.drop_succ_cons,List.drop_zero,List.take_succ_cons,List.take_zero]
    simp only [go_sem]
    repeat with_reducible refine zN ?_
    refine hK9 _ ?_
    refine adops_nil ?_
    refine athen_n ?_
    refine zV [(1,.int .i64 t),(3,.int .i64 u),(11,.bp 11 0),(12,.bp 12 0)] [(11,.box 76 [.int .i64 ((x0.getD t.toNat []).getD a.toNat (0,false)).1,.bool ((x0.getD t.toNat []).getD a.toNat (0,false)).2]),(12,.box 76 [.int .i64 ((x0.getD u.toNat []).getD b.toNat (0,false)).1,.bool ((x0.getD u.toNat []).getD b.toNat (0,false)).2])] gt ?_
    as_aux_lemma =>
     refine zo ?_
     refine zS 4 [(11,.bp 11 0),(12,.bp 12 0),(30,.bool (!(decide (t=u))))] [(11,.box 76 [.int .i64 ((x0.getD t.toNat []).getD a.toNat (0,false)).1,.bool ((x0.getD t.toNat []).getD a.toNat (0,false)).2]),(12,.box 76 [.int .i64 ((x0.getD u.toNat []).getD b.toNat (0,false)).1,.bool ((x0.getD u.toNat []).getD b.toNat (0,false)).2])] ?_
     rcases zI h with ⟨hb12,h⟩|⟨hb12,h⟩
     ·refine zS 5 [(11,.bp 11 0),(12,.bp 12 0),(30,.bool true),(35,.bool (decide (((x0.getD t.toNat []).getD a.toNat (0,false)).1=((x0.getD u.toNat []).getD b.toNat (0,false)).1)))] [(11,.box 76 [.int .i64 ((x0.getD t.toNat []).getD a.toNat (0,false)).1,.bool ((x0.getD t.toNat []).getD a.toNat (0,false)).2]),(12,.box 76 [.int .i64 ((x0.getD u.toNat []).getD b.toNat (0,false)).1,.bool ((x0.getD u.toNat []).getD b.toNat (0,false)).2])] ?_
      refine zS 2 [(11,.bp 11 0),(12,.bp 12 0),(37,.bool (decide (((x0.getD t.toNat []).getD a.toNat (0,false)).1=((x0.getD u.toNat []).getD b.toNat (0,false)).1)))] [(11,.box 76 [.int .i64 ((x0.getD t.toNat []).getD a.toNat (0,false)).1,.bool ((x0.getD t.toNat []).getD a.toNat (0,false)).2]),(12,.box 76 [.int .i64 ((x0.getD u.toNat []).getD b.toNat (0,false)).1,.bool ((x0.getD u.toNat []).getD b.toNat (0,false)).2])] ?_
      rcases zI h with ⟨hb13,h⟩|⟨hb13,h⟩
      ·refine zS 3 [(12,.bp 12 0),(37,.bool true),(40,.bool ((x0.getD t.toNat []).getD a.toNat (0,false)).2)] [(12,.box 76 [.int .i64 ((x0.getD u.toNat []).getD b.toNat (0,false)).1,.bool ((x0.getD u.toNat []).getD b.toNat (0,false)).2])] ?_
       rcases zI h with ⟨hb14,h⟩|⟨hb14,h⟩
       ·refine zB [(10,.bool true)] [] ?_
        refine AW.ret ?_
        obtain rfl:=Option.some.inj h
        exact zR [] [] []
       ·refine zB [(10,.bool ((x0.getD u.toNat []).getD b.toNat (0,false)).2)] [] ?_
        refine AW.ret ?_
        obtain rfl:=Option.some.inj h
        exact zR [] [] []
      ·refine zS 4 [(37,.bool false),(40,.cv (undef)),(41,.cv (undef))] [] ?_
       refine zB [(10,.bool false)] [] ?_
       refine AW.ret ?_
       obtain rfl:=Option.some.inj h
       exact zR [] [] []
     ·refine zS 4 [(11,.bp 11 0),(12,.bp 12 0),(30,.bool false),(32,.cv (undef)),(34,.cv (undef))] [(11,.box 76 [.int .i64 ((x0.getD t.toNat []).getD a.toNat (0,false)).1,.bool ((x0.getD t.toNat []).getD a.toNat (0,false)).2]),(12,.box 76 [.int .i64 ((x0.getD u.toNat []).getD b.toNat (0,false)).1,.bool ((x0.getD u.toNat []).getD b.toNat (0,false)).2])] ?_
      refine zS 5 [(12,.bp 12 0),(37,.bool false),(39,.cv (undef))] [(12,.box 76 [.int .i64 ((x0.getD u.toNat []).getD b.toNat (0,false)).1,.bool ((x0.getD u.toNat []).getD b.toNat (0,false)).2])] ?_
      refine zS 4 [(37,.bool false),(43,.cv (undef))] [] ?_
      refine zB [(10,.bool false)] [] ?_
      refine AW.ret ?_
      obtain rfl:=Option.some.inj h
      exact zR [] [] []
theorem hc_delay_accesses_meets (x0:List (List (Int×Bool))) (s:Int×Int×Int) (next0:Int×Int×Int) {r:Bool} (h:delay_accesses_meets x0 s next0=some r):HC Try.prog 142 [] [.sl (.sl (.pair (.int .i64) .bool)) x0,.agg [.int .i64 s.1,.int .i64 s.2.1,.int .i64 s.2.2],.agg [.int .i64 next0.1,.int .i64 next0.2.1,.int .i64 next0.2.2]] [] (.bool r):=by
 unfold delay_accesses_meets at h
 refine zH Try.func142 [.tmp 6] 17 ?_
 refine zo ?_
 refine zB [(0,.sl (.sl (.pair (.int .i64) .bool)) x0),(4,.bp 4 0),(5,.bp 5 0)] [(4,.box 35 [.int .i64 s.1,.int .i64 s.2.1,.int .i64 s.2.2]),(5,.box 35 [.int .i64 next0.1,.int .i64 next0.2.1,.int .i64 next0.2.2])] ?_
 refine zo ?_
 refine zS 5 [(5,.bp 5 0),(7,.sl (.sl (.pair (.int .i64) .bool)) x0),(9,.int .i64 s.1),(11,.int .i64 s.2.2)] [(5,.box 35 [.int .i64 next0.1,.int .i64 next0.2.1,.int .i64 next0.2.2])] ?_
 refine zS 4 [(7,.sl (.sl (.pair (.int .i64) .bool)) x0),(9,.int .i64 s.1),(11,.int .i64 s.2.2),(13,.int .i64 next0.1),(15,.int .i64 next0.2.1)] [] ?_
 obtain ⟨v0,hv1,h⟩:=Option.bind_eq_some_iff.1 h
 refine zC [] [] (hc_delay_accesses_conflict x0 s.1 s.2.2 next0.1 next0.2.1 hv1) [(16,.bool v0)] [] ?_
 refine zB [(6,.bool v0)] [] ?_
 refine AW.ret ?_
 obtain rfl:=Option.some.inj h
 exact zR [] [] []
theorem hc_delay_accesses_isClosed (x0:List (List (Int×Bool))) (list:List (Int×Int×Int)) {r:Bool} (h:delay_accesses_isClosed x0 list=some r):HC Try.prog 113 [] [.sl (.sl (.pair (.int .i64) .bool)) x0,.sl Y0 list] [] (.bool r):=by
 unfold delay_accesses_isClosed at h
 refine zH Try.func113 [.tmp 4] 22 ?_
 refine zo ?_
 refine zB [(0,.sl (.sl (.pair (.int .i64) .bool)) x0),(1,.sl Y0 list)] [] ?_
 refine zo ?_
 refine zB [(0,.sl (.sl (.pair (.int .i64) .bool)) x0),(1,.sl Y0 list),(5,.fn (.func 143) [] [])] [] ?_
 refine AW.seq ?_
 refine AW.draw tab_ok mixed_ok [] [] (by decide) (lex_fast (by kernel_rfl)) ?_
 as_aux_lemma =>
  refine adops_cut 2 (fun K' hK1=>?_)
  try dsimp only [List.drop_succ_cons,List.drop_zero,List.take_succ_cons,List.take_zero]
  simp only [go_sem]
  repeat with_reducible refine zN ?_
  refine hK1 _ ?_
  as_aux_lemma =>
   obtain ⟨v0,hv2,h⟩:=Option.bind_eq_some_iff.1 h
   refine adops.call (by first|trivial|rfl) rfl rfl rfl (fun _ h=>h) [] [] (hc_slices_ContainsFunc_3 list hv2) rfl (by (simp only [go_sem])<;>(with_reducible and_intros)<;>first|assumption|rfl|omega|(unfold maxLen; omega)) (by (simp only [go_sem])<;>(with_reducible and_intros)<;>first|assumption|rfl|omega|(unfold maxLen; omega)) rfl ?_
   refine adops_cut 1 (fun K' hK3=>?_)
   try dsimp only [List.drop_succ_cons,List.drop_zero,List.take_succ_cons,List.take_zero]
   simp only [go_sem]
   repeat with_reducible refine zN ?_
   refine hK3 _ ?_
   as_aux_lemma =>
    rcases zI h with ⟨hb4,h⟩|⟨hb4,h⟩
    ·simp only [hb4]
     as_aux_lemma =>
      obtain ⟨c6,h⟩:=ck_some.1 h
      obtain ⟨c7,h⟩:=ck_some.1 h
      obtain ⟨c8,h⟩:=ck_some.1 h
      refine adops_cut 6 (fun K' hK5=>?_)
      try dsimp only [List.drop_succ_cons,List.drop_zero,List.take_succ_cons,List.take_zero]
      simp only [go_sem,hb4]
      repeat with_reducible refine zN ?_
      refine hK5 _ ?_
      as_aux_lemma =>
       obtain ⟨c10,h⟩:=ck_some.1 h
       refine adops_cut 4 (fun K' hK9=>?_)
       try dsimp only [List.drop_succ_cons,List.drop_zero,List.take_succ_cons,List.take_zero]
       simp only [go_sem,hb4]
       repeat with_reducible refine zN ?_
       refine hK9 _ ?_
       as_aux_lemma =>
        obtain ⟨v0_2,hv11,h⟩:=Option.bind_eq_some_iff.1 h
        refine adops.call (by first|trivial|rfl) rfl rfl rfl (fun _ h=>⟨fun _=>h,fun hn=>absurd rfl hn⟩) [] [] (hc_delay_accesses_meets x0 (list.getD ((list.length:Int) - 1).toNat (0,0,0)) (list.getD 0 (0,0,0)) hv11) rfl (by (simp only [go_sem,hb4])<;>(with_reducible and_intros)<;>first|assumption|rfl|omega|(unfold maxLen; omega)) (by (simp only [go_sem,hb4])<;>(with_reducible and_intros)<;>first|assumption|rfl|omega|(unfold maxLen; omega)) rfl ?_
        refine adops_cut 2 (fun K' hK12=>?_)
        try dsimp only [List.drop_succ_cons,List.drop_zero,List.take_succ_cons,List.take_zero]
        simp only [go_sem,hb4]
        repeat with_reducible refine zN ?_
        refine hK12 _ ?_
        refine adops_nil ?_
        refine athen_n ?_
        refine zV [(4,.bool v0_2)] [] gt ?_
        as_aux_lemma =>
         refine AW.ret ?_
         obtain rfl:=Option.some.inj h
         exact zR [] [] []
    ·simp only [hb4]
     as_aux_lemma =>
      refine adops_cut 4 (fun K' hK13=>?_)
      try dsimp only [List.drop_succ_cons,List.drop_zero,List.take_succ_cons,List.take_zero]
      simp only [go_sem,hb4]
      repeat with_reducible refine zN ?_
      refine hK13 _ ?_
      as_aux_lemma =>
       refine adops_cut 4 (fun K' hK14=>?_)
       try dsimp only [List.drop_succ_cons,List.drop_zero,List.take_succ_cons,List.take_zero]
       simp only [go_sem,hb4]
       repeat with_reducible refine zN ?_
       refine hK14 _ ?_
       as_aux_lemma =>
        refine adops_cut 5 (fun K' hK15=>?_)
        try dsimp only [List.drop_succ_cons,List.drop_zero,List.take_succ_cons,List.take_zero]
        simp only [go_sem,hb4]
        repeat with_reducible refine zN ?_
        refine hK15 _ ?_
        refine adops_nil ?_
        refine athen_n ?_
        refine zV [(4,.bool false)] [] gt ?_
        as_aux_lemma =>
         refine AW.ret ?_
         obtain rfl:=Option.some.inj h
         exact zR [] [] []
theorem hc_delay_accesses_goesOn_1 (other:Int×Int×Int) (a1:Int×Int×Int) {r:Unit} (h:delay_accesses_goesOn_1 other a1=some r):HC Try.prog 141 [(1000,.box 35 [.int .i64 a1.1,.int .i64 a1.2.1,.int .i64 a1.2.2])] [.agg [.int .i64 other.1,.int .i64 other.2.1,.int .i64 other.2.2],.bp 1000 0] [(1000,.box 35 [.int .i64 a1.1,.int .i64 a1.2.1,.int .i64 a1.2.2])] (.bool (decide (other.1=a1.1))):=by
 unfold delay_accesses_goesOn_1 at h
 refine zH Try.func141 [.tmp 3] 9 ?_
 refine zo ?_
 refine zB [(1,.bp 1000 0),(2,.bp 2 0)] [(2,.box 35 [.int .i64 other.1,.int .i64 other.2.1,.int .i64 other.2.2]),(1000,.box 35 [.int .i64 a1.1,.int .i64 a1.2.1,.int .i64 a1.2.2])] ?_
 refine zo ?_
 refine zS 5 [(8,.bool (decide (other.1=a1.1)))] [(1000,.box 35 [.int .i64 a1.1,.int .i64 a1.2.1,.int .i64 a1.2.2])] ?_
 refine zB [(3,.bool (decide (other.1=a1.1)))] [(1000,.box 35 [.int .i64 a1.1,.int .i64 a1.2.1,.int .i64 a1.2.2])] ?_
 refine AW.ret ?_
 obtain rfl:=Option.some.inj h
 exact zR [] [] []
theorem hc_slices_IndexFunc_4 (s:List (Int×Int×Int)) (c0:Int×Int×Int) {r:Int} (h:slices_IndexFunc_4 s c0=some r):HC Try.prog 116 [(1000,.box 35 [.int .i64 c0.1,.int .i64 c0.2.1,.int .i64 c0.2.2])] [.sl Y0 s,.fn (.func 141) [] [.bp 1000 0]] [(1000,.box 35 [.int .i64 c0.1,.int .i64 c0.2.1,.int .i64 c0.2.2])] (.int .i64 r):=by
 unfold slices_IndexFunc_4 at h
 refine zH Try.func116 [.tmp 4] 19 ?_
 refine zo ?_
 refine zB [(0,.sl Y0 s),(1,.fn (.func 141) [] [.bp 1000 0])] [(1000,.box 35 [.int .i64 c0.1,.int .i64 c0.2.1,.int .i64 c0.2.2])] ?_
 refine AW.have1 (fun _:Unit=>slices_IndexFunc_4_k1=some r) (fun _=>⟨fr [],hpGet [(1000,.box 35 [.int .i64 c0.1,.int .i64 c0.2.1,.int .i64 c0.2.2])],gt⟩) (fun _ h=>?_) (fun hk_slices_IndexFunc_4_k1=>?_)
 ·as_aux_lemma =>
   unfold slices_IndexFunc_4_k1 at h
   refine zo ?_
   refine zB [(4,.int .i64 (-1))] [(1000,.box 35 [.int .i64 c0.1,.int .i64 c0.2.1,.int .i64 c0.2.2])] ?_
   refine AW.ret ?_
   obtain rfl:=Option.some.inj h
   exact zR [] [] []
 ·refine AW.seq ?_
  refine zo ?_
  refine zB [(0,.sl Y0 s),(1,.fn (.func 141) [] [.bp 1000 0]),(7,.int .i64 (s.length:Int)),(8,.int .i64 0)] [(1000,.box 35 [.int .i64 c0.1,.int .i64 c0.2.1,.int .i64 c0.2.2])] ?_
  refine AW.block ?_
  obtain ⟨rv5,hw1,ho2⟩:=Option.bind_eq_some_iff.1 h
  refine AW.loopO (slices_IndexFunc_4_b1 s c0) (fun st1=>⟨fr [(0,.sl Y0 s),(1,.fn (.func 141) [] [.bp 1000 0]),(7,.int .i64 (s.length:Int)),(8,.int .i64 st1)],hpGet [(1000,.box 35 [.int .i64 c0.1,.int .i64 c0.2.1,.int .i64 c0.2.2])],gt⟩) 0 hw1 (zL [] [] []) ?_
  as_aux_lemma =>
   intro st1 x4 h hd3
   unfold slices_IndexFunc_4_b1 at h
   refine zo ?_
   refine zB [(0,.sl Y0 s),(1,.fn (.func 141) [] [.bp 1000 0]),(7,.int .i64 (s.length:Int)),(8,.int .i64 st1),(9,.bool (decide (st1<(s.length:Int))))] [(1000,.box 35 [.int .i64 c0.1,.int .i64 c0.2.1,.int .i64 c0.2.2])] ?_
   refine AW.seq ?_
   refine zQ h (fun hb6 h=>?_) (fun hb6 h=>?_)
   ·refine zk ?_
    refine AW.seq ?_
    refine AW.block ?_
    refine zo ?_
    refine zB [(0,.sl Y0 s),(1,.fn (.func 141) [] [.bp 1000 0]),(5,.int .i64 st1),(7,.int .i64 (s.length:Int)),(8,.int .i64 st1)] [(1000,.box 35 [.int .i64 c0.1,.int .i64 c0.2.1,.int .i64 c0.2.2])] ?_
    refine zo ?_
    obtain ⟨c7,h⟩:=ck_some.1 h
    obtain ⟨c8,h⟩:=ck_some.1 h
    refine zS 5 [(0,.sl Y0 s),(1,.fn (.func 141) [] [.bp 1000 0]),(5,.int .i64 st1),(7,.int .i64 (s.length:Int)),(8,.int .i64 st1),(11,.fn (.func 141) [] [.bp 1000 0]),(15,.agg [.int .i64 (s.getD st1.toNat (0,0,0)).1,.int .i64 (s.getD st1.toNat (0,0,0)).2.1,.int .i64 (s.getD st1.toNat (0,0,0)).2.2])] [(1000,.box 35 [.int .i64 c0.1,.int .i64 c0.2.1,.int .i64 c0.2.2])] ?_
    obtain ⟨v0,hv9,h⟩:=Option.bind_eq_some_iff.1 h
    refine zC [] [(1000,1000)] (hc_delay_accesses_goesOn_1 (s.getD st1.toNat (0,0,0)) c0 hv9) [(0,.sl Y0 s),(1,.fn (.func 141) [] [.bp 1000 0]),(5,.int .i64 st1),(7,.int .i64 (s.length:Int)),(8,.int .i64 st1),(16,.bool (decide ((s.getD st1.toNat (0,0,0)).1=c0.1)))] [(1000,.box 35 [.int .i64 c0.1,.int .i64 c0.2.1,.int .i64 c0.2.2])] ?_
    refine zB [(0,.sl Y0 s),(1,.fn (.func 141) [] [.bp 1000 0]),(5,.int .i64 st1),(7,.int .i64 (s.length:Int)),(8,.int .i64 st1),(16,.bool (decide ((s.getD st1.toNat (0,0,0)).1=c0.1)))] [(1000,.box 35 [.int .i64 c0.1,.int .i64 c0.2.1,.int .i64 c0.2.2])] ?_
    refine zQ h (fun hb10 h=>?_) (fun hb10 h=>?_)
    ·refine zo ?_
     refine zB [(4,.int .i64 st1)] [(1000,.box 35 [.int .i64 c0.1,.int .i64 c0.2.1,.int .i64 c0.2.2])] ?_
     refine AW.ret ?_
     refine ablock_r ?_
     refine athen_r ?_
     obtain rfl:=Option.some.inj h
     rw [← hd3 _ rfl] at ho2
     have h:=ho2
     try simp only at h
     refine athen_r ?_
     refine ablock_r ?_
     refine athen_r ?_
     obtain rfl:=Option.some.inj h
     exact zR [] [] []
    ·refine zm ?_
     refine athen_n ?_
     refine AW.ops ?_
     obtain ⟨c11,h⟩:=ck_some.1 h
     refine zA [(0,.sl Y0 s),(1,.fn (.func 141) [] [.bp 1000 0]),(7,.int .i64 (s.length:Int)),(8,.int .i64 (st1+1))] [(1000,.box 35 [.int .i64 c0.1,.int .i64 c0.2.1,.int .i64 c0.2.2])] ?_
     obtain rfl:=Option.some.inj h
     exact ⟨_,rfl,zL [] [] []⟩
   ·refine AW.exit ?_
    refine athen_e ?_
    obtain rfl:=Option.some.inj h
    try rw [← hd3 _ rfl] at ho2
    have h:=ho2
    try simp only at h
    refine athen_e ?_
    refine ablock_s ?_
    refine athen_n ?_
    exact AW.weaken (zL [] [] []) (hk_slices_IndexFunc_4_k1 () h)
theorem hc_slices_ContainsFunc_4 (s:List (Int×Int×Int)) (c0:Int×Int×Int) {r:Bool} (h:slices_ContainsFunc_4 s c0=some r):HC Try.prog 122 [(1000,.box 35 [.int .i64 c0.1,.int .i64 c0.2.1,.int .i64 c0.2.2])] [.sl Y0 s,.fn (.func 141) [] [.bp 1000 0]] [(1000,.box 35 [.int .i64 c0.1,.int .i64 c0.2.1,.int .i64 c0.2.2])] (.bool r):=by
 unfold slices_ContainsFunc_4 at h
 refine zH Try.func122 [.tmp 4] 9 ?_
 refine zo ?_
 refine zB [(0,.sl Y0 s),(1,.fn (.func 141) [] [.bp 1000 0])] [(1000,.box 35 [.int .i64 c0.1,.int .i64 c0.2.1,.int .i64 c0.2.2])] ?_
 refine zo ?_
 refine zS 2 [(5,.sl Y0 s),(6,.fn (.func 141) [] [.bp 1000 0])] [(1000,.box 35 [.int .i64 c0.1,.int .i64 c0.2.1,.int .i64 c0.2.2])] ?_
 obtain ⟨v0,hv1,h⟩:=Option.bind_eq_some_iff.1 h
 refine zC [] [(1000,1000)] (hc_slices_IndexFunc_4 s c0 hv1) [(7,.int .i64 v0)] [(1000,.box 35 [.int .i64 c0.1,.int .i64 c0.2.1,.int .i64 c0.2.2])] ?_
 refine zB [(4,.bool (decide (0≤v0)))] [(1000,.box 35 [.int .i64 c0.1,.int .i64 c0.2.1,.int .i64 c0.2.2])] ?_
 refine AW.ret ?_
 obtain rfl:=Option.some.inj h
 exact zR [] [] []
theorem hc_delay_accesses_goesOn (x0:List (List (Int×Bool))) (list:List (Int×Int×Int)) (s:Int×Int×Int) {r:Bool} (h:delay_accesses_goesOn x0 list s=some r):HC Try.prog 112 [] [.sl (.sl (.pair (.int .i64) .bool)) x0,.sl Y0 list,.agg [.int .i64 s.1,.int .i64 s.2.1,.int .i64 s.2.2]] [] (.bool r):=by
 unfold delay_accesses_goesOn at h
 refine zH Try.func112 [.tmp 6] 29 ?_
 refine zo ?_
 refine zB [(0,.sl (.sl (.pair (.int .i64) .bool)) x0),(1,.sl Y0 list),(5,.bp 5 0)] [(5,.box 35 [.int .i64 s.1,.int .i64 s.2.1,.int .i64 s.2.2])] ?_
 refine zo ?_
 refine zB [(0,.sl (.sl (.pair (.int .i64) .bool)) x0),(1,.sl Y0 list),(5,.bp 5 0),(7,.fn (.func 141) [] [.bp 5 0])] [(5,.box 35 [.int .i64 s.1,.int .i64 s.2.1,.int .i64 s.2.2])] ?_
 refine AW.seq ?_
 refine AW.draw tab_ok mixed_ok [(6,[5])] [] (by decide) (lex_fast (by kernel_rfl)) ?_
 as_aux_lemma =>
  refine adops_cut 4 (fun K' hK1=>?_)
  try dsimp only [List.drop_succ_cons,List.drop_zero,List.take_succ_cons,List.take_zero]
  simp only [go_sem]
  repeat with_reducible refine zN ?_
  refine hK1 _ ?_
  as_aux_lemma =>
   rcases zI h with ⟨hb2,h⟩|⟨hb2,h⟩
   ·simp only [hb2]
    as_aux_lemma =>
     refine adops_cut 4 (fun K' hK3=>?_)
     try dsimp only [List.drop_succ_cons,List.drop_zero,List.take_succ_cons,List.take_zero]
     simp only [go_sem,hb2]
     repeat with_reducible refine zN ?_
     refine hK3 _ ?_
     as_aux_lemma =>
      refine adops_cut 4 (fun K' hK4=>?_)
      try dsimp only [List.drop_succ_cons,List.drop_zero,List.take_succ_cons,List.take_zero]
      simp only [go_sem,hb2]
      repeat with_reducible refine zN ?_
      refine hK4 _ ?_
      as_aux_lemma =>
       refine adops_cut 4 (fun K' hK5=>?_)
       try dsimp only [List.drop_succ_cons,List.drop_zero,List.take_succ_cons,List.take_zero]
       simp only [go_sem,hb2]
       repeat with_reducible refine zN ?_
       refine hK5 _ ?_
       as_aux_lemma =>
        refine adops_cut 5 (fun K' hK6=>?_)
        try dsimp only [List.drop_succ_cons,List.drop_zero,List.take_succ_cons,List.take_zero]
        simp only [go_sem,hb2]
        repeat with_reducible refine zN ?_
        refine hK6 _ ?_
        refine adops_nil ?_
        refine athen_n ?_
        refine zV [(6,.bool true)] [] gt ?_
        as_aux_lemma =>
         refine AW.ret ?_
         obtain rfl:=Option.some.inj h
         exact zR [] [] []
   ·simp only [hb2]
    as_aux_lemma =>
     refine adops_cut 2 (fun K' hK7=>?_)
     try dsimp only [List.drop_succ_cons,List.drop_zero,List.take_succ_cons,List.take_zero]
     simp only [go_sem,hb2]
     repeat with_reducible refine zN ?_
     refine hK7 _ ?_
     as_aux_lemma =>
      obtain ⟨v0,hv8,h⟩:=Option.bind_eq_some_iff.1 h
      refine adops.call (by first|trivial|rfl) rfl rfl rfl (fun _ h=>⟨fun _=>h,fun hn=>absurd rfl hn⟩) [] [(1000,5)] (hc_slices_ContainsFunc_4 list s hv8) rfl (by (simp only [go_sem,hb2])<;>(with_reducible and_intros)<;>first|assumption|rfl|omega|(unfold maxLen; omega)) (by (simp only [go_sem,hb2])<;>(with_reducible and_intros)<;>first|assumption|rfl|omega|(unfold maxLen; omega)) rfl ?_
      refine adops_cut 2 (fun K' hK9=>?_)
      try dsimp only [List.drop_succ_cons,List.drop_zero,List.take_succ_cons,List.take_zero]
      simp only [go_sem,hb2]
      repeat with_reducible refine zN ?_
      refine hK9 _ ?_
      as_aux_lemma =>
       rcases zI h with ⟨hb10,h⟩|⟨hb10,h⟩
       ·simp only [hb10]
        as_aux_lemma =>
         obtain ⟨c12,h⟩:=ck_some.1 h
         obtain ⟨c13,h⟩:=ck_some.1 h
         obtain ⟨c14,h⟩:=ck_some.1 h
         refine adops_cut 6 (fun K' hK11=>?_)
         try dsimp only [List.drop_succ_cons,List.drop_zero,List.take_succ_cons,List.take_zero]
         simp only [go_sem,hb2,hb10]
         repeat with_reducible refine zN ?_
         refine hK11 _ ?_
         as_aux_lemma =>
          refine adops_cut 2 (fun K' hK15=>?_)
          try dsimp only [List.drop_succ_cons,List.drop_zero,List.take_succ_cons,List.take_zero]
          simp only [go_sem,hb2,hb10]
          repeat with_reducible refine zN ?_
          refine hK15 _ ?_
          as_aux_lemma =>
           obtain ⟨v0_2,hv16,h⟩:=Option.bind_eq_some_iff.1 h
           refine adops.call (by first|trivial|rfl) rfl rfl rfl (fun _ h=>⟨fun _=>h,fun hn=>absurd rfl hn⟩) [] [] (hc_delay_accesses_meets x0 (list.getD ((list.length:Int) - 1).toNat (0,0,0)) s hv16) rfl (by (simp only [go_sem,hb2,hb10])<;>(with_reducible and_intros)<;>first|assumption|rfl|omega|(unfold maxLen; omega)) (by (simp only [go_sem,hb2,hb10])<;>(with_reducible and_intros)<;>first|assumption|rfl|omega|(unfold maxLen; omega)) rfl ?_
           refine adops_cut 3 (fun K' hK17=>?_)
           try dsimp only [List.drop_succ_cons,List.drop_zero,List.take_succ_cons,List.take_zero]
           simp only [go_sem,hb2,hb10]
           repeat with_reducible refine zN ?_
           refine hK17 _ ?_
           refine adops_nil ?_
           refine athen_n ?_
           refine zV [(6,.bool v0_2)] [] gt ?_
           as_aux_lemma =>
            refine AW.ret ?_
            obtain rfl:=Option.some.inj h
            exact zR [] [] []
       ·simp only [hb10]
        as_aux_lemma =>
         refine adops_cut 4 (fun K' hK18=>?_)
         try dsimp only [List.drop_succ_cons,List.drop_zero,List.take_succ_cons,List.take_zero]
         simp only [go_sem,hb2,hb10]
         repeat with_reducible refine zN ?_
         refine hK18 _ ?_
         as_aux_lemma =>
          refine adops_cut 4 (fun K' hK19=>?_)
          try dsimp only [List.drop_succ_cons,List.drop_zero,List.take_succ_cons,List.take_zero]
          simp only [go_sem,hb2,hb10]
          repeat with_reducible refine zN ?_
          refine hK19 _ ?_
          as_aux_lemma =>
           refine adops_cut 4 (fun K' hK20=>?_)
           try dsimp only [List.drop_succ_cons,List.drop_zero,List.take_succ_cons,List.take_zero]
           simp only [go_sem,hb2,hb10]
           repeat with_reducible refine zN ?_
           refine hK20 _ ?_
           refine adops_nil ?_
           refine athen_n ?_
           refine zV [(6,.bool false)] [] gt ?_
           as_aux_lemma =>
            refine AW.ret ?_
            obtain rfl:=Option.some.inj h
            exact zR [] [] []
end Go.Proofs.Ytdicomoggfhbfaa
