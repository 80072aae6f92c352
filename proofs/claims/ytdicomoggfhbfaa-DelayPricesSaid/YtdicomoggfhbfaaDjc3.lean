import Derived.Test.YtdicomoggfhbfaaDlp
import Derived.Test.YtdicomoggfhbfaaShd
import Derived.Test.YtdicomoggfhbfaaAvd
import Derived.Test.YtdicomoggfhbfaaDjc1
import Derived.Test.YtdicomoggfhbfaaDjc2
namespace Go.Proofs.Ytdicomoggfhbfaa
open Go.RowKit
set_option linter.unusedSimpArgs false
set_option linter.unusedVariables false
set_option linter.constructorNameAsVariable false
set_option maxRecDepth 100000
set_option maxHeartbeats 40000000
theorem ic_delay_accesses_circles {S R:Type} (x0:List (List (Int×Bool))) (yl:(List (Int×Int×Int))→S→Option (Step S R)) (s0:S) {r:Sum S R} (h:delay_accesses_circles S R x0 yl s0=some r):IC Try.prog 73 [] [.sl (.sl (.pair (.int .i64) .bool)) x0] [] (fun (y:(List (Int×Int×Int)))=>[.sl Y0 y]) yl s0 r:=by
 unfold delay_accesses_circles at h
 refine IC.of_body Try.func73 rfl (by kernel_rfl) rfl (nt:=55) rfl (by decide) (by simp) ?_
 intro Γ Γx lp hΓ hΓx hY
 simp only [List.cons_append,List.nil_append]
 refine zo ?_
 refine zS 1 [(0,.sl (.sl (.pair (.int .i64) .bool)) x0),(1,.fn (.yield lp) [] []),(10,.sl (.sl (.pair (.int .i64) .bool)) x0)] [] ?_
 obtain ⟨v0,hv1,h⟩:=Option.bind_eq_some_iff.1 h
 refine zC [] [] (hc_delay_accesses_stations x0 hv1) [(0,.sl (.sl (.pair (.int .i64) .bool)) x0),(1,.fn (.yield lp) [] []),(11,.own 21000)] [(21000,.arr 35 Y0 v0)] ?_
 refine zB [(0,.sl (.sl (.pair (.int .i64) .bool)) x0),(1,.fn (.yield lp) [] []),(4,.own 21000)] [(21000,.arr 35 Y0 v0)] ?_
 refine zo ?_
 refine zB [(0,.sl (.sl (.pair (.int .i64) .bool)) x0),(1,.fn (.yield lp) [] []),(4,.own 21000),(5,.own 12)] [(12,.arr 30 (.sl Y0) [[]]),(21000,.arr 35 Y0 v0)] ?_
 refine zo ?_
 refine zB [(0,.sl (.sl (.pair (.int .i64) .bool)) x0),(1,.fn (.yield lp) [] []),(4,.own 21000),(5,.own 12),(6,.int .i64 0)] [(12,.arr 30 (.sl Y0) [[]]),(21000,.arr 35 Y0 v0)] ?_
 refine AW.block ?_
 obtain ⟨rv6,hw2,ho3⟩:=Option.bind_eq_some_iff.1 h
 refine AW.loopO (delay_accesses_circles_b1 S R x0 yl v0) (fun st1=>⟨fr [(0,.sl (.sl (.pair (.int .i64) .bool)) x0),(1,.fn (.yield lp) [] []),(4,.own 21000),(5,.own 12),(6,.int .i64 st1.2.1)],hpGet [(12,.arr 30 (.sl Y0) st1.1),(21000,.arr 35 Y0 v0)],(Γ st1.2.2)⟩) ([[]],0,s0) hw2 (zL [] [] []) ?_
 as_aux_lemma =>
  intro st1 x5 h hd4
  unfold delay_accesses_circles_b1 at h
  refine AW.seq ?_
  refine zo ?_
  refine zB [(0,.sl (.sl (.pair (.int .i64) .bool)) x0),(1,.fn (.yield lp) [] []),(4,.own 21000),(5,.own 12),(6,.int .i64 st1.2.1),(16,.bool (decide (st1.2.1<(st1.1.length:Int))))] [(12,.arr 30 (.sl Y0) st1.1),(21000,.arr 35 Y0 v0)] ?_
  refine zQ h (fun hb7 h=>?_) (fun hb7 h=>?_)
  ·refine zk ?_
   refine AW.have1 (fun b2_2:(List (List (Int×Int×Int)))×S=>delay_accesses_circles_k1 S R st1 b2_2=some x5) (fun b2_2=>⟨fr [(0,.sl (.sl (.pair (.int .i64) .bool)) x0),(1,.fn (.yield lp) [] []),(4,.own 21000),(5,.own 12),(6,.int .i64 st1.2.1)],hpGet [(12,.arr 30 (.sl Y0) b2_2.1),(21000,.arr 35 Y0 v0)],(Γ b2_2.2)⟩) (fun b2_2 h=>?_) (fun hk_delay_accesses_circles_k1=>?_)
   ·as_aux_lemma =>
     unfold delay_accesses_circles_k1 at h
     refine AW.ops ?_
     obtain ⟨c8,h⟩:=ck_some.1 h
     refine zA [(0,.sl (.sl (.pair (.int .i64) .bool)) x0),(1,.fn (.yield lp) [] []),(4,.own 21000),(5,.own 12),(6,.int .i64 (st1.2.1+1))] [(12,.arr 30 (.sl Y0) b2_2.1),(21000,.arr 35 Y0 v0)] ?_
     obtain rfl:=Option.some.inj h
     exact ⟨_,rfl,zL [] [] []⟩
   ·refine AW.seq ?_
    refine AW.block ?_
    refine zo ?_
    obtain ⟨c9,h⟩:=ck_some.1 h
    obtain ⟨c10,h⟩:=ck_some.1 h
    refine zB [(0,.sl (.sl (.pair (.int .i64) .bool)) x0),(1,.fn (.yield lp) [] []),(4,.own 21000),(5,.own 12),(6,.int .i64 st1.2.1),(7,.sl Y0 (st1.1.getD st1.2.1.toNat []))] [(12,.arr 30 (.sl Y0) st1.1),(21000,.arr 35 Y0 v0)] ?_
    refine AW.have2 (fun b2:S=>delay_accesses_circles_k2 S R x0 v0 st1 b2=some x5) (fun b2=>⟨fr [(0,.sl (.sl (.pair (.int .i64) .bool)) x0),(1,.fn (.yield lp) [] []),(4,.own 21000),(5,.own 12),(6,.int .i64 st1.2.1),(7,.sl Y0 (st1.1.getD st1.2.1.toNat [])),(32,.own 21000),(33,.int .i64 (v0.length:Int)),(34,.int .i64 0)],hpGet [(12,.arr 30 (.sl Y0) st1.1),(21000,.arr 35 Y0 v0)],(Γ b2)⟩) (fun b2 h=>?_) (fun hk_delay_accesses_circles_k2=>?_)
    ·as_aux_lemma =>
      unfold delay_accesses_circles_k2 at h
      refine AW.block ?_
      obtain ⟨rv15,hw11,ho12⟩:=Option.bind_eq_some_iff.1 h
      refine AW.loopO (delay_accesses_circles_b2 S R x0 v0 st1) (fun st2=>⟨fr [(0,.sl (.sl (.pair (.int .i64) .bool)) x0),(1,.fn (.yield lp) [] []),(4,.own 21000),(5,.own 12),(6,.int .i64 st1.2.1),(7,.sl Y0 (st1.1.getD st1.2.1.toNat [])),(32,.own 21000),(33,.int .i64 (v0.length:Int)),(34,.int .i64 st2.2)],hpGet [(12,.arr 30 (.sl Y0) st2.1),(21000,.arr 35 Y0 v0)],(Γ b2)⟩) (st1.1,0) hw11 (zL [] [] []) ?_
      as_aux_lemma =>
       intro st2 x14 h hd13
       unfold delay_accesses_circles_b2 at h
       refine zo ?_
       refine zB [(0,.sl (.sl (.pair (.int .i64) .bool)) x0),(1,.fn (.yield lp) [] []),(4,.own 21000),(5,.own 12),(6,.int .i64 st1.2.1),(7,.sl Y0 (st1.1.getD st1.2.1.toNat [])),(32,.own 21000),(33,.int .i64 (v0.length:Int)),(34,.int .i64 st2.2),(35,.bool (decide (st2.2<(v0.length:Int))))] [(12,.arr 30 (.sl Y0) st2.1),(21000,.arr 35 Y0 v0)] ?_
       refine AW.seq ?_
       refine zQ h (fun hb16 h=>?_) (fun hb16 h=>?_)
       ·refine zk ?_
        refine AW.seq ?_
        refine AW.block ?_
        refine zo ?_
        obtain ⟨c17,h⟩:=ck_some.1 h
        obtain ⟨c18,h⟩:=ck_some.1 h
        refine zB [(0,.sl (.sl (.pair (.int .i64) .bool)) x0),(1,.fn (.yield lp) [] []),(4,.own 21000),(5,.own 12),(6,.int .i64 st1.2.1),(7,.sl Y0 (st1.1.getD st1.2.1.toNat [])),(9,.bp 9 0),(32,.own 21000),(33,.int .i64 (v0.length:Int)),(34,.int .i64 st2.2)] [(9,.box 35 [.int .i64 (v0.getD st2.2.toNat (0,0,0)).1,.int .i64 (v0.getD st2.2.toNat (0,0,0)).2.1,.int .i64 (v0.getD st2.2.toNat (0,0,0)).2.2]),(12,.arr 30 (.sl Y0) st2.1),(21000,.arr 35 Y0 v0)] ?_
        refine zo ?_
        refine zS 3 [(0,.sl (.sl (.pair (.int .i64) .bool)) x0),(1,.fn (.yield lp) [] []),(4,.own 21000),(5,.own 12),(6,.int .i64 st1.2.1),(7,.sl Y0 (st1.1.getD st1.2.1.toNat [])),(9,.bp 9 0),(32,.own 21000),(33,.int .i64 (v0.length:Int)),(34,.int .i64 st2.2),(38,.sl (.sl (.pair (.int .i64) .bool)) x0),(39,.sl Y0 (st1.1.getD st1.2.1.toNat [])),(40,.agg [.int .i64 (v0.getD st2.2.toNat (0,0,0)).1,.int .i64 (v0.getD st2.2.toNat (0,0,0)).2.1,.int .i64 (v0.getD st2.2.toNat (0,0,0)).2.2])] [(9,.box 35 [.int .i64 (v0.getD st2.2.toNat (0,0,0)).1,.int .i64 (v0.getD st2.2.toNat (0,0,0)).2.1,.int .i64 (v0.getD st2.2.toNat (0,0,0)).2.2]),(12,.arr 30 (.sl Y0) st2.1),(21000,.arr 35 Y0 v0)] ?_
        obtain ⟨v0_3,hv19,h⟩:=Option.bind_eq_some_iff.1 h
        refine zC [] [] (hc_delay_accesses_goesOn x0 (st1.1.getD st1.2.1.toNat []) (v0.getD st2.2.toNat (0,0,0)) hv19) [(0,.sl (.sl (.pair (.int .i64) .bool)) x0),(1,.fn (.yield lp) [] []),(4,.own 21000),(5,.own 12),(6,.int .i64 st1.2.1),(7,.sl Y0 (st1.1.getD st1.2.1.toNat [])),(9,.bp 9 0),(32,.own 21000),(33,.int .i64 (v0.length:Int)),(34,.int .i64 st2.2),(41,.bool v0_3)] [(9,.box 35 [.int .i64 (v0.getD st2.2.toNat (0,0,0)).1,.int .i64 (v0.getD st2.2.toNat (0,0,0)).2.1,.int .i64 (v0.getD st2.2.toNat (0,0,0)).2.2]),(12,.arr 30 (.sl Y0) st2.1),(21000,.arr 35 Y0 v0)] ?_
        refine zB [(0,.sl (.sl (.pair (.int .i64) .bool)) x0),(1,.fn (.yield lp) [] []),(4,.own 21000),(5,.own 12),(6,.int .i64 st1.2.1),(7,.sl Y0 (st1.1.getD st1.2.1.toNat [])),(9,.bp 9 0),(32,.own 21000),(33,.int .i64 (v0.length:Int)),(34,.int .i64 st2.2),(41,.bool v0_3)] [(9,.box 35 [.int .i64 (v0.getD st2.2.toNat (0,0,0)).1,.int .i64 (v0.getD st2.2.toNat (0,0,0)).2.1,.int .i64 (v0.getD st2.2.toNat (0,0,0)).2.2]),(12,.arr 30 (.sl Y0) st2.1),(21000,.arr 35 Y0 v0)] ?_
        refine zQ h (fun hb20 h=>?_) (fun hb20 h=>?_)
        ·refine AW.draw tab_ok mixed_ok [(8,[50]),(9,[51]),(10,[51,52]),(11,[12,53])] [(0,[12]),(1,[]),(2,[]),(3,[]),(4,[]),(5,[]),(6,[])] (by decide) (lex_fast (by kernel_rfl)) ?_
         as_aux_lemma =>
          refine adops_cut 6 (fun K' hK21=>?_)
          try dsimp only [List.drop_succ_cons,List.drop_zero,List.take_succ_cons,List.take_zero]
          simp only [go_sem,hb7,hb16,hb20]
          repeat with_reducible refine zN ?_
          refine hK21 _ ?_
          as_aux_lemma =>
           obtain ⟨c23,h⟩:=ck_some.1 h
           obtain ⟨c24,h⟩:=ck_some.1 h
           refine adops_cut 6 (fun K' hK22=>?_)
           try dsimp only [List.drop_succ_cons,List.drop_zero,List.take_succ_cons,List.take_zero]
           simp only [go_sem,hb7,hb16,hb20]
           repeat with_reducible refine zN ?_
           refine hK22 _ ?_
           as_aux_lemma =>
            refine adops_cut 1 (fun K' hK25=>?_)
            try dsimp only [List.drop_succ_cons,List.drop_zero,List.take_succ_cons,List.take_zero]
            simp only [go_sem,hb7,hb16,hb20]
            repeat with_reducible refine zN ?_
            refine hK25 _ ?_
            refine adops_nil ?_
            refine ablock_n ?_
            refine athen_n ?_
            refine zV [(0,.sl (.sl (.pair (.int .i64) .bool)) x0),(1,.fn (.yield lp) [] []),(4,.own 21000),(5,.own 53),(6,.int .i64 st1.2.1),(7,.sl Y0 (st1.1.getD st1.2.1.toNat [])),(32,.own 21000),(33,.int .i64 (v0.length:Int)),(34,.int .i64 st2.2)] [(53,.arr 30 (.sl Y0) (st2.1++[(((st1.1.getD st1.2.1.toNat []).take (st1.1.getD st1.2.1.toNat []).length)++[(v0.getD st2.2.toNat (0,0,0))])])),(21000,.arr 35 Y0 v0)] (Γ b2) ?_
            as_aux_lemma =>
             refine AW.ops ?_
             obtain ⟨c26,h⟩:=ck_some.1 h
             refine zA [(0,.sl (.sl (.pair (.int .i64) .bool)) x0),(1,.fn (.yield lp) [] []),(4,.own 21000),(5,.own 53),(6,.int .i64 st1.2.1),(7,.sl Y0 (st1.1.getD st1.2.1.toNat [])),(32,.own 21000),(33,.int .i64 (v0.length:Int)),(34,.int .i64 (st2.2+1))] [(53,.arr 30 (.sl Y0) (st2.1++[(((st1.1.getD st1.2.1.toNat []).take (st1.1.getD st1.2.1.toNat []).length)++[(v0.getD st2.2.toNat (0,0,0))])])),(21000,.arr 35 Y0 v0)] ?_
             obtain rfl:=Option.some.inj h
             exact ⟨_,rfl,zL [] [] [(12,53)]⟩
        ·refine zm ?_
         refine athen_n ?_
         refine AW.ops ?_
         obtain ⟨c27,h⟩:=ck_some.1 h
         refine zA [(0,.sl (.sl (.pair (.int .i64) .bool)) x0),(1,.fn (.yield lp) [] []),(4,.own 21000),(5,.own 12),(6,.int .i64 st1.2.1),(7,.sl Y0 (st1.1.getD st1.2.1.toNat [])),(32,.own 21000),(33,.int .i64 (v0.length:Int)),(34,.int .i64 (st2.2+1))] [(12,.arr 30 (.sl Y0) st2.1),(21000,.arr 35 Y0 v0)] ?_
         obtain rfl:=Option.some.inj h
         exact ⟨_,rfl,zL [] [] []⟩
       ·refine AW.exit ?_
        refine athen_e ?_
        obtain rfl:=Option.some.inj h
        rw [← hd13 _ rfl] at ho12
        have h:=ho12
        refine athen_e ?_
        refine ablock_s ?_
        refine ablock_n ?_
        refine athen_n ?_
        exact AW.weaken (zL [] [] []) (hk_delay_accesses_circles_k1 _ h)
    ·refine AW.seq ?_
     refine zo ?_
     refine zS 2 [(0,.sl (.sl (.pair (.int .i64) .bool)) x0),(1,.fn (.yield lp) [] []),(4,.own 21000),(5,.own 12),(6,.int .i64 st1.2.1),(7,.sl Y0 (st1.1.getD st1.2.1.toNat [])),(23,.sl (.sl (.pair (.int .i64) .bool)) x0),(24,.sl Y0 (st1.1.getD st1.2.1.toNat []))] [(12,.arr 30 (.sl Y0) st1.1),(21000,.arr 35 Y0 v0)] ?_
     obtain ⟨v0_2,hv28,h⟩:=Option.bind_eq_some_iff.1 h
     refine zC [] [] (hc_delay_accesses_isClosed x0 (st1.1.getD st1.2.1.toNat []) hv28) [(0,.sl (.sl (.pair (.int .i64) .bool)) x0),(1,.fn (.yield lp) [] []),(4,.own 21000),(5,.own 12),(6,.int .i64 st1.2.1),(7,.sl Y0 (st1.1.getD st1.2.1.toNat [])),(25,.bool v0_2)] [(12,.arr 30 (.sl Y0) st1.1),(21000,.arr 35 Y0 v0)] ?_
     refine zS 1 [(0,.sl (.sl (.pair (.int .i64) .bool)) x0),(1,.fn (.yield lp) [] []),(4,.own 21000),(5,.own 12),(6,.int .i64 st1.2.1),(7,.sl Y0 (st1.1.getD st1.2.1.toNat [])),(26,.bool v0_2)] [(12,.arr 30 (.sl Y0) st1.1),(21000,.arr 35 Y0 v0)] ?_
     rcases zI h with ⟨hb29,h⟩|⟨hb29,h⟩
     ·refine zS 2 [(0,.sl (.sl (.pair (.int .i64) .bool)) x0),(1,.fn (.yield lp) [] []),(4,.own 21000),(5,.own 12),(6,.int .i64 st1.2.1),(7,.sl Y0 (st1.1.getD st1.2.1.toNat [])),(26,.bool true),(27,.fn (.yield lp) [] []),(28,.sl Y0 (st1.1.getD st1.2.1.toNat []))] [(12,.arr 30 (.sl Y0) st1.1),(21000,.arr 35 Y0 v0)] ?_
      obtain ⟨x30,hx31,h⟩:=Option.bind_eq_some_iff.1 h
      refine yield_opG rfl rfl _ rfl rfl rfl (by decide) rfl hY hΓ hΓx (st1.1.getD st1.2.1.toNat []) [] (by (simp only [go_sem,hb7,hb29])<;>(with_reducible and_intros)<;>first|assumption|rfl|omega|(unfold maxLen; omega)) hx31 ?_
      cases x30 with
      | next s =>
       try simp only at h
       refine zT [(0,.sl (.sl (.pair (.int .i64) .bool)) x0),(1,.fn (.yield lp) [] []),(4,.own 21000),(5,.own 12),(6,.int .i64 st1.2.1),(7,.sl Y0 (st1.1.getD st1.2.1.toNat [])),(26,.bool true),(29,.bool true)] [(12,.arr 30 (.sl Y0) st1.1),(21000,.arr 35 Y0 v0)] (Γ s) ?_
       refine zB [(0,.sl (.sl (.pair (.int .i64) .bool)) x0),(1,.fn (.yield lp) [] []),(4,.own 21000),(5,.own 12),(6,.int .i64 st1.2.1),(7,.sl Y0 (st1.1.getD st1.2.1.toNat [])),(31,.bool false)] [(12,.arr 30 (.sl Y0) st1.1),(21000,.arr 35 Y0 v0)] ?_
       refine AW.cond (b:=false) rfl (fun hb32=>by cases hb32) (fun _=>?_)
       refine zk ?_
       refine zo ?_
       refine zB [(0,.sl (.sl (.pair (.int .i64) .bool)) x0),(1,.fn (.yield lp) [] []),(4,.own 21000),(5,.own 12),(6,.int .i64 st1.2.1),(7,.sl Y0 (st1.1.getD st1.2.1.toNat [])),(32,.own 21000),(33,.int .i64 (v0.length:Int)),(34,.int .i64 0)] [(12,.arr 30 (.sl Y0) st1.1),(21000,.arr 35 Y0 v0)] ?_
       exact AW.weaken (zL [] [] []) (hk_delay_accesses_circles_k2 _ h)
      | done e =>
       try simp only at h
       refine zT [(0,.sl (.sl (.pair (.int .i64) .bool)) x0),(1,.fn (.yield lp) [] []),(4,.own 21000),(5,.own 12),(6,.int .i64 st1.2.1),(7,.sl Y0 (st1.1.getD st1.2.1.toNat [])),(26,.bool true),(29,.bool false)] [(12,.arr 30 (.sl Y0) st1.1),(21000,.arr 35 Y0 v0)] (Γx e) ?_
       refine zB [(0,.sl (.sl (.pair (.int .i64) .bool)) x0),(1,.fn (.yield lp) [] []),(4,.own 21000),(5,.own 12),(6,.int .i64 st1.2.1),(7,.sl Y0 (st1.1.getD st1.2.1.toNat [])),(31,.bool true)] [(12,.arr 30 (.sl Y0) st1.1),(21000,.arr 35 Y0 v0)] ?_
       refine AW.cond (b:=true) rfl (fun _=>?_) (fun hb33=>by cases hb33)
       refine zr ?_
       refine ablock_r ?_
       refine athen_r ?_
       obtain rfl:=Option.some.inj h
       rw [← hd4 _ rfl] at ho3
       have h:=ho3
       try simp only at h
       refine athen_r ?_
       refine ablock_r ?_
       obtain rfl:=Option.some.inj h
       exact rfl
     ·refine zS 4 [(0,.sl (.sl (.pair (.int .i64) .bool)) x0),(1,.fn (.yield lp) [] []),(4,.own 21000),(5,.own 12),(6,.int .i64 st1.2.1),(7,.sl Y0 (st1.1.getD st1.2.1.toNat [])),(26,.bool false),(30,.cv (undef))] [(12,.arr 30 (.sl Y0) st1.1),(21000,.arr 35 Y0 v0)] ?_
      refine zB [(0,.sl (.sl (.pair (.int .i64) .bool)) x0),(1,.fn (.yield lp) [] []),(4,.own 21000),(5,.own 12),(6,.int .i64 st1.2.1),(7,.sl Y0 (st1.1.getD st1.2.1.toNat [])),(31,.bool false)] [(12,.arr 30 (.sl Y0) st1.1),(21000,.arr 35 Y0 v0)] ?_
      refine AW.cond (b:=false) rfl (fun hb34=>by cases hb34) (fun _=>?_)
      refine zk ?_
      refine zo ?_
      refine zB [(0,.sl (.sl (.pair (.int .i64) .bool)) x0),(1,.fn (.yield lp) [] []),(4,.own 21000),(5,.own 12),(6,.int .i64 st1.2.1),(7,.sl Y0 (st1.1.getD st1.2.1.toNat [])),(32,.own 21000),(33,.int .i64 (v0.length:Int)),(34,.int .i64 0)] [(12,.arr 30 (.sl Y0) st1.1),(21000,.arr 35 Y0 v0)] ?_
      exact AW.weaken (zL [] [] []) (hk_delay_accesses_circles_k2 _ h)
  ·refine AW.exit ?_
   refine athen_e ?_
   obtain rfl:=Option.some.inj h
   rw [← hd4 _ rfl] at ho3
   have h:=ho3
   try simp only at h
   refine athen_e ?_
   refine ablock_s ?_
   obtain rfl:=Option.some.inj h
   exact rfl
theorem hc_delay_Circles (x0:List (List (Int×Bool))) {r:Int×Int} (h:delay_Circles x0=some r):HC Try.prog 26 [] [.sl (.sl (.pair (.int .i64) .bool)) x0] [] (.tup [.int .i64 r.1,.int .i64 r.2]):=by
 unfold delay_Circles at h
 refine zH Try.func26 [.tmp 2,.tmp 3] 21 ?_
 refine zo ?_
 refine zB [(0,.sl (.sl (.pair (.int .i64) .bool)) x0)] [] ?_
 refine zo ?_
 refine zS 1 [(8,.sl (.sl (.pair (.int .i64) .bool)) x0)] [] ?_
 obtain ⟨v0,hv1,h⟩:=Option.bind_eq_some_iff.1 h
 refine zC [] [] (hc_delay_accessesOf x0 hv1) [(9,.tup [.sl (.sl (.pair (.int .i64) .bool)) v0.1,.int .i64 v0.2])] [] ?_
 refine zB [(4,.sl (.sl (.pair (.int .i64) .bool)) v0.1),(5,.int .i64 v0.2)] [] ?_
 refine AW.seq ?_
 refine zo ?_
 refine zB [(4,.sl (.sl (.pair (.int .i64) .bool)) v0.1),(5,.int .i64 v0.2),(13,.bool (!(decide (v0.2=0))))] [] ?_
 refine zQ h (fun hb2 h=>?_) (fun hb2 h=>?_)
 ·refine zo ?_
  refine zB [(2,.int .i64 0),(3,.int .i64 v0.2)] [] ?_
  refine zr ?_
  obtain rfl:=Option.some.inj h
  exact zR [] [] []
 ·refine zk ?_
  refine zo ?_
  refine zB [(4,.sl (.sl (.pair (.int .i64) .bool)) v0.1),(6,.bp 6 0)] [(6,.box 3 [.int .i64 0])] ?_
  refine AW.have1 (fun b1:Int=>delay_Circles_k1 b1=some r) (fun b1=>⟨fr [(6,.bp 6 0)],hpGet [(6,.box 3 [.int .i64 b1])],gt⟩) (fun b1 h=>?_) (fun hk_delay_Circles_k1=>?_)
  ·as_aux_lemma =>
    unfold delay_Circles_k1 at h
    refine zo ?_
    refine zB [(2,.int .i64 b1),(3,.int .i64 0)] [] ?_
    refine AW.ret ?_
    obtain rfl:=Option.some.inj h
    exact zR [] [] []
  ·refine AW.seq ?_
   refine zo ?_
   refine zB [(6,.bp 6 0),(16,.fn (.func 73) [.sl (.sl (.pair (.int .i64) .bool)) v0.1] [])] [(6,.box 3 [.int .i64 0])] ?_
   refine AW.block ?_
   obtain ⟨x3,hx4,h⟩:=Option.bind_eq_some_iff.1 h
   refine AW.weaken (s':=⟨fr [(6,.bp 6 0),(16,.fn (.func 73) [.sl (.sl (.pair (.int .i64) .bool)) v0.1] [])],hpGet ([]++[(6,.box 3 [.int .i64 0])]),gt⟩) (zL [] [] []) ?_
   refine AW.rangeF (R:=Empty) (l0:=[(6,.bp 6 0)]) (hI:=[]) (h0:=fun (st1:Int)=>[(6,.box 3 [.int .i64 st1])]) (gg:=fun (st1:Int)=>gt) (hx0:=(fun (r:Empty)=>r.elim)) (gx:=(fun (r:Empty)=>r.elim)) (ex:=(fun (r:Empty)=>r.elim)) 0 [] [] [(6,1900)] [(1900,6)] (by decide) rfl (by first|exact (ic_delay_accesses_circles v0.1 (delay_Circles_y1) 0 hx4)|simpa only [go_sem] using (ic_delay_accesses_circles v0.1 (delay_Circles_y1) 0 hx4)) (by (simp only [go_sem,hb2])<;>(with_reducible and_intros)<;>first|assumption|rfl|omega|(unfold maxLen; omega)) rfl rfl rfl (fun _=>rfl) rfl (fun r=>r.elim) rfl (fun r=>r.elim) (fun r=>r.elim) (fun _=>rfl) (fun _=>rfl) rfl (fun _ _=>by first|rfl|(exact (hΓ _).trans (hΓ _).symm)|(exact (hΓx _).trans (hΓ _).symm)) (fun _ r=>r.elim) ?_ ?_
   ·intro lpy1 y1 st1 x5 h
    unfold delay_Circles_y1 at h
    refine zV [(6,.bp 1900 0),(17,.sl Y0 y1)] [(1900,.box 3 [.int .i64 st1])] gt ?_
    refine AW.skip ?_
    refine And.intro rfl ?_
    refine AW.block ?_
    refine AW.ops ?_
    obtain ⟨c6,h⟩:=ck_some.1 h
    refine zA [(6,.bp 1900 0)] [(1900,.box 3 [.int .i64 (st1+1)])] ?_
    refine ablock_n ?_
    obtain rfl:=Option.some.inj h
    exact rpost_next rfl [] [] [] rfl (by (simp only [go_sem,hb2])<;>(with_reducible and_intros)<;>first|assumption|rfl|omega|(unfold maxLen; omega))
   ·cases x3 with
    | inl st1_2 =>
     try simp only at h
     refine ablock_n ?_
     refine athen_n ?_
     exact AW.weaken (zL [] [] []) (hk_delay_Circles_k1 _ h)
    | inr rx =>
     exact rx.elim
theorem hc_lineallaw09_Awake {r:Bool} (h:lineallaw09_Awake=some r):HC Try.prog 14 [] [] [] (.bool r):=by
 unfold lineallaw09_Awake at h
 refine zH Try.func14 [.tmp 0] 20 ?_
 refine zo ?_
 refine zB [] [] ?_
 refine zo ?_
 refine zS 5 [(6,.own 6),(7,.agg [.int .i64 1,.bool true]),(8,.agg [.int .i64 0,.bool false])] [(6,.arr 76 (.pair (.int .i64) .bool) [(0,true),(1,false)])] ?_
 refine zS 2 [(10,.own 10)] [(10,.arr 68 (.sl (.pair (.int .i64) .bool)) [[(0,true),(1,false)],[(1,true),(0,false)]])] ?_
 obtain ⟨v0,hv1,h⟩:=Option.bind_eq_some_iff.1 h
 refine zC [10] [] (hc_delay_Circles [[(0,true),(1,false)],[(1,true),(0,false)]] hv1) [(11,.tup [.int .i64 v0.1,.int .i64 v0.2])] [] ?_
 refine zB [(1,.int .i64 v0.1),(2,.int .i64 v0.2)] [] ?_
 refine zo ?_
 refine zS 3 [(1,.int .i64 v0.1),(16,.bool (decide (v0.2=0)))] [] ?_
 rcases zI h with ⟨hb2,h⟩|⟨hb2,h⟩
 ·refine zB [(0,.bool (decide (v0.1=2)))] [] ?_
  refine AW.ret ?_
  obtain rfl:=Option.some.inj h
  exact zR [] [] []
 ·refine zB [(0,.bool false)] [] ?_
  refine AW.ret ?_
  obtain rfl:=Option.some.inj h
  exact zR [] [] []
theorem hc_linealref09_Valid (x0:List (List (Int×Bool))) {r:Bool} (h:linealref09_Valid x0=some r):HC Try.prog 18 [] [.sl (.sl (.pair (.int .i64) .bool)) x0] [] (.bool r):=by
 unfold linealref09_Valid at h
 refine zH Try.func18 [.tmp 2] 40 ?_
 refine zo ?_
 refine zB [(0,.sl (.sl (.pair (.int .i64) .bool)) x0)] [] ?_
 refine AW.have1 (fun _:Unit=>linealref09_Valid_k1 x0=some r) (fun _=>⟨fr [(0,.sl (.sl (.pair (.int .i64) .bool)) x0)],hpGet [],gt⟩) (fun _ h=>?_) (fun hk_linealref09_Valid_k1=>?_)
 ·as_aux_lemma =>
   unfold linealref09_Valid_k1 at h
   refine zo ?_
   refine zS 4 [(0,.sl (.sl (.pair (.int .i64) .bool)) x0),(35,.bool (decide (1≤(x0.length:Int))))] [] ?_
   rcases zI h with ⟨hb1,h⟩|⟨hb1,h⟩
   ·refine zB [(2,.bool (decide ((x0.length:Int)≤3)))] [] ?_
    refine AW.ret ?_
    obtain rfl:=Option.some.inj h
    exact zR [] [] []
   ·refine zB [(2,.bool false)] [] ?_
    refine AW.ret ?_
    obtain rfl:=Option.some.inj h
    exact zR [] [] []
 ·refine AW.seq ?_
  refine zo ?_
  refine zB [(0,.sl (.sl (.pair (.int .i64) .bool)) x0),(7,.sl (.sl (.pair (.int .i64) .bool)) x0),(8,.int .i64 (x0.length:Int)),(9,.int .i64 0)] [] ?_
  refine AW.block ?_
  obtain ⟨rv6,hw2,ho3⟩:=Option.bind_eq_some_iff.1 h
  refine AW.loopO (linealref09_Valid_b1 x0) (fun st1=>⟨fr [(0,.sl (.sl (.pair (.int .i64) .bool)) x0),(7,.sl (.sl (.pair (.int .i64) .bool)) x0),(8,.int .i64 (x0.length:Int)),(9,.int .i64 st1)],hpGet [],gt⟩) 0 hw2 (zL [] [] []) ?_
  as_aux_lemma =>
   intro st1 x5 h hd4
   unfold linealref09_Valid_b1 at h
   refine zo ?_
   refine zB [(0,.sl (.sl (.pair (.int .i64) .bool)) x0),(7,.sl (.sl (.pair (.int .i64) .bool)) x0),(8,.int .i64 (x0.length:Int)),(9,.int .i64 st1),(10,.bool (decide (st1<(x0.length:Int))))] [] ?_
   refine AW.seq ?_
   refine zQ h (fun hb7 h=>?_) (fun hb7 h=>?_)
   ·refine zk ?_
    refine AW.have1 (fun _:Unit=>linealref09_Valid_k2 st1=some x5) (fun _=>⟨fr [(0,.sl (.sl (.pair (.int .i64) .bool)) x0),(7,.sl (.sl (.pair (.int .i64) .bool)) x0),(8,.int .i64 (x0.length:Int)),(9,.int .i64 st1)],hpGet [],gt⟩) (fun _ h=>?_) (fun hk_linealref09_Valid_k2=>?_)
    ·as_aux_lemma =>
      unfold linealref09_Valid_k2 at h
      refine AW.ops ?_
      obtain ⟨c8,h⟩:=ck_some.1 h
      refine zA [(0,.sl (.sl (.pair (.int .i64) .bool)) x0),(7,.sl (.sl (.pair (.int .i64) .bool)) x0),(8,.int .i64 (x0.length:Int)),(9,.int .i64 (st1+1))] [] ?_
      obtain rfl:=Option.some.inj h
      exact ⟨_,rfl,zL [] [] []⟩
    ·refine AW.seq ?_
     refine AW.block ?_
     refine zo ?_
     obtain ⟨c9,h⟩:=ck_some.1 h
     obtain ⟨c10,h⟩:=ck_some.1 h
     refine zB [(0,.sl (.sl (.pair (.int .i64) .bool)) x0),(4,.sl (.pair (.int .i64) .bool) (x0.getD st1.toNat [])),(7,.sl (.sl (.pair (.int .i64) .bool)) x0),(8,.int .i64 (x0.length:Int)),(9,.int .i64 st1)] [] ?_
     refine AW.seq ?_
     refine zo ?_
     refine zB [(0,.sl (.sl (.pair (.int .i64) .bool)) x0),(4,.sl (.pair (.int .i64) .bool) (x0.getD st1.toNat [])),(7,.sl (.sl (.pair (.int .i64) .bool)) x0),(8,.int .i64 (x0.length:Int)),(9,.int .i64 st1),(15,.bool (decide (4<((x0.getD st1.toNat []).length:Int))))] [] ?_
     refine zQ h (fun hb11 h=>?_) (fun hb11 h=>?_)
     ·refine zo ?_
      refine zB [(2,.bool false)] [] ?_
      refine zr ?_
      refine ablock_r ?_
      refine athen_r ?_
      obtain rfl:=Option.some.inj h
      try rw [← hd4 _ rfl] at ho3
      have h:=ho3
      try simp only at h
      refine athen_r ?_
      refine ablock_r ?_
      refine athen_r ?_
      obtain rfl:=Option.some.inj h
      exact zR [] [] []
     ·refine zk ?_
      refine zo ?_
      refine zB [(0,.sl (.sl (.pair (.int .i64) .bool)) x0),(7,.sl (.sl (.pair (.int .i64) .bool)) x0),(8,.int .i64 (x0.length:Int)),(9,.int .i64 st1),(16,.sl (.pair (.int .i64) .bool) (x0.getD st1.toNat [])),(17,.int .i64 ((x0.getD st1.toNat []).length:Int)),(18,.int .i64 0)] [] ?_
      refine AW.block ?_
      obtain ⟨rv16,hw12,ho13⟩:=Option.bind_eq_some_iff.1 h
      refine AW.loopO (linealref09_Valid_b2 x0 st1) (fun st2=>⟨fr [(0,.sl (.sl (.pair (.int .i64) .bool)) x0),(7,.sl (.sl (.pair (.int .i64) .bool)) x0),(8,.int .i64 (x0.length:Int)),(9,.int .i64 st1),(16,.sl (.pair (.int .i64) .bool) (x0.getD st1.toNat [])),(17,.int .i64 ((x0.getD st1.toNat []).length:Int)),(18,.int .i64 st2)],hpGet [],gt⟩) 0 hw12 (zL [] [] []) ?_
      as_aux_lemma =>
       intro st2 x15 h hd14
       unfold linealref09_Valid_b2 at h
       refine zo ?_
       refine zB [(0,.sl (.sl (.pair (.int .i64) .bool)) x0),(7,.sl (.sl (.pair (.int .i64) .bool)) x0),(8,.int .i64 (x0.length:Int)),(9,.int .i64 st1),(16,.sl (.pair (.int .i64) .bool) (x0.getD st1.toNat [])),(17,.int .i64 ((x0.getD st1.toNat []).length:Int)),(18,.int .i64 st2),(19,.bool (decide (st2<((x0.getD st1.toNat []).length:Int))))] [] ?_
       refine AW.seq ?_
       refine zQ h (fun hb17 h=>?_) (fun hb17 h=>?_)
       ·refine zk ?_
        refine AW.seq ?_
        refine AW.block ?_
        refine zo ?_
        obtain ⟨c18,h⟩:=ck_some.1 h
        obtain ⟨c19,h⟩:=ck_some.1 h
        refine zB [(0,.sl (.sl (.pair (.int .i64) .bool)) x0),(6,.bp 6 0),(7,.sl (.sl (.pair (.int .i64) .bool)) x0),(8,.int .i64 (x0.length:Int)),(9,.int .i64 st1),(16,.sl (.pair (.int .i64) .bool) (x0.getD st1.toNat [])),(17,.int .i64 ((x0.getD st1.toNat []).length:Int)),(18,.int .i64 st2)] [(6,.box 76 [.int .i64 ((x0.getD st1.toNat []).getD st2.toNat (0,false)).1,.bool ((x0.getD st1.toNat []).getD st2.toNat (0,false)).2])] ?_
        refine zo ?_
        refine zS 4 [(0,.sl (.sl (.pair (.int .i64) .bool)) x0),(6,.bp 6 0),(7,.sl (.sl (.pair (.int .i64) .bool)) x0),(8,.int .i64 (x0.length:Int)),(9,.int .i64 st1),(16,.sl (.pair (.int .i64) .bool) (x0.getD st1.toNat [])),(17,.int .i64 ((x0.getD st1.toNat []).length:Int)),(18,.int .i64 st2),(25,.bool (decide (((x0.getD st1.toNat []).getD st2.toNat (0,false)).1<0)))] [(6,.box 76 [.int .i64 ((x0.getD st1.toNat []).getD st2.toNat (0,false)).1,.bool ((x0.getD st1.toNat []).getD st2.toNat (0,false)).2])] ?_
        rcases zI h with ⟨hb20,h⟩|⟨hb20,h⟩
        ·refine zB [(0,.sl (.sl (.pair (.int .i64) .bool)) x0),(7,.sl (.sl (.pair (.int .i64) .bool)) x0),(8,.int .i64 (x0.length:Int)),(9,.int .i64 st1),(16,.sl (.pair (.int .i64) .bool) (x0.getD st1.toNat [])),(17,.int .i64 ((x0.getD st1.toNat []).length:Int)),(18,.int .i64 st2),(29,.bool true)] [] ?_
         refine AW.cond (b:=true) rfl (fun _=>?_) (fun hb21=>by cases hb21)
         refine zo ?_
         refine zB [(2,.bool false)] [] ?_
         refine AW.ret ?_
         refine ablock_r ?_
         refine athen_r ?_
         obtain rfl:=Option.some.inj h
         try rw [← hd14 _ rfl] at ho13
         have h:=ho13
         try simp only at h
         refine athen_r ?_
         refine ablock_r ?_
         refine ablock_r ?_
         refine athen_r ?_
         obtain rfl:=Option.some.inj h
         try rw [← hd4 _ rfl] at ho3
         have h:=ho3
         try simp only at h
         refine athen_r ?_
         refine ablock_r ?_
         refine athen_r ?_
         obtain rfl:=Option.some.inj h
         exact zR [] [] []
        ·refine zB [(0,.sl (.sl (.pair (.int .i64) .bool)) x0),(7,.sl (.sl (.pair (.int .i64) .bool)) x0),(8,.int .i64 (x0.length:Int)),(9,.int .i64 st1),(16,.sl (.pair (.int .i64) .bool) (x0.getD st1.toNat [])),(17,.int .i64 ((x0.getD st1.toNat []).length:Int)),(18,.int .i64 st2),(29,.bool (decide (3≤((x0.getD st1.toNat []).getD st2.toNat (0,false)).1)))] [] ?_
         refine zQ h (fun hb22 h=>?_) (fun hb22 h=>?_)
         ·refine zo ?_
          refine zB [(2,.bool false)] [] ?_
          refine AW.ret ?_
          refine ablock_r ?_
          refine athen_r ?_
          obtain rfl:=Option.some.inj h
          try rw [← hd14 _ rfl] at ho13
          have h:=ho13
          try simp only at h
          refine athen_r ?_
          refine ablock_r ?_
          refine ablock_r ?_
          refine athen_r ?_
          obtain rfl:=Option.some.inj h
          try rw [← hd4 _ rfl] at ho3
          have h:=ho3
          try simp only at h
          refine athen_r ?_
          refine ablock_r ?_
          refine athen_r ?_
          obtain rfl:=Option.some.inj h
          exact zR [] [] []
         ·refine zm ?_
          refine athen_n ?_
          refine AW.ops ?_
          obtain ⟨c23,h⟩:=ck_some.1 h
          refine zA [(0,.sl (.sl (.pair (.int .i64) .bool)) x0),(7,.sl (.sl (.pair (.int .i64) .bool)) x0),(8,.int .i64 (x0.length:Int)),(9,.int .i64 st1),(16,.sl (.pair (.int .i64) .bool) (x0.getD st1.toNat [])),(17,.int .i64 ((x0.getD st1.toNat []).length:Int)),(18,.int .i64 (st2+1))] [] ?_
          obtain rfl:=Option.some.inj h
          exact ⟨_,rfl,zL [] [] []⟩
       ·refine AW.exit ?_
        refine athen_e ?_
        obtain rfl:=Option.some.inj h
        try rw [← hd14 _ rfl] at ho13
        have h:=ho13
        try simp only at h
        refine athen_e ?_
        refine ablock_s ?_
        refine ablock_n ?_
        refine athen_n ?_
        exact AW.weaken (zL [] [] []) (hk_linealref09_Valid_k2 () h)
   ·refine AW.exit ?_
    refine athen_e ?_
    obtain rfl:=Option.some.inj h
    try rw [← hd4 _ rfl] at ho3
    have h:=ho3
    try simp only at h
    refine athen_e ?_
    refine ablock_s ?_
    refine athen_n ?_
    exact AW.weaken (zL [] [] []) (hk_linealref09_Valid_k1 () h)
theorem hc_linealref09_IsAccess (x0:List (List (Int×Bool))) (t:Int) (a:Int) {r:Bool} (h:linealref09_IsAccess x0 t a=some r):HC Try.prog 64 [] [.sl (.sl (.pair (.int .i64) .bool)) x0,.int .i64 t,.int .i64 a] [] (.bool r):=by
 unfold linealref09_IsAccess at h
 refine zH Try.func64 [.tmp 6] 28 ?_
 refine zo ?_
 refine zB [(0,.sl (.sl (.pair (.int .i64) .bool)) x0),(1,.int .i64 t),(2,.int .i64 a)] [] ?_
 refine zo ?_
 refine zS 3 [(0,.sl (.sl (.pair (.int .i64) .bool)) x0),(1,.int .i64 t),(2,.int .i64 a),(9,.bool (decide (0≤t)))] [] ?_
 rcases zI h with ⟨hb1,h⟩|⟨hb1,h⟩
 ·refine zS 5 [(0,.sl (.sl (.pair (.int .i64) .bool)) x0),(1,.int .i64 t),(2,.int .i64 a),(14,.bool (decide (t<(x0.length:Int))))] [] ?_
  refine zS 1 [(0,.sl (.sl (.pair (.int .i64) .bool)) x0),(1,.int .i64 t),(2,.int .i64 a),(15,.bool (decide (t<(x0.length:Int))))] [] ?_
  rcases zI h with ⟨hb2,h⟩|⟨hb2,h⟩
  ·refine zS 4 [(0,.sl (.sl (.pair (.int .i64) .bool)) x0),(1,.int .i64 t),(2,.int .i64 a),(19,.bool (decide (0≤a)))] [] ?_
   rcases zI h with ⟨hb3,h⟩|⟨hb3,h⟩
   ·obtain ⟨c4,h⟩:=ck_some.1 h
    obtain ⟨c5,h⟩:=ck_some.1 h
    refine zS 5 [(19,.bool true),(20,.int .i64 a),(24,.sl (.pair (.int .i64) .bool) (x0.getD t.toNat []))] [] ?_
    refine zB [(6,.bool (decide (a<((x0.getD t.toNat []).length:Int))))] [] ?_
    refine AW.ret ?_
    obtain rfl:=Option.some.inj h
    exact zR [] [] []
   ·refine zS 4 [(19,.bool false),(20,.cv (undef)),(23,.cv (undef))] [] ?_
    refine zB [(6,.bool false)] [] ?_
    refine AW.ret ?_
    obtain rfl:=Option.some.inj h
    exact zR [] [] []
  ·refine zS 5 [(0,.sl (.sl (.pair (.int .i64) .bool)) x0),(1,.int .i64 t),(19,.bool false),(20,.cv (undef))] [] ?_
   refine zS 4 [(19,.bool false),(20,.cv (undef)),(24,.cv (undef))] [] ?_
   refine zB [(6,.bool false)] [] ?_
   refine AW.ret ?_
   obtain rfl:=Option.some.inj h
   exact zR [] [] []
 ·refine zS 4 [(0,.sl (.sl (.pair (.int .i64) .bool)) x0),(1,.int .i64 t),(2,.int .i64 a),(9,.bool false),(13,.cv (undef))] [] ?_
  refine zS 5 [(0,.sl (.sl (.pair (.int .i64) .bool)) x0),(1,.int .i64 t),(2,.int .i64 a),(18,.bool false)] [] ?_
  refine zS 5 [(19,.bool false),(20,.cv (undef)),(23,.cv (undef))] [] ?_
  refine zB [(6,.bool false)] [] ?_
  refine AW.ret ?_
  obtain rfl:=Option.some.inj h
  exact zR [] [] []
theorem hc_linealref09_conflict (x0:List (List (Int×Bool))) (t:Int) (a:Int) (u:Int) (b:Int) {r:Bool} (h:linealref09_conflict x0 t a u b=some r):HC Try.prog 65 [] [.sl (.sl (.pair (.int .i64) .bool)) x0,.int .i64 t,.int .i64 a,.int .i64 u,.int .i64 b] [] (.bool r):=by
 unfold linealref09_conflict at h
 refine zH Try.func65 [.tmp 10] 53 ?_
 refine zo ?_
 refine zB [(0,.sl (.sl (.pair (.int .i64) .bool)) x0),(1,.int .i64 t),(2,.int .i64 a),(3,.int .i64 u),(4,.int .i64 b)] [] ?_
 refine AW.seq ?_
 refine AW.draw tab_ok mixed_ok [] [] (by decide) (lex_fast (by kernel_rfl)) ?_
 as_aux_lemma =>
  refine adops_cut 4 (fun K' hK1=>?_)
  try dsimp only [List.drop_succ_cons,List.drop_zero,List.take_succ_cons,List.take_zero]
  simp only [go_sem]
  repeat with_reducible refine zN ?_
  refine hK1 _ ?_
  as_aux_lemma =>
   rcases zI h with ⟨hb2,h⟩|⟨hb2,h⟩
   ·simp only [hb2]
    as_aux_lemma =>
     obtain ⟨c4,h⟩:=ck_some.1 h
     obtain ⟨c5,h⟩:=ck_some.1 h
     obtain ⟨c6,h⟩:=ck_some.1 h
     obtain ⟨c7,h⟩:=ck_some.1 h
     refine adops_cut 6 (fun K' hK3=>?_)
     try dsimp only [List.drop_succ_cons,List.drop_zero,List.take_succ_cons,List.take_zero]
     simp only [go_sem,hb2]
     repeat with_reducible refine zN ?_
     refine hK3 _ ?_
     as_aux_lemma =>
      obtain ⟨c9,h⟩:=ck_some.1 h
      obtain ⟨c10,h⟩:=ck_some.1 h
      refine adops_cut 6 (fun K' hK8=>?_)
      try dsimp only [List.drop_succ_cons,List.drop_zero,List.take_succ_cons,List.take_zero]
      simp only [go_sem,hb2]
      repeat with_reducible refine zN ?_
      refine hK8 _ ?_
      as_aux_lemma =>
       obtain ⟨c12,h⟩:=ck_some.1 h
       obtain ⟨c13,h⟩:=ck_some.1 h
       refine adops_cut 6 (fun K' hK11=>?_)
       try dsimp only [List.drop_succ_cons,List.drop_zero,List.take_succ_cons,List.take_zero]
       simp only [go_sem,hb2]
       repeat with_reducible refine zN ?_
       refine hK11 _ ?_
       as_aux_lemma =>
        refine adops_cut 1 (fun K' hK14=>?_)
        try dsimp only [List.drop_succ_cons,List.drop_zero,List.take_succ_cons,List.take_zero]
        simp only [go_sem,hb2]
        repeat with_reducible refine zN ?_
        refine hK14 _ ?_
        as_aux_lemma =>
         rcases zI h with ⟨hb15,h⟩|⟨hb15,h⟩
         ·simp only [hb15]
          as_aux_lemma =>
           obtain ⟨c17,h⟩:=ck_some.1 h
           obtain ⟨c18,h⟩:=ck_some.1 h
           obtain ⟨c19,h⟩:=ck_some.1 h
           obtain ⟨c20,h⟩:=ck_some.1 h
           refine adops_cut 6 (fun K' hK16=>?_)
           try dsimp only [List.drop_succ_cons,List.drop_zero,List.take_succ_cons,List.take_zero]
           simp only [go_sem,hb2,hb15]
           repeat with_reducible refine zN ?_
           refine hK16 _ ?_
           as_aux_lemma =>
            refine adops_cut 3 (fun K' hK21=>?_)
            try dsimp only [List.drop_succ_cons,List.drop_zero,List.take_succ_cons,List.take_zero]
            simp only [go_sem,hb2,hb15]
            repeat with_reducible refine zN ?_
            refine hK21 _ ?_
            as_aux_lemma =>
             rcases zI h with ⟨hb22,h⟩|⟨hb22,h⟩
             ·simp only [hb22]
              as_aux_lemma =>
               refine adops_cut 4 (fun K' hK23=>?_)
               try dsimp only [List.drop_succ_cons,List.drop_zero,List.take_succ_cons,List.take_zero]
               simp only [go_sem,hb2,hb15,hb22]
               repeat with_reducible refine zN ?_
               refine hK23 _ ?_
               as_aux_lemma =>
                refine adops_cut 4 (fun K' hK24=>?_)
                try dsimp only [List.drop_succ_cons,List.drop_zero,List.take_succ_cons,List.take_zero]
                simp only [go_sem,hb2,hb15,hb22]
                repeat with_reducible refine zN ?_
                refine hK24 _ ?_
                as_aux_lemma =>
                 refine adops_cut 3 (fun K' hK25=>?_)
                 try dsimp only [List.drop_succ_cons,List.drop_zero,List.take_succ_cons,List.take_zero]
                 simp only [go_sem,hb2,hb15,hb22]
                 repeat with_reducible refine zN ?_
                 refine hK25 _ ?_
                 refine adops_nil ?_
                 refine athen_n ?_
                 refine zV [(10,.bool true)] [] gt ?_
                 as_aux_lemma =>
                  refine AW.ret ?_
                  obtain rfl:=Option.some.inj h
                  exact zR [] [] []
             ·simp only [hb22]
              as_aux_lemma =>
               obtain ⟨c27,h⟩:=ck_some.1 h
               obtain ⟨c28,h⟩:=ck_some.1 h
               obtain ⟨c29,h⟩:=ck_some.1 h
               obtain ⟨c30,h⟩:=ck_some.1 h
               refine adops_cut 6 (fun K' hK26=>?_)
               try dsimp only [List.drop_succ_cons,List.drop_zero,List.take_succ_cons,List.take_zero]
               simp only [go_sem,hb2,hb15,hb22]
               repeat with_reducible refine zN ?_
               refine hK26 _ ?_
               as_aux_lemma =>
                refine adops_cut 5 (fun K' hK31=>?_)
                try dsimp only [List.drop_succ_cons,List.drop_zero,List.take_succ_cons,List.take_zero]
                simp only [go_sem,hb2,hb15,hb22]
                repeat with_reducible refine zN ?_
                refine hK31 _ ?_
                refine adops_nil ?_
                refine athen_n ?_
                refine zV [(10,.bool ((x0.getD u.toNat []).getD b.toNat (0,false)).2)] [] gt ?_
                as_aux_lemma =>
                 refine AW.ret ?_
                 obtain rfl:=Option.some.inj h
                 exact zR [] [] []
         ·simp only [hb15]
          as_aux_lemma =>
           refine adops_cut 4 (fun K' hK32=>?_)
           try dsimp only [List.drop_succ_cons,List.drop_zero,List.take_succ_cons,List.take_zero]
           simp only [go_sem,hb2,hb15]
           repeat with_reducible refine zN ?_
           refine hK32 _ ?_
           as_aux_lemma =>
            refine adops_cut 4 (fun K' hK33=>?_)
            try dsimp only [List.drop_succ_cons,List.drop_zero,List.take_succ_cons,List.take_zero]
            simp only [go_sem,hb2,hb15]
            repeat with_reducible refine zN ?_
            refine hK33 _ ?_
            as_aux_lemma =>
             refine adops_cut 4 (fun K' hK34=>?_)
             try dsimp only [List.drop_succ_cons,List.drop_zero,List.take_succ_cons,List.take_zero]
             simp only [go_sem,hb2,hb15]
             repeat with_reducible refine zN ?_
             refine hK34 _ ?_
             as_aux_lemma =>
              refine adops_cut 4 (fun K' hK35=>?_)
              try dsimp only [List.drop_succ_cons,List.drop_zero,List.take_succ_cons,List.take_zero]
              simp only [go_sem,hb2,hb15]
              repeat with_reducible refine zN ?_
              refine hK35 _ ?_
              as_aux_lemma =>
               refine adops_cut 4 (fun K' hK36=>?_)
               try dsimp only [List.drop_succ_cons,List.drop_zero,List.take_succ_cons,List.take_zero]
               simp only [go_sem,hb2,hb15]
               repeat with_reducible refine zN ?_
               refine hK36 _ ?_
               refine adops_nil ?_
               refine athen_n ?_
               refine zV [(10,.bool false)] [] gt ?_
               as_aux_lemma =>
                refine AW.ret ?_
                obtain rfl:=Option.some.inj h
                exact zR [] [] []
   ·simp only [hb2]
    as_aux_lemma =>
     refine adops_cut 4 (fun K' hK37=>?_)
     try dsimp only [List.drop_succ_cons,List.drop_zero,List.take_succ_cons,List.take_zero]
     simp only [go_sem,hb2]
     repeat with_reducible refine zN ?_
     refine hK37 _ ?_
     as_aux_lemma =>
      refine adops_cut 4 (fun K' hK38=>?_)
      try dsimp only [List.drop_succ_cons,List.drop_zero,List.take_succ_cons,List.take_zero]
      simp only [go_sem,hb2]
      repeat with_reducible refine zN ?_
      refine hK38 _ ?_
      as_aux_lemma =>
       refine adops_cut 4 (fun K' hK39=>?_)
       try dsimp only [List.drop_succ_cons,List.drop_zero,List.take_succ_cons,List.take_zero]
       simp only [go_sem,hb2]
       repeat with_reducible refine zN ?_
       refine hK39 _ ?_
       as_aux_lemma =>
        refine adops_cut 4 (fun K' hK40=>?_)
        try dsimp only [List.drop_succ_cons,List.drop_zero,List.take_succ_cons,List.take_zero]
        simp only [go_sem,hb2]
        repeat with_reducible refine zN ?_
        refine hK40 _ ?_
        as_aux_lemma =>
         refine adops_cut 6 (fun K' hK41=>?_)
         try dsimp only [List.drop_succ_cons,List.drop_zero,List.take_succ_cons,List.take_zero]
         simp only [go_sem,hb2]
         repeat with_reducible refine zN ?_
         refine hK41 _ ?_
         as_aux_lemma =>
          refine adops_cut 4 (fun K' hK42=>?_)
          try dsimp only [List.drop_succ_cons,List.drop_zero,List.take_succ_cons,List.take_zero]
          simp only [go_sem,hb2]
          repeat with_reducible refine zN ?_
          refine hK42 _ ?_
          as_aux_lemma =>
           refine adops_cut 4 (fun K' hK43=>?_)
           try dsimp only [List.drop_succ_cons,List.drop_zero,List.take_succ_cons,List.take_zero]
           simp only [go_sem,hb2]
           repeat with_reducible refine zN ?_
           refine hK43 _ ?_
           as_aux_lemma =>
            refine adops_cut 4 (fun K' hK44=>?_)
            try dsimp only [List.drop_succ_cons,List.drop_zero,List.take_succ_cons,List.take_zero]
            simp only [go_sem,hb2]
            repeat with_reducible refine zN ?_
            refine hK44 _ ?_
            as_aux_lemma =>
             refine adops_cut 5 (fun K' hK45=>?_)
             try dsimp only [List.drop_succ_cons,List.drop_zero,List.take_succ_cons,List.take_zero]
             simp only [go_sem,hb2]
             repeat with_reducible refine zN ?_
             refine hK45 _ ?_
             refine adops_nil ?_
             refine athen_n ?_
             refine zV [(10,.bool false)] [] gt ?_
             as_aux_lemma =>
              refine AW.ret ?_
              obtain rfl:=Option.some.inj h
              exact zR [] [] []
end Go.Proofs.Ytdicomoggfhbfaa
