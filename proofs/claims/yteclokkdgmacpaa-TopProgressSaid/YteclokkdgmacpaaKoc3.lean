import Derived.Test.YteclokkdgmacpaaGrp
import Derived.Test.YteclokkdgmacpaaSh7
import Derived.Test.YteclokkdgmacpaaAvd
import Derived.Test.YteclokkdgmacpaaBl7
import Derived.Test.YteclokkdgmacpaaKoc2
import Derived.Test.YteclokkdgmacpaaYa7
namespace Go.Proofs.Yteclokkdgmacpaa
open Go.RowKit
set_option linter.unusedSimpArgs false
set_option linter.unusedVariables false
set_option linter.constructorNameAsVariable false
set_option maxRecDepth 100000
set_option maxHeartbeats 40000000
theorem ic_progress_graph_paths_1 {S R:Type} (a1:Int) (a2:Int×(List (Int×Int×Int×Bool))) (yl:Int×(List Int)→S→Option (Step S R)) (s0:S) {r:Sum S R} (h:progress_graph_paths_1 S R a1 a2 yl s0=some r):IC Try.prog 108 [(1000,.box 3 [.ii a1]),(1001,.box 69 [.ii a2.1,.sl Y7 a2.2]),(1002,.box 81 [.fn (.func 67) [] []])] [.bp 1000 0,.bp 1001 0,.bp 1002 0] (fun (y:Int×(List Int))=>[.ii y.1,.sl (.int .i64) y.2]) yl s0 r:=by
 unfold progress_graph_paths_1 at h
 refine IC.of_body Try.func108 rfl (by kernel_rfl) rfl (nt:=74) rfl (by decide) (by simp) ?_
 intro Γ Γx lp hΓ hΓx hY
 refine zo ?_
 refine zB [(0,.fn (.yield lp) [] []),(2,.bp 1001 0),(3,.bp 1002 0),(5,.own 11),(6,.own 12)] [(11,.arr 3 (.int .i64) [a1]),(12,.arr 25 (.sl (.int .i64)) [[]]),(1000,.box 3 [.ii a1]),(1001,.box 69 [.ii a2.1,.sl Y7 a2.2]),(1002,.box 81 [.fn (.func 67) [] []])] ?_
 refine zo ?_
 refine zB [(0,.fn (.yield lp) [] []),(2,.bp 1001 0),(3,.bp 1002 0),(5,.own 11),(6,.own 12),(7,.ii 0)] [(11,.arr 3 (.int .i64) [a1]),(12,.arr 25 (.sl (.int .i64)) [[]]),(1000,.box 3 [.ii a1]),(1001,.box 69 [.ii a2.1,.sl Y7 a2.2]),(1002,.box 81 [.fn (.func 67) [] []])] ?_
 refine AW.block ?_
 obtain ⟨rv5,hw1,ho2⟩:=zw h
 refine AW.loopO (progress_graph_paths_1_b1 S R a2 yl) (fun st1=>⟨fr [(0,.fn (.yield lp) [] []),(2,.bp 1001 0),(3,.bp 1002 0),(5,.own 11),(6,.own 12),(7,.ii st1.2.2.1)],hpGet [(11,.arr 3 (.int .i64) st1.1),(12,.arr 25 (.sl (.int .i64)) st1.2.1),(1000,.box 3 [.ii a1]),(1001,.box 69 [.ii a2.1,.sl Y7 a2.2]),(1002,.box 81 [.fn (.func 67) [] []])],(Γ st1.2.2.2)⟩) ([a1],[[]],0,s0) hw1 (zL [] [] []) ?_
 as_aux_lemma =>
  intro st1 x4 h hd3
  unfold progress_graph_paths_1_b1 at h
  refine AW.seq ?_
  refine zo ?_
  refine zB [(0,.fn (.yield lp) [] []),(2,.bp 1001 0),(3,.bp 1002 0),(5,.own 11),(6,.own 12),(7,.ii st1.2.2.1),(16,.bool (decide (st1.2.2.1<(st1.1.length:Int))))] [(11,.arr 3 (.int .i64) st1.1),(12,.arr 25 (.sl (.int .i64)) st1.2.1),(1000,.box 3 [.ii a1]),(1001,.box 69 [.ii a2.1,.sl Y7 a2.2]),(1002,.box 81 [.fn (.func 67) [] []])] ?_
  refine zQ h (fun hb6 h=>?_) (fun hb6 h=>?_)
  ·refine zk ?_
   refine AW.have1 (fun b1:(List Int)×(List (List Int))×S=>progress_graph_paths_1_k1 S R st1 b1=some x4) (fun b1=>⟨fr [(0,.fn (.yield lp) [] []),(2,.bp 1001 0),(3,.bp 1002 0),(5,.own 11),(6,.own 12),(7,.ii st1.2.2.1)],hpGet [(11,.arr 3 (.int .i64) b1.1),(12,.arr 25 (.sl (.int .i64)) b1.2.1),(1000,.box 3 [.ii a1]),(1001,.box 69 [.ii a2.1,.sl Y7 a2.2]),(1002,.box 81 [.fn (.func 67) [] []])],(Γ b1.2.2)⟩) (fun b1 h=>?_) (fun hk_progress_graph_paths_1_k1=>?_)
   ·as_aux_lemma =>
     unfold progress_graph_paths_1_k1 at h
     refine AW.ops ?_
     obtain ⟨c7,h⟩:=ck_some.1 h
     refine zA [(0,.fn (.yield lp) [] []),(2,.bp 1001 0),(3,.bp 1002 0),(5,.own 11),(6,.own 12),(7,.ii (st1.2.2.1+1))] [(11,.arr 3 (.int .i64) b1.1),(12,.arr 25 (.sl (.int .i64)) b1.2.1),(1000,.box 3 [.ii a1]),(1001,.box 69 [.ii a2.1,.sl Y7 a2.2]),(1002,.box 81 [.fn (.func 67) [] []])] ?_
     obtain rfl:=zj h
     exact ⟨_,rfl,zL [] [] []⟩
   refine AW.seq ?_
   refine AW.block ?_
   refine AW.seq ?_
   refine AW.seq ?_
   refine AW.drawTail tab_ok mixed_ok 9 [] [] (by decide) (by kernel_rfl) (by kernel_rfl) (by decide) ?_
   dsimp only [List.take_succ_cons,List.take_zero]
   obtain ⟨c9,h⟩:=ck_some.1 h
   obtain ⟨c10,h⟩:=ck_some.1 h
   refine adops_cut 6 (fun K' hK8=>?_)
   try dsimp only [y1,y2,y3,y4]
   simp only [go_sem,hb6]
   repeat with_reducible refine zN ?_
   refine hK8 _ ?_
   as_aux_lemma =>
    obtain ⟨c12,h⟩:=ck_some.1 h
    obtain ⟨c13,h⟩:=ck_some.1 h
    refine adops_cut 3 (fun K' hK11=>?_)
    try dsimp only [y1,y2,y3,y4]
    simp only [go_sem,hb6]
    repeat with_reducible refine zN ?_
    refine hK11 _ ?_
    refine adops_nil ?_
    refine zT [(0,.fn (.yield lp) [] []),(2,.bp 1001 0),(3,.bp 1002 0),(5,.own 11),(6,.own 12),(7,.ii st1.2.2.1),(19,.fn (.yield lp) [] []),(23,.ii (st1.1.getD st1.2.2.1.toNat 0)),(27,.sl (.int .i64) (st1.2.1.getD st1.2.2.1.toNat []))] [(11,.arr 3 (.int .i64) st1.1),(12,.arr 25 (.sl (.int .i64)) st1.2.1),(1000,.box 3 [.ii a1]),(1001,.box 69 [.ii a2.1,.sl Y7 a2.2]),(1002,.box 81 [.fn (.func 67) [] []])] (Γ st1.2.2.2) ?_
    obtain ⟨x14,hx15,h⟩:=zw h
    refine yield_op rfl rfl rfl (by decide) _ rfl hY hΓ hΓx ((st1.1.getD st1.2.2.1.toNat 0),(st1.2.1.getD st1.2.2.1.toNat [])) [] (by (simp only [go_sem,hb6])<;>(with_reducible and_intros)<;>first|assumption|rfl|omega|(unfold maxLen; omega)) hx15 ?_
    cases x14 with
    | next s =>
     try simp only at h
     refine zT [(0,.fn (.yield lp) [] []),(2,.bp 1001 0),(3,.bp 1002 0),(5,.own 11),(6,.own 12),(7,.ii st1.2.2.1),(28,.bool true)] [(11,.arr 3 (.int .i64) st1.1),(12,.arr 25 (.sl (.int .i64)) st1.2.1),(1000,.box 3 [.ii a1]),(1001,.box 69 [.ii a2.1,.sl Y7 a2.2]),(1002,.box 81 [.fn (.func 67) [] []])] (Γ s) ?_
     refine zB [(0,.fn (.yield lp) [] []),(2,.bp 1001 0),(3,.bp 1002 0),(5,.own 11),(6,.own 12),(7,.ii st1.2.2.1),(29,.bool false)] [(11,.arr 3 (.int .i64) st1.1),(12,.arr 25 (.sl (.int .i64)) st1.2.1),(1000,.box 3 [.ii a1]),(1001,.box 69 [.ii a2.1,.sl Y7 a2.2]),(1002,.box 81 [.fn (.func 67) [] []])] ?_
     refine AW.cond (b:=false) rfl (fun hb16=>by cases hb16) (fun _=>?_)
     refine zk ?_
     refine zo ?_
     refine zB [(0,.fn (.yield lp) [] []),(2,.bp 1001 0),(3,.bp 1002 0),(5,.own 11),(6,.own 12),(7,.ii st1.2.2.1),(31,.sl Y7 a2.2),(32,.ii (a2.2.length:Int)),(33,.ii 0)] [(11,.arr 3 (.int .i64) st1.1),(12,.arr 25 (.sl (.int .i64)) st1.2.1),(1000,.box 3 [.ii a1]),(1001,.box 69 [.ii a2.1,.sl Y7 a2.2]),(1002,.box 81 [.fn (.func 67) [] []])] ?_
     refine AW.block ?_
     obtain ⟨rv21,hw17,ho18⟩:=zw h
     refine AW.loopO (progress_graph_paths_1_b2 S R a2 st1) (fun st2=>⟨fr [(0,.fn (.yield lp) [] []),(2,.bp 1001 0),(3,.bp 1002 0),(5,.own 11),(6,.own 12),(7,.ii st1.2.2.1),(31,.sl Y7 a2.2),(32,.ii (a2.2.length:Int)),(33,.ii st2.2.2)],hpGet [(11,.arr 3 (.int .i64) st2.1),(12,.arr 25 (.sl (.int .i64)) st2.2.1),(1000,.box 3 [.ii a1]),(1001,.box 69 [.ii a2.1,.sl Y7 a2.2]),(1002,.box 81 [.fn (.func 67) [] []])],(Γ s)⟩) (st1.1,st1.2.1,0) hw17 (zL [] [] []) ?_
     as_aux_lemma =>
      intro st2 x20 h hd19
      unfold progress_graph_paths_1_b2 at h
      refine zo ?_
      refine zB [(0,.fn (.yield lp) [] []),(2,.bp 1001 0),(3,.bp 1002 0),(5,.own 11),(6,.own 12),(7,.ii st1.2.2.1),(31,.sl Y7 a2.2),(32,.ii (a2.2.length:Int)),(33,.ii st2.2.2),(34,.bool (decide (st2.2.2<(a2.2.length:Int))))] [(11,.arr 3 (.int .i64) st2.1),(12,.arr 25 (.sl (.int .i64)) st2.2.1),(1000,.box 3 [.ii a1]),(1001,.box 69 [.ii a2.1,.sl Y7 a2.2]),(1002,.box 81 [.fn (.func 67) [] []])] ?_
      refine AW.seq ?_
      refine zQ h (fun hb22 h=>?_) (fun hb22 h=>?_)
      ·refine zk ?_
       refine AW.seq ?_
       refine AW.block ?_
       refine zo ?_
       obtain ⟨c23,h⟩:=ck_some.1 h
       obtain ⟨c24,h⟩:=ck_some.1 h
       refine zS 5 [(0,.fn (.yield lp) [] []),(2,.bp 1001 0),(3,.bp 1002 0),(5,.own 11),(6,.own 12),(7,.ii st1.2.2.1),(8,.ii st2.2.2),(9,.bp 9 0),(31,.sl Y7 a2.2),(32,.ii (a2.2.length:Int)),(33,.ii st2.2.2),(37,.agg [.ii (a2.2.getD st2.2.2.toNat (0,0,0,false)).1,.ii (a2.2.getD st2.2.2.toNat (0,0,0,false)).2.1,.ii (a2.2.getD st2.2.2.toNat (0,0,0,false)).2.2.1,.bool (a2.2.getD st2.2.2.toNat (0,0,0,false)).2.2.2])] [(9,.box 61 [.ii 0,.ii 0,.ii 0,.bool false]),(11,.arr 3 (.int .i64) st2.1),(12,.arr 25 (.sl (.int .i64)) st2.2.1),(1000,.box 3 [.ii a1]),(1001,.box 69 [.ii a2.1,.sl Y7 a2.2]),(1002,.box 81 [.fn (.func 67) [] []])] ?_
       refine zB [(0,.fn (.yield lp) [] []),(2,.bp 1001 0),(3,.bp 1002 0),(5,.own 11),(6,.own 12),(7,.ii st1.2.2.1),(8,.ii st2.2.2),(9,.bp 9 0),(31,.sl Y7 a2.2),(32,.ii (a2.2.length:Int)),(33,.ii st2.2.2)] [(9,.box 61 [.ii (a2.2.getD st2.2.2.toNat (0,0,0,false)).1,.ii (a2.2.getD st2.2.2.toNat (0,0,0,false)).2.1,.ii (a2.2.getD st2.2.2.toNat (0,0,0,false)).2.2.1,.bool (a2.2.getD st2.2.2.toNat (0,0,0,false)).2.2.2]),(11,.arr 3 (.int .i64) st2.1),(12,.arr 25 (.sl (.int .i64)) st2.2.1),(1000,.box 3 [.ii a1]),(1001,.box 69 [.ii a2.1,.sl Y7 a2.2]),(1002,.box 81 [.fn (.func 67) [] []])] ?_
       refine AW.seq ?_
       refine AW.draw tab_ok mixed_ok [] [] (by decide) (lex_fast (by kernel_rfl)) ?_
       as_aux_lemma =>
        obtain ⟨c26,h⟩:=ck_some.1 h
        obtain ⟨c27,h⟩:=ck_some.1 h
        refine adops_cut 6 (fun K' hK25=>?_)
        try dsimp only [y1,y2,y3,y4]
        simp only [go_sem,hb6,hb22]
        repeat with_reducible refine zN ?_
        refine hK25 _ ?_
        as_aux_lemma =>
         refine adops_cut 2 (fun K' hK28=>?_)
         try dsimp only [y1,y2,y3,y4]
         simp only [go_sem,hb6,hb22]
         repeat with_reducible refine zN ?_
         refine hK28 _ ?_
         as_aux_lemma =>
          rcases zI h with ⟨hb29,h⟩|⟨hb29,h⟩
          ·simp only [hb29]
           as_aux_lemma =>
            refine adops_cut 2 (fun K' hK30=>?_)
            try dsimp only [y1,y2,y3,y4]
            simp only [go_sem,hb6,hb22,hb29]
            repeat with_reducible refine zN ?_
            refine hK30 _ ?_
            as_aux_lemma =>
             obtain ⟨v0,hv31,h⟩:=zw h
             refine adops.call (by first|trivial|rfl) rfl rfl rfl (fun _ h=>⟨fun _=>h,fun hn=>absurd rfl hn⟩) [] [] (hc_progress_anyMove (a2.2.getD st2.2.2.toNat (0,0,0,false)) hv31) rfl (by (simp only [go_sem,hb6,hb22,hb29])<;>(with_reducible and_intros)<;>first|assumption|rfl|omega|(unfold maxLen; omega)) (by (simp only [go_sem,hb6,hb22,hb29])<;>(with_reducible and_intros)<;>first|assumption|rfl|omega|(unfold maxLen; omega)) rfl ?_
             refine adops_cut 5 (fun K' hK32=>?_)
             try dsimp only [y1,y2,y3,y4]
             simp only [go_sem,hb6,hb22,hb29]
             repeat with_reducible refine zN ?_
             refine hK32 _ ?_
             as_aux_lemma =>
              obtain ⟨v0_2,hv33,h⟩:=zw h
              refine adops.call (by first|trivial|rfl) rfl rfl rfl (fun _ h=>⟨fun _=>h,fun hn=>absurd rfl hn⟩) [11] [] (hc_slices_Contains_2 st2.1 (a2.2.getD st2.2.2.toNat (0,0,0,false)).2.2.1 hv33) rfl (by (simp only [go_sem,hb6,hb22,hb29])<;>(with_reducible and_intros)<;>first|assumption|rfl|omega|(unfold maxLen; omega)) (by (simp only [go_sem,hb6,hb22,hb29])<;>(with_reducible and_intros)<;>first|assumption|rfl|omega|(unfold maxLen; omega)) rfl ?_
              refine adops_cut 2 (fun K' hK34=>?_)
              try dsimp only [y1,y2,y3,y4]
              simp only [go_sem,hb6,hb22,hb29]
              repeat with_reducible refine zN ?_
              refine hK34 _ ?_
              refine adops_nil ?_
              refine athen_n ?_
              refine zV [(0,.fn (.yield lp) [] []),(2,.bp 1001 0),(3,.bp 1002 0),(5,.own 11),(6,.own 12),(7,.ii st1.2.2.1),(8,.ii st2.2.2),(9,.bp 9 0),(31,.sl Y7 a2.2),(32,.ii (a2.2.length:Int)),(33,.ii st2.2.2),(56,.bool (!v0_2))] [(9,.box 61 [.ii (a2.2.getD st2.2.2.toNat (0,0,0,false)).1,.ii (a2.2.getD st2.2.2.toNat (0,0,0,false)).2.1,.ii (a2.2.getD st2.2.2.toNat (0,0,0,false)).2.2.1,.bool (a2.2.getD st2.2.2.toNat (0,0,0,false)).2.2.2]),(11,.arr 3 (.int .i64) st2.1),(12,.arr 25 (.sl (.int .i64)) st2.2.1),(1000,.box 3 [.ii a1]),(1001,.box 69 [.ii a2.1,.sl Y7 a2.2]),(1002,.box 81 [.fn (.func 67) [] []])] (Γ s) ?_
              as_aux_lemma =>
               refine zQ h (fun hb35 h=>?_) (fun hb35 h=>?_)
               ·refine zo ?_
                obtain ⟨c36,h⟩:=ck_some.1 h
                refine zS 5 [(0,.fn (.yield lp) [] []),(2,.bp 1001 0),(3,.bp 1002 0),(6,.own 12),(7,.ii st1.2.2.1),(8,.ii st2.2.2),(31,.sl Y7 a2.2),(32,.ii (a2.2.length:Int)),(33,.ii st2.2.2),(61,.own 61)] [(12,.arr 25 (.sl (.int .i64)) st2.2.1),(61,.arr 3 (.int .i64) (st2.1++[(a2.2.getD st2.2.2.toNat (0,0,0,false)).2.2.1])),(1000,.box 3 [.ii a1]),(1001,.box 69 [.ii a2.1,.sl Y7 a2.2]),(1002,.box 81 [.fn (.func 67) [] []])] ?_
                refine zB [(0,.fn (.yield lp) [] []),(2,.bp 1001 0),(3,.bp 1002 0),(5,.own 61),(6,.own 12),(7,.ii st1.2.2.1),(8,.ii st2.2.2),(31,.sl Y7 a2.2),(32,.ii (a2.2.length:Int)),(33,.ii st2.2.2)] [(12,.arr 25 (.sl (.int .i64)) st2.2.1),(61,.arr 3 (.int .i64) (st2.1++[(a2.2.getD st2.2.2.toNat (0,0,0,false)).2.2.1])),(1000,.box 3 [.ii a1]),(1001,.box 69 [.ii a2.1,.sl Y7 a2.2]),(1002,.box 81 [.fn (.func 67) [] []])] ?_
                refine AW.ops ?_
                obtain ⟨c37,h⟩:=ck_some.1 h
                obtain ⟨c38,h⟩:=ck_some.1 h
                refine zS 5 [(0,.fn (.yield lp) [] []),(2,.bp 1001 0),(3,.bp 1002 0),(5,.own 61),(7,.ii st1.2.2.1),(8,.ii st2.2.2),(31,.sl Y7 a2.2),(32,.ii (a2.2.length:Int)),(33,.ii st2.2.2),(62,.own 12),(66,.sl (.int .i64) (st2.2.1.getD st1.2.2.1.toNat []))] [(12,.arr 25 (.sl (.int .i64)) st2.2.1),(61,.arr 3 (.int .i64) (st2.1++[(a2.2.getD st2.2.2.toNat (0,0,0,false)).2.2.1])),(1000,.box 3 [.ii a1]),(1001,.box 69 [.ii a2.1,.sl Y7 a2.2]),(1002,.box 81 [.fn (.func 67) [] []])] ?_
                refine zS 3 [(0,.fn (.yield lp) [] []),(2,.bp 1001 0),(3,.bp 1002 0),(5,.own 61),(7,.ii st1.2.2.1),(31,.sl Y7 a2.2),(32,.ii (a2.2.length:Int)),(33,.ii st2.2.2),(62,.own 12),(69,.own 69)] [(12,.arr 25 (.sl (.int .i64)) st2.2.1),(61,.arr 3 (.int .i64) (st2.1++[(a2.2.getD st2.2.2.toNat (0,0,0,false)).2.2.1])),(69,.arr 25 (.sl (.int .i64)) [(st2.2.1.getD st1.2.2.1.toNat []),[st2.2.2]]),(1000,.box 3 [.ii a1]),(1001,.box 69 [.ii a2.1,.sl Y7 a2.2]),(1002,.box 81 [.fn (.func 67) [] []])] ?_
                obtain ⟨v0_3,hv39,h⟩:=zw h
                refine zC [69] [] (hc_slices_Concat [(st2.2.1.getD st1.2.2.1.toNat []),[st2.2.2]] hv39) [(0,.fn (.yield lp) [] []),(2,.bp 1001 0),(3,.bp 1002 0),(5,.own 61),(7,.ii st1.2.2.1),(31,.sl Y7 a2.2),(32,.ii (a2.2.length:Int)),(33,.ii st2.2.2),(62,.own 12),(70,.own 80000)] [(12,.arr 25 (.sl (.int .i64)) st2.2.1),(61,.arr 3 (.int .i64) (st2.1++[(a2.2.getD st2.2.2.toNat (0,0,0,false)).2.2.1])),(1000,.box 3 [.ii a1]),(1001,.box 69 [.ii a2.1,.sl Y7 a2.2]),(1002,.box 81 [.fn (.func 67) [] []]),(80000,.arr 3 (.int .i64) v0_3)] ?_
                obtain ⟨c40,h⟩:=ck_some.1 h
                refine zA [(0,.fn (.yield lp) [] []),(2,.bp 1001 0),(3,.bp 1002 0),(5,.own 61),(6,.own 72),(7,.ii st1.2.2.1),(31,.sl Y7 a2.2),(32,.ii (a2.2.length:Int)),(33,.ii st2.2.2)] [(61,.arr 3 (.int .i64) (st2.1++[(a2.2.getD st2.2.2.toNat (0,0,0,false)).2.2.1])),(72,.arr 25 (.sl (.int .i64)) (st2.2.1++[v0_3])),(1000,.box 3 [.ii a1]),(1001,.box 69 [.ii a2.1,.sl Y7 a2.2]),(1002,.box 81 [.fn (.func 67) [] []])] ?_
                refine ablock_n ?_
                refine athen_n ?_
                refine AW.ops ?_
                obtain ⟨c41,h⟩:=ck_some.1 h
                refine zA [(0,.fn (.yield lp) [] []),(2,.bp 1001 0),(3,.bp 1002 0),(5,.own 61),(6,.own 72),(7,.ii st1.2.2.1),(31,.sl Y7 a2.2),(32,.ii (a2.2.length:Int)),(33,.ii (st2.2.2+1))] [(61,.arr 3 (.int .i64) (st2.1++[(a2.2.getD st2.2.2.toNat (0,0,0,false)).2.2.1])),(72,.arr 25 (.sl (.int .i64)) (st2.2.1++[v0_3])),(1000,.box 3 [.ii a1]),(1001,.box 69 [.ii a2.1,.sl Y7 a2.2]),(1002,.box 81 [.fn (.func 67) [] []])] ?_
                obtain rfl:=zj h
                exact ⟨_,rfl,zL [] [] [(11,61),(12,72)]⟩
               refine zm ?_
               refine athen_n ?_
               refine AW.ops ?_
               obtain ⟨c42,h⟩:=ck_some.1 h
               refine zA [(0,.fn (.yield lp) [] []),(2,.bp 1001 0),(3,.bp 1002 0),(5,.own 11),(6,.own 12),(7,.ii st1.2.2.1),(31,.sl Y7 a2.2),(32,.ii (a2.2.length:Int)),(33,.ii (st2.2.2+1))] [(11,.arr 3 (.int .i64) st2.1),(12,.arr 25 (.sl (.int .i64)) st2.2.1),(1000,.box 3 [.ii a1]),(1001,.box 69 [.ii a2.1,.sl Y7 a2.2]),(1002,.box 81 [.fn (.func 67) [] []])] ?_
               obtain rfl:=zj h
               exact ⟨_,rfl,zL [] [] []⟩
          simp only [hb29]
          as_aux_lemma =>
           refine adops_cut 6 (fun K' hK43=>?_)
           try dsimp only [y1,y2,y3,y4]
           simp only [go_sem,hb6,hb22,hb29]
           repeat with_reducible refine zN ?_
           refine hK43 _ ?_
           as_aux_lemma =>
            refine adops_cut 4 (fun K' hK44=>?_)
            try dsimp only [y1,y2,y3,y4]
            simp only [go_sem,hb6,hb22,hb29]
            repeat with_reducible refine zN ?_
            refine hK44 _ ?_
            as_aux_lemma =>
             refine adops_cut 1 (fun K' hK45=>?_)
             try dsimp only [y1,y2,y3,y4]
             simp only [go_sem,hb6,hb22,hb29]
             repeat with_reducible refine zN ?_
             refine hK45 _ ?_
             refine adops_nil ?_
             refine athen_n ?_
             refine zV [(0,.fn (.yield lp) [] []),(2,.bp 1001 0),(3,.bp 1002 0),(5,.own 11),(6,.own 12),(7,.ii st1.2.2.1),(8,.ii st2.2.2),(9,.bp 9 0),(31,.sl Y7 a2.2),(32,.ii (a2.2.length:Int)),(33,.ii st2.2.2),(56,.bool false)] [(9,.box 61 [.ii (a2.2.getD st2.2.2.toNat (0,0,0,false)).1,.ii (a2.2.getD st2.2.2.toNat (0,0,0,false)).2.1,.ii (a2.2.getD st2.2.2.toNat (0,0,0,false)).2.2.1,.bool (a2.2.getD st2.2.2.toNat (0,0,0,false)).2.2.2]),(11,.arr 3 (.int .i64) st2.1),(12,.arr 25 (.sl (.int .i64)) st2.2.1),(1000,.box 3 [.ii a1]),(1001,.box 69 [.ii a2.1,.sl Y7 a2.2]),(1002,.box 81 [.fn (.func 67) [] []])] (Γ s) ?_
             as_aux_lemma =>
              refine AW.cond (b:=false) rfl (fun hb46=>by cases hb46) (fun _=>?_)
              refine zm ?_
              refine athen_n ?_
              refine AW.ops ?_
              obtain ⟨c47,h⟩:=ck_some.1 h
              refine zA [(0,.fn (.yield lp) [] []),(2,.bp 1001 0),(3,.bp 1002 0),(5,.own 11),(6,.own 12),(7,.ii st1.2.2.1),(31,.sl Y7 a2.2),(32,.ii (a2.2.length:Int)),(33,.ii (st2.2.2+1))] [(11,.arr 3 (.int .i64) st2.1),(12,.arr 25 (.sl (.int .i64)) st2.2.1),(1000,.box 3 [.ii a1]),(1001,.box 69 [.ii a2.1,.sl Y7 a2.2]),(1002,.box 81 [.fn (.func 67) [] []])] ?_
              obtain rfl:=zj h
              exact ⟨_,rfl,zL [] [] []⟩
      refine AW.exit ?_
      refine athen_e ?_
      obtain rfl:=zj h
      rw [← hd19 _ rfl] at ho18
      have h:=ho18
      refine athen_e ?_
      refine ablock_s ?_
      refine ablock_n ?_
      refine athen_n ?_
      exact AW.weaken (zL [] [] []) (hk_progress_graph_paths_1_k1 _ h)
    | done e =>
     try simp only at h
     refine zT [(0,.fn (.yield lp) [] []),(2,.bp 1001 0),(3,.bp 1002 0),(5,.own 11),(6,.own 12),(7,.ii st1.2.2.1),(28,.bool false)] [(11,.arr 3 (.int .i64) st1.1),(12,.arr 25 (.sl (.int .i64)) st1.2.1),(1000,.box 3 [.ii a1]),(1001,.box 69 [.ii a2.1,.sl Y7 a2.2]),(1002,.box 81 [.fn (.func 67) [] []])] (Γx e) ?_
     refine zB [(0,.fn (.yield lp) [] []),(2,.bp 1001 0),(3,.bp 1002 0),(5,.own 11),(6,.own 12),(7,.ii st1.2.2.1),(29,.bool true)] [(11,.arr 3 (.int .i64) st1.1),(12,.arr 25 (.sl (.int .i64)) st1.2.1),(1000,.box 3 [.ii a1]),(1001,.box 69 [.ii a2.1,.sl Y7 a2.2]),(1002,.box 81 [.fn (.func 67) [] []])] ?_
     refine AW.cond (b:=true) rfl (fun _=>?_) (fun hb48=>by cases hb48)
     refine zr ?_
     refine ablock_r ?_
     refine athen_r ?_
     obtain rfl:=zj h
     rw [← hd3 _ rfl] at ho2
     have h:=ho2
     try simp only at h
     refine athen_r ?_
     refine ablock_r ?_
     obtain rfl:=zj h
     exact rfl
  refine AW.exit ?_
  refine athen_e ?_
  obtain rfl:=zj h
  rw [← hd3 _ rfl] at ho2
  have h:=ho2
  try simp only at h
  refine athen_e ?_
  refine ablock_s ?_
  obtain rfl:=zj h
  exact rfl
theorem hc_cmp_isNaN (x0:Int) {r:Unit} (h:cmp_isNaN x0=some r):HC Try.prog 130 [] [.ii x0] [] (.bool false):=by
 unfold cmp_isNaN at h
 refine zH Try.func130 [.tmp 2] 6 ?_
 refine zo ?_
 refine zB [(0,.ii x0)] [] ?_
 refine zo ?_
 refine zB [(2,.bool false)] [] ?_
 refine AW.ret ?_
 obtain rfl:=zj h
 exact zR [] [] []
theorem hc_cmp_Less (x0:Int) (y:Int) {r:Unit} (h:cmp_Less x0 y=some r):HC Try.prog 120 [] [.ii x0,.ii y] [] (.bool (decide (x0<y))):=by
 unfold cmp_Less at h
 refine zH Try.func120 [.tmp 4] 17 ?_
 refine zo ?_
 refine zB [(0,.ii x0),(1,.ii y)] [] ?_
 refine zo ?_
 refine zS 1 [(0,.ii x0),(1,.ii y),(5,.ii x0)] [] ?_
 obtain ⟨v0,hv1,h⟩:=zw h
 refine zC [] [] (hc_cmp_isNaN x0 hv1) [(0,.ii x0),(1,.ii y),(6,.bool false)] [] ?_
 refine zS 5 [(0,.ii x0),(1,.ii y),(11,.bool false)] [] ?_
 refine zS 5 [(16,.bool (decide (x0<y)))] [] ?_
 refine zB [(4,.bool (decide (x0<y)))] [] ?_
 refine AW.ret ?_
 obtain rfl:=zj h
 exact zR [] [] []
theorem hc_slices_insertionSortOrdered (a:Int) (b:Int) (data:List Int) {r:(List Int)} (h:slices_insertionSortOrdered a b data=some r):HC Try.prog 114 [(1000,.arr 3 (.int .i64) data)] [.own 1000,.ii a,.ii b] [(1000,.arr 3 (.int .i64) r)] (.tup []):=by
 unfold slices_insertionSortOrdered at h
 refine zH Try.func114 [] 49 ?_
 refine zo ?_
 obtain ⟨c1,h⟩:=ck_some.1 h
 refine zB [(0,.own 1000),(1,.ii a),(2,.ii b),(6,.ii (a+1))] [(1000,.arr 3 (.int .i64) data)] ?_
 refine AW.block ?_
 obtain ⟨rv6,hw2,ho3⟩:=zw h
 refine AW.loopO (slices_insertionSortOrdered_b1 a b) (fun st1=>⟨fr [(0,.own 1000),(1,.ii a),(2,.ii b),(6,.ii st1.2)],hpGet [(1000,.arr 3 (.int .i64) st1.1)],gt⟩) (data,(a+1)) hw2 (zL [] [] []) ?_
 as_aux_lemma =>
  intro st1 x5 h hd4
  unfold slices_insertionSortOrdered_b1 at h
  refine AW.seq ?_
  refine zo ?_
  refine zB [(0,.own 1000),(1,.ii a),(2,.ii b),(6,.ii st1.2),(12,.bool (decide (st1.2<b)))] [(1000,.arr 3 (.int .i64) st1.1)] ?_
  refine zQ h (fun hb7 h=>?_) (fun hb7 h=>?_)
  ·refine zk ?_
   refine AW.have1 (fun b1:(List Int)=>slices_insertionSortOrdered_k1 st1 b1=some x5) (fun b1=>⟨fr [(0,.own 1000),(1,.ii a),(2,.ii b),(6,.ii st1.2)],hpGet [(1000,.arr 3 (.int .i64) b1)],gt⟩) (fun b1 h=>?_) (fun hk_slices_insertionSortOrdered_k1=>?_)
   ·as_aux_lemma =>
     unfold slices_insertionSortOrdered_k1 at h
     refine AW.ops ?_
     obtain ⟨c8,h⟩:=ck_some.1 h
     refine zA [(0,.own 1000),(1,.ii a),(2,.ii b),(6,.ii (st1.2+1))] [(1000,.arr 3 (.int .i64) b1)] ?_
     obtain rfl:=zj h
     exact ⟨_,rfl,zL [] [] []⟩
   refine AW.seq ?_
   refine AW.block ?_
   refine zo ?_
   refine zB [(0,.own 1000),(1,.ii a),(2,.ii b),(6,.ii st1.2),(7,.ii st1.2)] [(1000,.arr 3 (.int .i64) st1.1)] ?_
   refine AW.block ?_
   obtain ⟨rv13,hw9,ho10⟩:=zw h
   refine AW.loopO (slices_insertionSortOrdered_b2 a) (fun st2=>⟨fr [(0,.own 1000),(1,.ii a),(2,.ii b),(6,.ii st1.2),(7,.ii st2.2)],hpGet [(1000,.arr 3 (.int .i64) st2.1)],gt⟩) st1 hw9 (zL [] [] []) ?_
   as_aux_lemma =>
    intro st2 x12 h hd11
    unfold slices_insertionSortOrdered_b2 at h
    refine AW.seq ?_
    refine AW.seq ?_
    refine AW.draw tab_ok mixed_ok [] [] (by decide) (lex_fast (by kernel_rfl)) ?_
    as_aux_lemma =>
     refine adops_cut 4 (fun K' hK14=>?_)
     try dsimp only [y1,y2,y3,y4]
     simp only [go_sem,hb7]
     repeat with_reducible refine zN ?_
     refine hK14 _ ?_
     as_aux_lemma =>
      rcases zI h with ⟨hb15,h⟩|⟨hb15,h⟩
      ·simp only [hb15]
       as_aux_lemma =>
        obtain ⟨c17,h⟩:=ck_some.1 h
        obtain ⟨c18,h⟩:=ck_some.1 h
        refine adops_cut 6 (fun K' hK16=>?_)
        try dsimp only [y1,y2,y3,y4]
        simp only [go_sem,hb7,hb15]
        repeat with_reducible refine zN ?_
        refine hK16 _ ?_
        as_aux_lemma =>
         obtain ⟨c20,h⟩:=ck_some.1 h
         obtain ⟨c21,h⟩:=ck_some.1 h
         obtain ⟨c22,h⟩:=ck_some.1 h
         refine adops_cut 3 (fun K' hK19=>?_)
         try dsimp only [y1,y2,y3,y4]
         simp only [go_sem,hb7,hb15]
         repeat with_reducible refine zN ?_
         refine hK19 _ ?_
         as_aux_lemma =>
          obtain ⟨v0,hv23,h⟩:=zw h
          refine adops.call (by first|trivial|rfl) rfl rfl rfl (fun _ h=>⟨fun _=>h,fun hn=>absurd rfl hn⟩) [] [] (hc_cmp_Less (st2.1.getD st2.2.toNat 0) (st2.1.getD (st2.2 - 1).toNat 0) hv23) rfl (by (simp only [go_sem,hb7,hb15])<;>(with_reducible and_intros)<;>first|assumption|rfl|omega|(unfold maxLen; omega)) (by (simp only [go_sem,hb7,hb15])<;>(with_reducible and_intros)<;>first|assumption|rfl|omega|(unfold maxLen; omega)) rfl ?_
          refine adops_cut 1 (fun K' hK24=>?_)
          try dsimp only [y1,y2,y3,y4]
          simp only [go_sem,hb7,hb15]
          repeat with_reducible refine zN ?_
          refine hK24 _ ?_
          refine adops_nil ?_
          refine athen_n ?_
          refine zV [(0,.own 1000),(1,.ii a),(2,.ii b),(6,.ii st1.2),(7,.ii st2.2),(30,.bool (decide ((st2.1.getD st2.2.toNat 0)<(st2.1.getD (st2.2 - 1).toNat 0))))] [(1000,.arr 3 (.int .i64) st2.1)] gt ?_
          as_aux_lemma =>
           refine zQ h (fun hb25 h=>?_) (fun hb25 h=>?_)
           ·refine zk ?_
            refine AW.seq ?_
            refine AW.block ?_
            refine AW.draw tab_ok mixed_ok [(15,[1000]),(17,[1000])] [(2,[1000]),(3,[]),(4,[]),(100015,[]),(100017,[])] (by decide) (lex_fast (by kernel_rfl)) ?_
            as_aux_lemma =>
             obtain ⟨c27,h⟩:=ck_some.1 h
             refine adops_cut 6 (fun K' hK26=>?_)
             try dsimp only [y1,y2,y3,y4]
             simp only [go_sem,hb7,hb15,hb25]
             repeat with_reducible refine zN ?_
             refine hK26 _ ?_
             as_aux_lemma =>
              obtain ⟨c29,h⟩:=ck_some.1 h
              obtain ⟨c30,h⟩:=ck_some.1 h
              obtain ⟨c31,h⟩:=ck_some.1 h
              refine adops_cut 6 (fun K' hK28=>?_)
              try dsimp only [y1,y2,y3,y4]
              simp only [go_sem,hb7,hb15,hb25]
              repeat with_reducible refine zN ?_
              refine hK28 _ ?_
              as_aux_lemma =>
               obtain ⟨c33,h⟩:=ck_some.1 h
               obtain ⟨c34,h⟩:=ck_some.1 h
               obtain ⟨c35,h⟩:=ck_some.1 h
               obtain ⟨c36,h⟩:=ck_some.1 h
               obtain ⟨c37,h⟩:=ck_some.1 h
               obtain ⟨c38,h⟩:=ck_some.1 h
               refine adops_cut 6 (fun K' hK32=>?_)
               try dsimp only [y1,y2,y3,y4]
               simp only [go_sem,hb7,hb15,hb25]
               repeat with_reducible refine zN ?_
               refine hK32 _ ?_
               refine adops_nil ?_
               refine ablock_n ?_
               refine athen_n ?_
               refine zV [(0,.own 1000),(1,.ii a),(2,.ii b),(6,.ii st1.2),(7,.ii st2.2)] [(1000,.arr 3 (.int .i64) ((st2.1.set st2.2.toNat (st2.1.getD (st2.2 - 1).toNat 0)).set (st2.2 - 1).toNat (st2.1.getD st2.2.toNat 0)))] gt ?_
               as_aux_lemma =>
                refine AW.ops ?_
                obtain ⟨c39,h⟩:=ck_some.1 h
                refine zA [(0,.own 1000),(1,.ii a),(2,.ii b),(6,.ii st1.2),(7,.ii (st2.2 - 1))] [(1000,.arr 3 (.int .i64) ((st2.1.set st2.2.toNat (st2.1.getD (st2.2 - 1).toNat 0)).set (st2.2 - 1).toNat (st2.1.getD st2.2.toNat 0)))] ?_
                obtain rfl:=zj h
                exact ⟨_,rfl,zL [] [] []⟩
           refine AW.exit ?_
           refine athen_e ?_
           obtain rfl:=zj h
           rw [← hd11 _ rfl] at ho10
           have h:=ho10
           refine athen_e ?_
           refine ablock_s ?_
           refine ablock_n ?_
           refine athen_n ?_
           exact AW.weaken (zL [] [] []) (hk_slices_insertionSortOrdered_k1 _ h)
      simp only [hb15]
      as_aux_lemma =>
       refine adops_cut 4 (fun K' hK40=>?_)
       try dsimp only [y1,y2,y3,y4]
       simp only [go_sem,hb7,hb15]
       repeat with_reducible refine zN ?_
       refine hK40 _ ?_
       as_aux_lemma =>
        refine adops_cut 4 (fun K' hK41=>?_)
        try dsimp only [y1,y2,y3,y4]
        simp only [go_sem,hb7,hb15]
        repeat with_reducible refine zN ?_
        refine hK41 _ ?_
        as_aux_lemma =>
         refine adops_cut 3 (fun K' hK42=>?_)
         try dsimp only [y1,y2,y3,y4]
         simp only [go_sem,hb7,hb15]
         repeat with_reducible refine zN ?_
         refine hK42 _ ?_
         refine adops_nil ?_
         refine athen_n ?_
         refine zV [(0,.own 1000),(1,.ii a),(2,.ii b),(6,.ii st1.2),(7,.ii st2.2),(30,.bool false)] [(1000,.arr 3 (.int .i64) st2.1)] gt ?_
         as_aux_lemma =>
          refine AW.cond (b:=false) rfl (fun hb43=>by cases hb43) (fun _=>?_)
          refine AW.exit ?_
          refine athen_e ?_
          obtain rfl:=zj h
          rw [← hd11 _ rfl] at ho10
          have h:=ho10
          refine athen_e ?_
          refine ablock_s ?_
          refine ablock_n ?_
          refine athen_n ?_
          exact AW.weaken (zL [] [] []) (hk_slices_insertionSortOrdered_k1 _ h)
  refine AW.exit ?_
  refine athen_e ?_
  obtain rfl:=zj h
  rw [← hd4 _ rfl] at ho3
  have h:=ho3
  refine athen_e ?_
  refine ablock_s ?_
  obtain rfl:=zj h
  exact zR [] [] []
theorem hc_slices_pdqsortOrdered (a:Int) (b:Int) (limit:Int) (data:List Int) {r:(List Int)} (h:slices_pdqsortOrdered a b limit data=some r):HC Try.prog 110 [(1000,.arr 3 (.int .i64) data)] [.own 1000,.ii a,.ii b,.ii limit] [(1000,.arr 3 (.int .i64) r)] (.tup []):=by
 unfold slices_pdqsortOrdered at h
 refine zH Try.func110 [] 134 ?_
 refine zo ?_
 refine zB [(0,.own 1000),(1,.ii a),(2,.ii b),(3,.ii limit),(8,.bool true)] [(1000,.arr 3 (.int .i64) data)] ?_
 refine zo ?_
 refine zB [(0,.own 1000),(1,.ii a),(2,.ii b),(3,.ii limit),(8,.bool true),(9,.bool true)] [(1000,.arr 3 (.int .i64) data)] ?_
 refine AW.block ?_
 obtain ⟨rv5,hw1,ho2⟩:=zw h
 refine AW.loopO (slices_pdqsortOrdered_b1 a b limit data) (fun st1=>⟨fr [(0,.own 1000),(1,.ii a),(2,.ii b),(3,.ii limit),(8,.bool true),(9,.bool true)],hpGet [(1000,.arr 3 (.int .i64) data)],gt⟩) () hw1 (zL [] [] []) ?_
 as_aux_lemma =>
  intro st1 x4 h hd3
  unfold slices_pdqsortOrdered_b1 at h
  refine AW.block ?_
  refine zo ?_
  obtain ⟨c6,h⟩:=ck_some.1 h
  refine zB [(0,.own 1000),(1,.ii a),(2,.ii b),(3,.ii limit),(8,.bool true),(9,.bool true),(10,.ii (b - a))] [(1000,.arr 3 (.int .i64) data)] ?_
  refine AW.seq ?_
  refine zo ?_
  refine zB [(0,.own 1000),(1,.ii a),(2,.ii b),(3,.ii limit),(8,.bool true),(9,.bool true),(10,.ii (b - a)),(23,.bool (decide ((b - a)≤12)))] [(1000,.arr 3 (.int .i64) data)] ?_
  refine zQ h (fun hb7 h=>?_) (fun hb7 h=>?_)
  ·refine zo ?_
   refine zS 3 [(24,.own 1000),(25,.ii a),(26,.ii b)] [(1000,.arr 3 (.int .i64) data)] ?_
   obtain ⟨v0,hv8,h⟩:=zw h
   refine zC [] [(1000,1000)] (hc_slices_insertionSortOrdered a b data hv8) [] [(1000,.arr 3 (.int .i64) v0)] ?_
   refine zB [] [(1000,.arr 3 (.int .i64) v0)] ?_
   refine zr ?_
   refine ablock_r ?_
   obtain rfl:=zj h
   rw [← hd3 _ rfl] at ho2
   have h:=ho2
   refine athen_r ?_
   refine ablock_r ?_
   obtain rfl:=zj h
   exact zR [] [] []
  refine zk ?_
  refine AW.seq ?_
  refine zo ?_
  refine zB [(0,.own 1000),(1,.ii a),(2,.ii b),(3,.ii limit),(8,.bool true),(9,.bool true),(10,.ii (b - a)),(29,.bool (decide (limit=0)))] [(1000,.arr 3 (.int .i64) data)] ?_
  refine zQ h (fun hb9 h=>?_) (fun hb9 h=>?_)
  ·refine zo ?_
   cases h
  refine zk ?_
  refine AW.seq ?_
  refine zo ?_
  refine zB [(0,.own 1000),(1,.ii a),(2,.ii b),(3,.ii limit),(8,.bool true),(9,.bool true),(10,.ii (b - a)),(35,.bool false)] [(1000,.arr 3 (.int .i64) data)] ?_
  refine AW.cond (b:=false) rfl (fun hb10=>by cases hb10) (fun _=>?_)
  refine zk ?_
  refine zo ?_
  cases h
theorem hc_slices_Sort (x0:List Int) {r:(List Int)} (h:slices_Sort x0=some r):HC Try.prog 90 [(1000,.arr 3 (.int .i64) x0)] [.own 1000] [(1000,.arr 3 (.int .i64) r)] (.tup []):=by
 unfold slices_Sort at h
 refine zH Try.func90 [] 11 ?_
 refine zo ?_
 refine zB [(0,.own 1000),(2,.ii (x0.length:Int))] [(1000,.arr 3 (.int .i64) x0)] ?_
 refine AW.ops ?_
 obtain ⟨c1,h⟩:=ck_some.1 h
 refine zS 4 [(5,.own 1000),(6,.ii (x0.length:Int)),(8,.int .u64 (x0.length:Int))] [(1000,.arr 3 (.int .i64) x0)] ?_
 obtain ⟨v0,hv2,h⟩:=zw h
 refine zC [] [] (hc_math_bits_Len (x0.length:Int) hv2) [(5,.own 1000),(6,.ii (x0.length:Int)),(9,.ii v0)] [(1000,.arr 3 (.int .i64) x0)] ?_
 obtain ⟨v0_2,hv3,h⟩:=zw h
 refine zC [] [(1000,1000)] (hc_slices_pdqsortOrdered 0 (x0.length:Int) v0 x0 hv3) [] [(1000,.arr 3 (.int .i64) v0_2)] ?_
 refine zA [] [(1000,.arr 3 (.int .i64) v0_2)] ?_
 obtain rfl:=zj h
 exact zR [] [] []
theorem hc_progress_graph_reached (g:Int×(List (Int×Int×Int×Bool))) {r:(List Int)} (h:progress_graph_reached g=some r):HC Try.prog 64 [] [.agg [.ii g.1,.sl Y7 g.2]] [(2000,.arr 3 (.int .i64) r)] (.own 2000):=by
 unfold progress_graph_reached at h
 refine zH Try.func64 [.tmp 2] 16 ?_
 refine zo ?_
 refine zB [(1,.bp 1 0)] [(1,.box 69 [.ii g.1,.sl Y7 g.2])] ?_
 refine zo ?_
 refine zB [(1,.bp 1 0),(3,.bp 3 0)] [(1,.box 69 [.ii g.1,.sl Y7 g.2]),(3,.box 25 [.cv (.slice none 0 0)])] ?_
 refine AW.have1 (fun b1:(List Int)=>progress_graph_reached_k1 b1=some r) (fun b1=>⟨fr [(3,.bp 3 0)],hpGet [(3,.box 25 [.own 12]),(12,.arr 3 (.int .i64) b1)],gt⟩) (fun b1 h=>?_) (fun hk_progress_graph_reached_k1=>?_)
 ·as_aux_lemma =>
   unfold progress_graph_reached_k1 at h
   refine zo ?_
   refine zS 1 [(3,.bp 3 0),(13,.own 12)] [(3,.box 25 [.own 12]),(12,.arr 3 (.int .i64) b1)] ?_
   obtain ⟨v0_2,hv1,h⟩:=zw h
   refine zC [] [(1000,12)] (hc_slices_Sort b1 hv1) [(3,.bp 3 0)] [(3,.box 25 [.own 12]),(12,.arr 3 (.int .i64) v0_2)] ?_
   refine zB [(3,.bp 3 0)] [(3,.box 25 [.own 12]),(12,.arr 3 (.int .i64) v0_2)] ?_
   refine zo ?_
   refine zB [(2,.own 12)] [(12,.arr 3 (.int .i64) v0_2)] ?_
   refine AW.ret ?_
   obtain rfl:=zj h
   exact zR [] [] [(2000,12)]
 refine AW.seq ?_
 refine zo ?_
 refine zS 1 [(3,.bp 3 0),(5,.agg [.ii g.1,.sl Y7 g.2])] [(3,.box 25 [.cv (.slice none 0 0)])] ?_
 obtain ⟨v0,hv2,h⟩:=zw h
 refine zC [] [] (hc_progress_graph_paths g 0 hv2) [(3,.bp 3 0),(6,.fn (.func 108) [] [.bp 16000 0,.bp 16001 0,.bp 16002 0])] [(3,.box 25 [.cv (.slice none 0 0)]),(16000,.box 3 [.ii 0]),(16001,.box 69 [.ii g.1,.sl Y7 g.2]),(16002,.box 81 [.fn (.func 67) [] []])] ?_
 refine zB [(3,.bp 3 0),(6,.fn (.func 108) [] [.bp 16000 0,.bp 16001 0,.bp 16002 0])] [(3,.box 25 [.cv (.slice none 0 0)]),(16000,.box 3 [.ii 0]),(16001,.box 69 [.ii g.1,.sl Y7 g.2]),(16002,.box 81 [.fn (.func 67) [] []])] ?_
 refine AW.block ?_
 obtain ⟨x3,hx4,h⟩:=zw h
 refine AW.weaken (s':=⟨fr [(3,.bp 3 0),(6,.fn (.func 108) [] [.bp 16000 0,.bp 16001 0,.bp 16002 0])],hpGet ([(16000,.box 3 [.ii 0]),(16001,.box 69 [.ii g.1,.sl Y7 g.2]),(16002,.box 81 [.fn (.func 67) [] []])]++[(3,.box 25 [.own 12]),(12,.arr 3 (.int .i64) [])]),gt⟩) (zL [] [12] []) ?_
 refine AW.rangeF (R:=Empty) (l0:=[(3,.bp 3 0)]) (hI:=[(16000,.box 3 [.ii 0]),(16001,.box 69 [.ii g.1,.sl Y7 g.2]),(16002,.box 81 [.fn (.func 67) [] []])]) (h0:=fun (st1:(List Int))=>[(3,.box 25 [.own 12]),(12,.arr 3 (.int .i64) st1)]) (gg:=fun (st1:(List Int))=>gt) (hx0:=(fun (r:Empty)=>r.elim)) (gx:=(fun (r:Empty)=>r.elim)) (ex:=(fun (r:Empty)=>r.elim)) [] [(16000,1000),(16001,1001),(16002,1002)] [(1000,16000),(1001,16001),(1002,16002)] [(3,1900)] [(1900,3)] (by decide) rfl (by first|exact (ic_progress_graph_paths_1 0 g (progress_graph_reached_y1) [] hx4)|simpa only [go_sem] using (ic_progress_graph_paths_1 0 g (progress_graph_reached_y1) [] hx4)) (by (simp only [go_sem])<;>(with_reducible and_intros)<;>first|assumption|rfl|omega|(unfold maxLen; omega)) rfl rfl rfl (fun _=>rfl) rfl (fun r=>r.elim) rfl (fun r=>r.elim) (fun r=>r.elim) (fun _=>rfl) (fun _=>rfl) rfl (fun _ _=>by first|rfl|(exact (hΓ _).trans (hΓ _).symm)|(exact (hΓx _).trans (hΓ _).symm)) (fun _ r=>r.elim) ?_ ?_
 ·intro lpy1 y1 st1 x5 h
  unfold progress_graph_reached_y1 at h
  refine zV [(3,.bp 1900 0),(7,.ii y1.1),(8,.sl (.int .i64) y1.2)] [(12,.arr 3 (.int .i64) st1),(1900,.box 25 [.own 12])] gt ?_
  refine AW.ops ?_
  refine zA [(3,.bp 1900 0),(4,.ii y1.1)] [(12,.arr 3 (.int .i64) st1),(1900,.box 25 [.own 12])] ?_
  refine And.intro rfl ?_
  refine AW.block ?_
  refine AW.ops ?_
  obtain ⟨c6,h⟩:=ck_some.1 h
  refine zA [(3,.bp 1900 0)] [(12,.arr 3 (.int .i64) (st1++[y1.1])),(1900,.box 25 [.own 12])] ?_
  refine ablock_n ?_
  obtain rfl:=zj h
  exact rpost_next rfl [] [] [] rfl (by (simp only [go_sem])<;>(with_reducible and_intros)<;>first|assumption|rfl|omega|(unfold maxLen; omega))
 cases x3 with
 | inl st1_2 =>
  try simp only at h
  refine ablock_n ?_
  refine athen_n ?_
  exact AW.weaken (zL [] [] []) (hk_progress_graph_reached_k1 _ h)
 | inr rx =>
  exact rx.elim
end Go.Proofs.Yteclokkdgmacpaa
