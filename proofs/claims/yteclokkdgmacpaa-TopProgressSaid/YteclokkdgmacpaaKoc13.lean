import Derived.Test.YteclokkdgmacpaaGrp
import Derived.Test.YteclokkdgmacpaaSh7
import Derived.Test.YteclokkdgmacpaaAvd
import Derived.Test.YteclokkdgmacpaaKoc12
import Derived.Test.YteclokkdgmacpaaKoc2
import Derived.Test.YteclokkdgmacpaaKoc4
import Derived.Test.YteclokkdgmacpaaYa7
namespace Go.Proofs.Yteclokkdgmacpaa
open Go.RowKit
set_option linter.unusedSimpArgs false
set_option linter.unusedVariables false
set_option linter.constructorNameAsVariable false
set_option maxRecDepth 100000
set_option maxHeartbeats 40000000
theorem ic_progress_graph_paths_1_2 {S R:Type} (a1:Int) (a2:Int×(List (Int×Int×Int×Bool))) (yl:Int×(List Int)→S→Option (Step S R)) (s0:S) {r:Sum S R} (h:progress_graph_paths_1_2 S R a1 a2 yl s0=some r):IC Try.prog 108 [(1000,.box 3 [.ii a1]),(1001,.box 69 [.ii a2.1,.sl Y7 a2.2]),(1002,.box 81 [.fn (.func 94) [] []])] [.bp 1000 0,.bp 1001 0,.bp 1002 0] (fun (y:Int×(List Int))=>[.ii y.1,.sl (.int .i64) y.2]) yl s0 r:=by
 unfold progress_graph_paths_1_2 at h
 refine IC.of_body Try.func108 rfl (by kernel_rfl) rfl (nt:=74) rfl (by decide) (by simp) ?_
 intro Γ Γx lp hΓ hΓx hY
 refine zo ?_
 refine zB [(0,.fn (.yield lp) [] []),(2,.bp 1001 0),(3,.bp 1002 0),(5,.own 11),(6,.own 12)] [(11,.arr 3 (.int .i64) [a1]),(12,.arr 25 (.sl (.int .i64)) [[]]),(1000,.box 3 [.ii a1]),(1001,.box 69 [.ii a2.1,.sl Y7 a2.2]),(1002,.box 81 [.fn (.func 94) [] []])] ?_
 refine zo ?_
 refine zB [(0,.fn (.yield lp) [] []),(2,.bp 1001 0),(3,.bp 1002 0),(5,.own 11),(6,.own 12),(7,.ii 0)] [(11,.arr 3 (.int .i64) [a1]),(12,.arr 25 (.sl (.int .i64)) [[]]),(1000,.box 3 [.ii a1]),(1001,.box 69 [.ii a2.1,.sl Y7 a2.2]),(1002,.box 81 [.fn (.func 94) [] []])] ?_
 refine AW.block ?_
 obtain ⟨rv5,hw1,ho2⟩:=zw h
 refine AW.loopO (progress_graph_paths_1_2_b1 S R a2 yl) (fun st1=>⟨fr [(0,.fn (.yield lp) [] []),(2,.bp 1001 0),(3,.bp 1002 0),(5,.own 11),(6,.own 12),(7,.ii st1.2.2.1)],hpGet [(11,.arr 3 (.int .i64) st1.1),(12,.arr 25 (.sl (.int .i64)) st1.2.1),(1000,.box 3 [.ii a1]),(1001,.box 69 [.ii a2.1,.sl Y7 a2.2]),(1002,.box 81 [.fn (.func 94) [] []])],(Γ st1.2.2.2)⟩) ([a1],[[]],0,s0) hw1 (zL [] [] []) ?_
 as_aux_lemma =>
  intro st1 x4 h hd3
  unfold progress_graph_paths_1_2_b1 at h
  refine AW.seq ?_
  refine zo ?_
  refine zB [(0,.fn (.yield lp) [] []),(2,.bp 1001 0),(3,.bp 1002 0),(5,.own 11),(6,.own 12),(7,.ii st1.2.2.1),(16,.bool (decide (st1.2.2.1<(st1.1.length:Int))))] [(11,.arr 3 (.int .i64) st1.1),(12,.arr 25 (.sl (.int .i64)) st1.2.1),(1000,.box 3 [.ii a1]),(1001,.box 69 [.ii a2.1,.sl Y7 a2.2]),(1002,.box 81 [.fn (.func 94) [] []])] ?_
  refine zQ h (fun hb6 h=>?_) (fun hb6 h=>?_)
  ·refine zk ?_
   refine AW.have1 (fun b1:(List Int)×(List (List Int))×S=>progress_graph_paths_1_2_k1 S R st1 b1=some x4) (fun b1=>⟨fr [(0,.fn (.yield lp) [] []),(2,.bp 1001 0),(3,.bp 1002 0),(5,.own 11),(6,.own 12),(7,.ii st1.2.2.1)],hpGet [(11,.arr 3 (.int .i64) b1.1),(12,.arr 25 (.sl (.int .i64)) b1.2.1),(1000,.box 3 [.ii a1]),(1001,.box 69 [.ii a2.1,.sl Y7 a2.2]),(1002,.box 81 [.fn (.func 94) [] []])],(Γ b1.2.2)⟩) (fun b1 h=>?_) (fun hk_progress_graph_paths_1_2_k1=>?_)
   ·as_aux_lemma =>
     unfold progress_graph_paths_1_2_k1 at h
     refine AW.ops ?_
     obtain ⟨c7,h⟩:=ck_some.1 h
     refine zA [(0,.fn (.yield lp) [] []),(2,.bp 1001 0),(3,.bp 1002 0),(5,.own 11),(6,.own 12),(7,.ii (st1.2.2.1+1))] [(11,.arr 3 (.int .i64) b1.1),(12,.arr 25 (.sl (.int .i64)) b1.2.1),(1000,.box 3 [.ii a1]),(1001,.box 69 [.ii a2.1,.sl Y7 a2.2]),(1002,.box 81 [.fn (.func 94) [] []])] ?_
     obtain rfl:=zj h
     exact ⟨_,rfl,zL [] [] []⟩
   refine AW.seq ?_
   refine AW.block ?_
   refine AW.seq ?_
   refine AW.seq ?_
   refine AW.drawTail tab_ok mixed_ok 9 [] [] (by decide) (by kernel_rfl) (by kernel_rfl) (by decide) ?_
   dsimp only [List.take_succ_cons,List.take_zero]
   obtain ⟨c9,h⟩:=ck_some.1 h
   obtain ⟨c10,h⟩:=ck_some.1 h
   refine adops_cut 6 (fun K' hK8=>?_)
   try dsimp only [y1,y2,y3,y4]
   simp only [go_sem,hb6]
   repeat with_reducible refine zN ?_
   refine hK8 _ ?_
   as_aux_lemma =>
    obtain ⟨c12,h⟩:=ck_some.1 h
    obtain ⟨c13,h⟩:=ck_some.1 h
    refine adops_cut 3 (fun K' hK11=>?_)
    try dsimp only [y1,y2,y3,y4]
    simp only [go_sem,hb6]
    repeat with_reducible refine zN ?_
    refine hK11 _ ?_
    refine adops_nil ?_
    refine zT [(0,.fn (.yield lp) [] []),(2,.bp 1001 0),(3,.bp 1002 0),(5,.own 11),(6,.own 12),(7,.ii st1.2.2.1),(19,.fn (.yield lp) [] []),(23,.ii (st1.1.getD st1.2.2.1.toNat 0)),(27,.sl (.int .i64) (st1.2.1.getD st1.2.2.1.toNat []))] [(11,.arr 3 (.int .i64) st1.1),(12,.arr 25 (.sl (.int .i64)) st1.2.1),(1000,.box 3 [.ii a1]),(1001,.box 69 [.ii a2.1,.sl Y7 a2.2]),(1002,.box 81 [.fn (.func 94) [] []])] (Γ st1.2.2.2) ?_
    obtain ⟨x14,hx15,h⟩:=zw h
    refine yield_op rfl rfl rfl (by decide) _ rfl hY hΓ hΓx ((st1.1.getD st1.2.2.1.toNat 0),(st1.2.1.getD st1.2.2.1.toNat [])) [] (by (simp only [go_sem,hb6])<;>(with_reducible and_intros)<;>first|assumption|rfl|omega|(unfold maxLen; omega)) hx15 ?_
    cases x14 with
    | next s =>
     try simp only at h
     refine zT [(0,.fn (.yield lp) [] []),(2,.bp 1001 0),(3,.bp 1002 0),(5,.own 11),(6,.own 12),(7,.ii st1.2.2.1),(28,.bool true)] [(11,.arr 3 (.int .i64) st1.1),(12,.arr 25 (.sl (.int .i64)) st1.2.1),(1000,.box 3 [.ii a1]),(1001,.box 69 [.ii a2.1,.sl Y7 a2.2]),(1002,.box 81 [.fn (.func 94) [] []])] (Γ s) ?_
     refine zB [(0,.fn (.yield lp) [] []),(2,.bp 1001 0),(3,.bp 1002 0),(5,.own 11),(6,.own 12),(7,.ii st1.2.2.1),(29,.bool false)] [(11,.arr 3 (.int .i64) st1.1),(12,.arr 25 (.sl (.int .i64)) st1.2.1),(1000,.box 3 [.ii a1]),(1001,.box 69 [.ii a2.1,.sl Y7 a2.2]),(1002,.box 81 [.fn (.func 94) [] []])] ?_
     refine AW.cond (b:=false) rfl (fun hb16=>by cases hb16) (fun _=>?_)
     refine zk ?_
     refine zo ?_
     refine zB [(0,.fn (.yield lp) [] []),(2,.bp 1001 0),(3,.bp 1002 0),(5,.own 11),(6,.own 12),(7,.ii st1.2.2.1),(31,.sl Y7 a2.2),(32,.ii (a2.2.length:Int)),(33,.ii 0)] [(11,.arr 3 (.int .i64) st1.1),(12,.arr 25 (.sl (.int .i64)) st1.2.1),(1000,.box 3 [.ii a1]),(1001,.box 69 [.ii a2.1,.sl Y7 a2.2]),(1002,.box 81 [.fn (.func 94) [] []])] ?_
     refine AW.block ?_
     obtain ⟨rv21,hw17,ho18⟩:=zw h
     refine AW.loopO (progress_graph_paths_1_2_b2 S R a2 st1) (fun st2=>⟨fr [(0,.fn (.yield lp) [] []),(2,.bp 1001 0),(3,.bp 1002 0),(5,.own 11),(6,.own 12),(7,.ii st1.2.2.1),(31,.sl Y7 a2.2),(32,.ii (a2.2.length:Int)),(33,.ii st2.2.2)],hpGet [(11,.arr 3 (.int .i64) st2.1),(12,.arr 25 (.sl (.int .i64)) st2.2.1),(1000,.box 3 [.ii a1]),(1001,.box 69 [.ii a2.1,.sl Y7 a2.2]),(1002,.box 81 [.fn (.func 94) [] []])],(Γ s)⟩) (st1.1,st1.2.1,0) hw17 (zL [] [] []) ?_
     as_aux_lemma =>
      intro st2 x20 h hd19
      unfold progress_graph_paths_1_2_b2 at h
      refine zo ?_
      refine zB [(0,.fn (.yield lp) [] []),(2,.bp 1001 0),(3,.bp 1002 0),(5,.own 11),(6,.own 12),(7,.ii st1.2.2.1),(31,.sl Y7 a2.2),(32,.ii (a2.2.length:Int)),(33,.ii st2.2.2),(34,.bool (decide (st2.2.2<(a2.2.length:Int))))] [(11,.arr 3 (.int .i64) st2.1),(12,.arr 25 (.sl (.int .i64)) st2.2.1),(1000,.box 3 [.ii a1]),(1001,.box 69 [.ii a2.1,.sl Y7 a2.2]),(1002,.box 81 [.fn (.func 94) [] []])] ?_
      refine AW.seq ?_
      refine zQ h (fun hb22 h=>?_) (fun hb22 h=>?_)
      ·refine zk ?_
       refine AW.seq ?_
       refine AW.block ?_
       refine zo ?_
       obtain ⟨c23,h⟩:=ck_some.1 h
       obtain ⟨c24,h⟩:=ck_some.1 h
       refine zS 5 [(0,.fn (.yield lp) [] []),(2,.bp 1001 0),(3,.bp 1002 0),(5,.own 11),(6,.own 12),(7,.ii st1.2.2.1),(8,.ii st2.2.2),(9,.bp 9 0),(31,.sl Y7 a2.2),(32,.ii (a2.2.length:Int)),(33,.ii st2.2.2),(37,.agg [.ii (a2.2.getD st2.2.2.toNat (0,0,0,false)).1,.ii (a2.2.getD st2.2.2.toNat (0,0,0,false)).2.1,.ii (a2.2.getD st2.2.2.toNat (0,0,0,false)).2.2.1,.bool (a2.2.getD st2.2.2.toNat (0,0,0,false)).2.2.2])] [(9,.box 61 [.ii 0,.ii 0,.ii 0,.bool false]),(11,.arr 3 (.int .i64) st2.1),(12,.arr 25 (.sl (.int .i64)) st2.2.1),(1000,.box 3 [.ii a1]),(1001,.box 69 [.ii a2.1,.sl Y7 a2.2]),(1002,.box 81 [.fn (.func 94) [] []])] ?_
       refine zB [(0,.fn (.yield lp) [] []),(2,.bp 1001 0),(3,.bp 1002 0),(5,.own 11),(6,.own 12),(7,.ii st1.2.2.1),(8,.ii st2.2.2),(9,.bp 9 0),(31,.sl Y7 a2.2),(32,.ii (a2.2.length:Int)),(33,.ii st2.2.2)] [(9,.box 61 [.ii (a2.2.getD st2.2.2.toNat (0,0,0,false)).1,.ii (a2.2.getD st2.2.2.toNat (0,0,0,false)).2.1,.ii (a2.2.getD st2.2.2.toNat (0,0,0,false)).2.2.1,.bool (a2.2.getD st2.2.2.toNat (0,0,0,false)).2.2.2]),(11,.arr 3 (.int .i64) st2.1),(12,.arr 25 (.sl (.int .i64)) st2.2.1),(1000,.box 3 [.ii a1]),(1001,.box 69 [.ii a2.1,.sl Y7 a2.2]),(1002,.box 81 [.fn (.func 94) [] []])] ?_
       refine AW.seq ?_
       refine AW.draw tab_ok mixed_ok [] [] (by decide) (lex_fast (by kernel_rfl)) ?_
       as_aux_lemma =>
        obtain ⟨c26,h⟩:=ck_some.1 h
        obtain ⟨c27,h⟩:=ck_some.1 h
        refine adops_cut 6 (fun K' hK25=>?_)
        try dsimp only [y1,y2,y3,y4]
        simp only [go_sem,hb6,hb22]
        repeat with_reducible refine zN ?_
        refine hK25 _ ?_
        as_aux_lemma =>
         refine adops_cut 2 (fun K' hK28=>?_)
         try dsimp only [y1,y2,y3,y4]
         simp only [go_sem,hb6,hb22]
         repeat with_reducible refine zN ?_
         refine hK28 _ ?_
         as_aux_lemma =>
          rcases zI h with ⟨hb29,h⟩|⟨hb29,h⟩
          ·simp only [hb29]
           as_aux_lemma =>
            refine adops_cut 2 (fun K' hK30=>?_)
            try dsimp only [y1,y2,y3,y4]
            simp only [go_sem,hb6,hb22,hb29]
            repeat with_reducible refine zN ?_
            refine hK30 _ ?_
            as_aux_lemma =>
             obtain ⟨v0,hv31,h⟩:=zw h
             refine adops.call (by first|trivial|rfl) rfl rfl rfl (fun _ h=>⟨fun _=>h,fun hn=>absurd rfl hn⟩) [] [] (hc_progress_statementOf_1 (a2.2.getD st2.2.2.toNat (0,0,0,false)) hv31) rfl (by (simp only [go_sem,hb6,hb22,hb29])<;>(with_reducible and_intros)<;>first|assumption|rfl|omega|(unfold maxLen; omega)) (by (simp only [go_sem,hb6,hb22,hb29])<;>(with_reducible and_intros)<;>first|assumption|rfl|omega|(unfold maxLen; omega)) rfl ?_
             refine adops_cut 2 (fun K' hK32=>?_)
             try dsimp only [y1,y2,y3,y4]
             simp only [go_sem,hb6,hb22,hb29]
             repeat with_reducible refine zN ?_
             refine hK32 _ ?_
             as_aux_lemma =>
              rcases zI h with ⟨hb33,h⟩|⟨hb33,h⟩
              ·simp only [hb33]
               as_aux_lemma =>
                refine adops_cut 3 (fun K' hK34=>?_)
                try dsimp only [y1,y2,y3,y4]
                simp only [go_sem,hb6,hb22,hb29,hb33]
                repeat with_reducible refine zN ?_
                refine hK34 _ ?_
                as_aux_lemma =>
                 obtain ⟨v0_2,hv35,h⟩:=zw h
                 refine adops.call (by first|trivial|rfl) rfl rfl rfl (fun _ h=>⟨fun _=>h,fun hn=>absurd rfl hn⟩) [11] [] (hc_slices_Contains_2 st2.1 (a2.2.getD st2.2.2.toNat (0,0,0,false)).2.2.1 hv35) rfl (by (simp only [go_sem,hb6,hb22,hb29,hb33])<;>(with_reducible and_intros)<;>first|assumption|rfl|omega|(unfold maxLen; omega)) (by (simp only [go_sem,hb6,hb22,hb29,hb33])<;>(with_reducible and_intros)<;>first|assumption|rfl|omega|(unfold maxLen; omega)) rfl ?_
                 refine adops_cut 2 (fun K' hK36=>?_)
                 try dsimp only [y1,y2,y3,y4]
                 simp only [go_sem,hb6,hb22,hb29,hb33]
                 repeat with_reducible refine zN ?_
                 refine hK36 _ ?_
                 refine adops_nil ?_
                 refine athen_n ?_
                 refine zV [(0,.fn (.yield lp) [] []),(2,.bp 1001 0),(3,.bp 1002 0),(5,.own 11),(6,.own 12),(7,.ii st1.2.2.1),(8,.ii st2.2.2),(9,.bp 9 0),(31,.sl Y7 a2.2),(32,.ii (a2.2.length:Int)),(33,.ii st2.2.2),(56,.bool (!v0_2))] [(9,.box 61 [.ii (a2.2.getD st2.2.2.toNat (0,0,0,false)).1,.ii (a2.2.getD st2.2.2.toNat (0,0,0,false)).2.1,.ii (a2.2.getD st2.2.2.toNat (0,0,0,false)).2.2.1,.bool (a2.2.getD st2.2.2.toNat (0,0,0,false)).2.2.2]),(11,.arr 3 (.int .i64) st2.1),(12,.arr 25 (.sl (.int .i64)) st2.2.1),(1000,.box 3 [.ii a1]),(1001,.box 69 [.ii a2.1,.sl Y7 a2.2]),(1002,.box 81 [.fn (.func 94) [] []])] (Γ s) ?_
                 as_aux_lemma =>
                  refine zQ h (fun hb37 h=>?_) (fun hb37 h=>?_)
                  ·refine zo ?_
                   obtain ⟨c38,h⟩:=ck_some.1 h
                   refine zS 5 [(0,.fn (.yield lp) [] []),(2,.bp 1001 0),(3,.bp 1002 0),(6,.own 12),(7,.ii st1.2.2.1),(8,.ii st2.2.2),(31,.sl Y7 a2.2),(32,.ii (a2.2.length:Int)),(33,.ii st2.2.2),(61,.own 61)] [(12,.arr 25 (.sl (.int .i64)) st2.2.1),(61,.arr 3 (.int .i64) (st2.1++[(a2.2.getD st2.2.2.toNat (0,0,0,false)).2.2.1])),(1000,.box 3 [.ii a1]),(1001,.box 69 [.ii a2.1,.sl Y7 a2.2]),(1002,.box 81 [.fn (.func 94) [] []])] ?_
                   refine zB [(0,.fn (.yield lp) [] []),(2,.bp 1001 0),(3,.bp 1002 0),(5,.own 61),(6,.own 12),(7,.ii st1.2.2.1),(8,.ii st2.2.2),(31,.sl Y7 a2.2),(32,.ii (a2.2.length:Int)),(33,.ii st2.2.2)] [(12,.arr 25 (.sl (.int .i64)) st2.2.1),(61,.arr 3 (.int .i64) (st2.1++[(a2.2.getD st2.2.2.toNat (0,0,0,false)).2.2.1])),(1000,.box 3 [.ii a1]),(1001,.box 69 [.ii a2.1,.sl Y7 a2.2]),(1002,.box 81 [.fn (.func 94) [] []])] ?_
                   refine AW.ops ?_
                   obtain ⟨c39,h⟩:=ck_some.1 h
                   obtain ⟨c40,h⟩:=ck_some.1 h
                   refine zS 5 [(0,.fn (.yield lp) [] []),(2,.bp 1001 0),(3,.bp 1002 0),(5,.own 61),(7,.ii st1.2.2.1),(8,.ii st2.2.2),(31,.sl Y7 a2.2),(32,.ii (a2.2.length:Int)),(33,.ii st2.2.2),(62,.own 12),(66,.sl (.int .i64) (st2.2.1.getD st1.2.2.1.toNat []))] [(12,.arr 25 (.sl (.int .i64)) st2.2.1),(61,.arr 3 (.int .i64) (st2.1++[(a2.2.getD st2.2.2.toNat (0,0,0,false)).2.2.1])),(1000,.box 3 [.ii a1]),(1001,.box 69 [.ii a2.1,.sl Y7 a2.2]),(1002,.box 81 [.fn (.func 94) [] []])] ?_
                   refine zS 3 [(0,.fn (.yield lp) [] []),(2,.bp 1001 0),(3,.bp 1002 0),(5,.own 61),(7,.ii st1.2.2.1),(31,.sl Y7 a2.2),(32,.ii (a2.2.length:Int)),(33,.ii st2.2.2),(62,.own 12),(69,.own 69)] [(12,.arr 25 (.sl (.int .i64)) st2.2.1),(61,.arr 3 (.int .i64) (st2.1++[(a2.2.getD st2.2.2.toNat (0,0,0,false)).2.2.1])),(69,.arr 25 (.sl (.int .i64)) [(st2.2.1.getD st1.2.2.1.toNat []),[st2.2.2]]),(1000,.box 3 [.ii a1]),(1001,.box 69 [.ii a2.1,.sl Y7 a2.2]),(1002,.box 81 [.fn (.func 94) [] []])] ?_
                   obtain ⟨v0_3,hv41,h⟩:=zw h
                   refine zC [69] [] (hc_slices_Concat [(st2.2.1.getD st1.2.2.1.toNat []),[st2.2.2]] hv41) [(0,.fn (.yield lp) [] []),(2,.bp 1001 0),(3,.bp 1002 0),(5,.own 61),(7,.ii st1.2.2.1),(31,.sl Y7 a2.2),(32,.ii (a2.2.length:Int)),(33,.ii st2.2.2),(62,.own 12),(70,.own 80000)] [(12,.arr 25 (.sl (.int .i64)) st2.2.1),(61,.arr 3 (.int .i64) (st2.1++[(a2.2.getD st2.2.2.toNat (0,0,0,false)).2.2.1])),(1000,.box 3 [.ii a1]),(1001,.box 69 [.ii a2.1,.sl Y7 a2.2]),(1002,.box 81 [.fn (.func 94) [] []]),(80000,.arr 3 (.int .i64) v0_3)] ?_
                   obtain ⟨c42,h⟩:=ck_some.1 h
                   refine zA [(0,.fn (.yield lp) [] []),(2,.bp 1001 0),(3,.bp 1002 0),(5,.own 61),(6,.own 72),(7,.ii st1.2.2.1),(31,.sl Y7 a2.2),(32,.ii (a2.2.length:Int)),(33,.ii st2.2.2)] [(61,.arr 3 (.int .i64) (st2.1++[(a2.2.getD st2.2.2.toNat (0,0,0,false)).2.2.1])),(72,.arr 25 (.sl (.int .i64)) (st2.2.1++[v0_3])),(1000,.box 3 [.ii a1]),(1001,.box 69 [.ii a2.1,.sl Y7 a2.2]),(1002,.box 81 [.fn (.func 94) [] []])] ?_
                   refine ablock_n ?_
                   refine athen_n ?_
                   refine AW.ops ?_
                   obtain ⟨c43,h⟩:=ck_some.1 h
                   refine zA [(0,.fn (.yield lp) [] []),(2,.bp 1001 0),(3,.bp 1002 0),(5,.own 61),(6,.own 72),(7,.ii st1.2.2.1),(31,.sl Y7 a2.2),(32,.ii (a2.2.length:Int)),(33,.ii (st2.2.2+1))] [(61,.arr 3 (.int .i64) (st2.1++[(a2.2.getD st2.2.2.toNat (0,0,0,false)).2.2.1])),(72,.arr 25 (.sl (.int .i64)) (st2.2.1++[v0_3])),(1000,.box 3 [.ii a1]),(1001,.box 69 [.ii a2.1,.sl Y7 a2.2]),(1002,.box 81 [.fn (.func 94) [] []])] ?_
                   obtain rfl:=zj h
                   exact ⟨_,rfl,zL [] [] [(11,61),(12,72)]⟩
                  refine zm ?_
                  refine athen_n ?_
                  refine AW.ops ?_
                  obtain ⟨c44,h⟩:=ck_some.1 h
                  refine zA [(0,.fn (.yield lp) [] []),(2,.bp 1001 0),(3,.bp 1002 0),(5,.own 11),(6,.own 12),(7,.ii st1.2.2.1),(31,.sl Y7 a2.2),(32,.ii (a2.2.length:Int)),(33,.ii (st2.2.2+1))] [(11,.arr 3 (.int .i64) st2.1),(12,.arr 25 (.sl (.int .i64)) st2.2.1),(1000,.box 3 [.ii a1]),(1001,.box 69 [.ii a2.1,.sl Y7 a2.2]),(1002,.box 81 [.fn (.func 94) [] []])] ?_
                  obtain rfl:=zj h
                  exact ⟨_,rfl,zL [] [] []⟩
              simp only [hb33]
              as_aux_lemma =>
               refine adops_cut 4 (fun K' hK45=>?_)
               try dsimp only [y1,y2,y3,y4]
               simp only [go_sem,hb6,hb22,hb29,hb33]
               repeat with_reducible refine zN ?_
               refine hK45 _ ?_
               as_aux_lemma =>
                refine adops_cut 2 (fun K' hK46=>?_)
                try dsimp only [y1,y2,y3,y4]
                simp only [go_sem,hb6,hb22,hb29,hb33]
                repeat with_reducible refine zN ?_
                refine hK46 _ ?_
                refine adops_nil ?_
                refine athen_n ?_
                refine zV [(0,.fn (.yield lp) [] []),(2,.bp 1001 0),(3,.bp 1002 0),(5,.own 11),(6,.own 12),(7,.ii st1.2.2.1),(8,.ii st2.2.2),(9,.bp 9 0),(31,.sl Y7 a2.2),(32,.ii (a2.2.length:Int)),(33,.ii st2.2.2),(56,.bool false)] [(9,.box 61 [.ii (a2.2.getD st2.2.2.toNat (0,0,0,false)).1,.ii (a2.2.getD st2.2.2.toNat (0,0,0,false)).2.1,.ii (a2.2.getD st2.2.2.toNat (0,0,0,false)).2.2.1,.bool (a2.2.getD st2.2.2.toNat (0,0,0,false)).2.2.2]),(11,.arr 3 (.int .i64) st2.1),(12,.arr 25 (.sl (.int .i64)) st2.2.1),(1000,.box 3 [.ii a1]),(1001,.box 69 [.ii a2.1,.sl Y7 a2.2]),(1002,.box 81 [.fn (.func 94) [] []])] (Γ s) ?_
                as_aux_lemma =>
                 refine AW.cond (b:=false) rfl (fun hb47=>by cases hb47) (fun _=>?_)
                 refine zm ?_
                 refine athen_n ?_
                 refine AW.ops ?_
                 obtain ⟨c48,h⟩:=ck_some.1 h
                 refine zA [(0,.fn (.yield lp) [] []),(2,.bp 1001 0),(3,.bp 1002 0),(5,.own 11),(6,.own 12),(7,.ii st1.2.2.1),(31,.sl Y7 a2.2),(32,.ii (a2.2.length:Int)),(33,.ii (st2.2.2+1))] [(11,.arr 3 (.int .i64) st2.1),(12,.arr 25 (.sl (.int .i64)) st2.2.1),(1000,.box 3 [.ii a1]),(1001,.box 69 [.ii a2.1,.sl Y7 a2.2]),(1002,.box 81 [.fn (.func 94) [] []])] ?_
                 obtain rfl:=zj h
                 exact ⟨_,rfl,zL [] [] []⟩
          simp only [hb29]
          as_aux_lemma =>
           refine adops_cut 6 (fun K' hK49=>?_)
           try dsimp only [y1,y2,y3,y4]
           simp only [go_sem,hb6,hb22,hb29]
           repeat with_reducible refine zN ?_
           refine hK49 _ ?_
           as_aux_lemma =>
            refine adops_cut 4 (fun K' hK50=>?_)
            try dsimp only [y1,y2,y3,y4]
            simp only [go_sem,hb6,hb22,hb29]
            repeat with_reducible refine zN ?_
            refine hK50 _ ?_
            as_aux_lemma =>
             refine adops_cut 1 (fun K' hK51=>?_)
             try dsimp only [y1,y2,y3,y4]
             simp only [go_sem,hb6,hb22,hb29]
             repeat with_reducible refine zN ?_
             refine hK51 _ ?_
             refine adops_nil ?_
             refine athen_n ?_
             refine zV [(0,.fn (.yield lp) [] []),(2,.bp 1001 0),(3,.bp 1002 0),(5,.own 11),(6,.own 12),(7,.ii st1.2.2.1),(8,.ii st2.2.2),(9,.bp 9 0),(31,.sl Y7 a2.2),(32,.ii (a2.2.length:Int)),(33,.ii st2.2.2),(56,.bool false)] [(9,.box 61 [.ii (a2.2.getD st2.2.2.toNat (0,0,0,false)).1,.ii (a2.2.getD st2.2.2.toNat (0,0,0,false)).2.1,.ii (a2.2.getD st2.2.2.toNat (0,0,0,false)).2.2.1,.bool (a2.2.getD st2.2.2.toNat (0,0,0,false)).2.2.2]),(11,.arr 3 (.int .i64) st2.1),(12,.arr 25 (.sl (.int .i64)) st2.2.1),(1000,.box 3 [.ii a1]),(1001,.box 69 [.ii a2.1,.sl Y7 a2.2]),(1002,.box 81 [.fn (.func 94) [] []])] (Γ s) ?_
             as_aux_lemma =>
              refine AW.cond (b:=false) rfl (fun hb52=>by cases hb52) (fun _=>?_)
              refine zm ?_
              refine athen_n ?_
              refine AW.ops ?_
              obtain ⟨c53,h⟩:=ck_some.1 h
              refine zA [(0,.fn (.yield lp) [] []),(2,.bp 1001 0),(3,.bp 1002 0),(5,.own 11),(6,.own 12),(7,.ii st1.2.2.1),(31,.sl Y7 a2.2),(32,.ii (a2.2.length:Int)),(33,.ii (st2.2.2+1))] [(11,.arr 3 (.int .i64) st2.1),(12,.arr 25 (.sl (.int .i64)) st2.2.1),(1000,.box 3 [.ii a1]),(1001,.box 69 [.ii a2.1,.sl Y7 a2.2]),(1002,.box 81 [.fn (.func 94) [] []])] ?_
              obtain rfl:=zj h
              exact ⟨_,rfl,zL [] [] []⟩
      refine AW.exit ?_
      refine athen_e ?_
      obtain rfl:=zj h
      rw [← hd19 _ rfl] at ho18
      have h:=ho18
      refine athen_e ?_
      refine ablock_s ?_
      refine ablock_n ?_
      refine athen_n ?_
      exact AW.weaken (zL [] [] []) (hk_progress_graph_paths_1_2_k1 _ h)
    | done e =>
     try simp only at h
     refine zT [(0,.fn (.yield lp) [] []),(2,.bp 1001 0),(3,.bp 1002 0),(5,.own 11),(6,.own 12),(7,.ii st1.2.2.1),(28,.bool false)] [(11,.arr 3 (.int .i64) st1.1),(12,.arr 25 (.sl (.int .i64)) st1.2.1),(1000,.box 3 [.ii a1]),(1001,.box 69 [.ii a2.1,.sl Y7 a2.2]),(1002,.box 81 [.fn (.func 94) [] []])] (Γx e) ?_
     refine zB [(0,.fn (.yield lp) [] []),(2,.bp 1001 0),(3,.bp 1002 0),(5,.own 11),(6,.own 12),(7,.ii st1.2.2.1),(29,.bool true)] [(11,.arr 3 (.int .i64) st1.1),(12,.arr 25 (.sl (.int .i64)) st1.2.1),(1000,.box 3 [.ii a1]),(1001,.box 69 [.ii a2.1,.sl Y7 a2.2]),(1002,.box 81 [.fn (.func 94) [] []])] ?_
     refine AW.cond (b:=true) rfl (fun _=>?_) (fun hb54=>by cases hb54)
     refine zr ?_
     refine ablock_r ?_
     refine athen_r ?_
     obtain rfl:=zj h
     rw [← hd3 _ rfl] at ho2
     have h:=ho2
     try simp only at h
     refine athen_r ?_
     refine ablock_r ?_
     obtain rfl:=zj h
     exact rfl
  refine AW.exit ?_
  refine athen_e ?_
  obtain rfl:=zj h
  rw [← hd3 _ rfl] at ho2
  have h:=ho2
  try simp only at h
  refine athen_e ?_
  refine ablock_s ?_
  obtain rfl:=zj h
  exact rfl
theorem hc_progress_graph_way_2 (g:Int×(List (Int×Int×Int×Bool))) (from0:Int) (to0:Int) {r:(List Int)×Bool} (h:progress_graph_way_2 g from0 to0=some r):HC Try.prog 66 [] [.agg [.ii g.1,.sl Y7 g.2],.ii from0,.ii to0,.fn (.func 94) [] []] [] (.tup [.sl (.int .i64) r.1,.bool r.2]):=by
 unfold progress_graph_way_2 at h
 refine zH Try.func66 [.cell 8 25,.cell 9 4] 22 ?_
 refine zo ?_
 refine zB [(1,.ii from0),(3,.fn (.func 94) [] []),(4,.bp 4 0),(6,.bp 6 0),(8,.bp 8 0),(9,.bp 9 0)] [(4,.box 69 [.ii g.1,.sl Y7 g.2]),(6,.box 3 [.ii to0]),(8,.box 25 [.cv (.slice none 0 0)]),(9,.box 4 [.bool false])] ?_
 refine AW.have1 (fun _:Unit=>progress_graph_way_2_k1=some r) (fun _=>⟨fr [(8,.bp 8 0),(9,.bp 9 0)],hpGet [(8,.box 25 [.cv (.slice none 0 0)]),(9,.box 4 [.bool false])],gt⟩) (fun _ h=>?_) (fun hk_progress_graph_way_2_k1=>?_)
 ·as_aux_lemma =>
   unfold progress_graph_way_2_k1 at h
   refine zo ?_
   refine zB [(8,.bp 8 0),(9,.bp 9 0)] [(8,.box 25 [.cv (.slice none 0 0)]),(9,.box 4 [.bool false])] ?_
   refine AW.ret ?_
   obtain rfl:=zj h
   exact zR [] [] []
 refine AW.seq ?_
 refine zo ?_
 refine zS 3 [(6,.bp 6 0),(8,.bp 8 0),(9,.bp 9 0),(12,.agg [.ii g.1,.sl Y7 g.2]),(13,.ii from0),(14,.fn (.func 94) [] [])] [(6,.box 3 [.ii to0]),(8,.box 25 [.cv (.slice none 0 0)]),(9,.box 4 [.bool false])] ?_
 obtain ⟨v0,hv1,h⟩:=zw h
 refine zC [] [] (hc_progress_graph_paths_2 g from0 hv1) [(6,.bp 6 0),(8,.bp 8 0),(9,.bp 9 0),(15,.fn (.func 108) [] [.bp 25000 0,.bp 25001 0,.bp 25002 0])] [(6,.box 3 [.ii to0]),(8,.box 25 [.cv (.slice none 0 0)]),(9,.box 4 [.bool false]),(25000,.box 3 [.ii from0]),(25001,.box 69 [.ii g.1,.sl Y7 g.2]),(25002,.box 81 [.fn (.func 94) [] []])] ?_
 refine zB [(6,.bp 6 0),(8,.bp 8 0),(9,.bp 9 0),(15,.fn (.func 108) [] [.bp 25000 0,.bp 25001 0,.bp 25002 0])] [(6,.box 3 [.ii to0]),(8,.box 25 [.cv (.slice none 0 0)]),(9,.box 4 [.bool false]),(25000,.box 3 [.ii from0]),(25001,.box 69 [.ii g.1,.sl Y7 g.2]),(25002,.box 81 [.fn (.func 94) [] []])] ?_
 refine AW.block ?_
 obtain ⟨x2,hx3,h⟩:=zw h
 refine AW.weaken (s':=⟨fr [(6,.bp 6 0),(8,.bp 8 0),(9,.bp 9 0),(15,.fn (.func 108) [] [.bp 25000 0,.bp 25001 0,.bp 25002 0])],hpGet ([(25000,.box 3 [.ii from0]),(25001,.box 69 [.ii g.1,.sl Y7 g.2]),(25002,.box 81 [.fn (.func 94) [] []])]++[(6,.box 3 [.ii to0]),(8,.box 25 [.cv (.slice none 0 0)]),(9,.box 4 [.bool false])]),gt⟩) (zL [] [] []) ?_
 refine AW.rangeF (R:=(List Int)) (l0:=[(6,.bp 6 0),(8,.bp 8 0),(9,.bp 9 0)]) (hI:=[(25000,.box 3 [.ii from0]),(25001,.box 69 [.ii g.1,.sl Y7 g.2]),(25002,.box 81 [.fn (.func 94) [] []])]) (h0:=fun (st1:Unit)=>[(6,.box 3 [.ii to0]),(8,.box 25 [.cv (.slice none 0 0)]),(9,.box 4 [.bool false])]) (gg:=fun (st1:Unit)=>gt) (hx0:=(fun (r1:(List Int))=>[(6,.box 3 [.ii to0]),(8,.box 25 [.sl (.int .i64) r1]),(9,.box 4 [.bool true])])) (gx:=(fun (r1:(List Int))=>gt)) (ex:=(fun (r1:(List Int))=>Exit.ret)) () [(25000,1000),(25001,1001),(25002,1002)] [(1000,25000),(1001,25001),(1002,25002)] [(6,1900),(8,1901),(9,1902)] [(1900,6),(1901,8),(1902,9)] (by decide) rfl (by first|exact (ic_progress_graph_paths_1_2 from0 g (progress_graph_way_2_y1 to0) () hx3)|simpa only [go_sem] using (ic_progress_graph_paths_1_2 from0 g (progress_graph_way_2_y1 to0) () hx3)) (by (simp only [go_sem])<;>(with_reducible and_intros)<;>first|assumption|rfl|omega|(unfold maxLen; omega)) rfl rfl rfl (fun _=>rfl) rfl (fun _=>rfl) rfl (fun _=>rfl) (fun _=>rfl) (fun _=>rfl) (fun _=>rfl) rfl (fun _ _=>by first|rfl|(exact (hΓ _).trans (hΓ _).symm)|(exact (hΓx _).trans (hΓ _).symm)) (fun _ _=>by first|rfl|(exact (hΓ _).trans (hΓ _).symm)|(exact (hΓx _).trans (hΓ _).symm)) ?_ ?_
 ·intro lpy1 y1 st1 x4 h
  unfold progress_graph_way_2_y1 at h
  refine zV [(6,.bp 1900 0),(8,.bp 1901 0),(9,.bp 1902 0),(16,.ii y1.1),(17,.sl (.int .i64) y1.2)] [(1900,.box 3 [.ii to0]),(1901,.box 25 [.cv (.slice none 0 0)]),(1902,.box 4 [.bool false])] gt ?_
  refine zo ?_
  refine zB [(6,.bp 1900 0),(8,.bp 1901 0),(9,.bp 1902 0),(10,.ii y1.1),(17,.sl (.int .i64) y1.2)] [(1900,.box 3 [.ii to0]),(1901,.box 25 [.cv (.slice none 0 0)]),(1902,.box 4 [.bool false])] ?_
  refine AW.ops ?_
  refine zA [(6,.bp 1900 0),(8,.bp 1901 0),(9,.bp 1902 0),(10,.ii y1.1),(11,.sl (.int .i64) y1.2)] [(1900,.box 3 [.ii to0]),(1901,.box 25 [.cv (.slice none 0 0)]),(1902,.box 4 [.bool false])] ?_
  refine And.intro rfl ?_
  refine AW.block ?_
  refine zo ?_
  refine zB [(6,.bp 1900 0),(8,.bp 1901 0),(9,.bp 1902 0),(11,.sl (.int .i64) y1.2),(20,.bool (decide (y1.1=to0)))] [(1900,.box 3 [.ii to0]),(1901,.box 25 [.cv (.slice none 0 0)]),(1902,.box 4 [.bool false])] ?_
  refine zQ h (fun hb5 h=>?_) (fun hb5 h=>?_)
  ·refine zo ?_
   refine zB [(6,.bp 1900 0),(8,.bp 1901 0),(9,.bp 1902 0)] [(1900,.box 3 [.ii to0]),(1901,.box 25 [.sl (.int .i64) y1.2]),(1902,.box 4 [.bool true])] ?_
   refine AW.ret ?_
   refine ablock_r ?_
   obtain rfl:=zj h
   exact rpost_ret rfl rfl [] [] [] rfl (by (simp only [go_sem,hb5])<;>(with_reducible and_intros)<;>first|assumption|rfl|omega|(unfold maxLen; omega))
  refine zm ?_
  obtain rfl:=zj h
  exact rpost_next rfl [] [] [] rfl (by (simp only [go_sem,hb5])<;>(with_reducible and_intros)<;>first|assumption|rfl|omega|(unfold maxLen; omega))
 cases x2 with
 | inl st1_2 =>
  try simp only at h
  refine ablock_n ?_
  refine athen_n ?_
  exact AW.weaken (zL [] [] []) (hk_progress_graph_way_2_k1 () h)
 | inr r1 =>
  try simp only at h
  refine ablock_r ?_
  refine athen_r ?_
  obtain rfl:=zj h
  exact zR [] [] []
end Go.Proofs.Yteclokkdgmacpaa
