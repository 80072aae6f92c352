import Derived.Test.YtenchhmcjmjlbaaCkp
import Derived.Test.YtenchhmcjmjlbaaShk
import Derived.Test.YtenchhmcjmjlbaaAvd
import Derived.Test.YtenchhmcjmjlbaaCec11
namespace Go.Proofs.Ytenchhmcjmjlbaa
open Go.RowKit
set_option linter.unusedSimpArgs false
set_option linter.unusedVariables false
set_option linter.constructorNameAsVariable false
set_option maxRecDepth 100000
set_option maxHeartbeats 40000000
theorem a1T (specs:ZS) (c:Int×Int×Int×Int×Int×Int) (s:(Int×Int)×Int) {r:Int×Int×Int} (h:D7 specs c s=some r):HC Try.prog 191 [(1000,.box 146 [.ii s.1.1,.ii s.1.2,.int .u64 s.2])] [.bp 1000 0,.sl Y3 specs,.agg [.ii c.1,.ii c.2.1,.ii c.2.2.1,.ii c.2.2.2.1,.ii c.2.2.2.2.1,.ii c.2.2.2.2.2]] [(1000,.box 146 [.ii r.2.1,.ii r.2.2,.int .u64 s.2])] (.ii r.1):=by
 unfold D7 at h
 refine zH Try.func191 [.tmp 6] 43 ?_
 refine zo ?_
 refine zB [(0,.bp 1000 0),(1,.sl Y3 specs),(5,.bp 5 0)] [(5,.box 68 [.ii c.1,.ii c.2.1,.ii c.2.2.1,.ii c.2.2.2.1,.ii c.2.2.2.2.1,.ii c.2.2.2.2.2]),(1000,.box 146 [.ii s.1.1,.ii s.1.2,.int .u64 s.2])] ?_
 refine AW.have1 (fun b1:Int×Int×Int×(List (List Int))×(List (List Int))×Int=>t6 c s b1=some r) (fun b1=>⟨fr [(0,.bp 1000 0),(5,.bp 5 0),(7,.bp 7 0),(8,.ii b1.2.2.2.2.2)],b6 [(5,.box 68 [.ii c.1,.ii b1.1,.ii c.2.2.1,.ii c.2.2.2.1,.ii c.2.2.2.2.1,.ii c.2.2.2.2.2]),(7,.box 24 [.ii b1.2.1,.ii b1.2.2.1,.sl (.sl .i) b1.2.2.2.1,.sl (.sl .i) b1.2.2.2.2.1]),(1000,.box 146 [.ii s.1.1,.ii s.1.2,.int .u64 s.2])],gt⟩) (fun b1 h=>?_) (fun hk_history_states_answer_k1=>?_)
 ·as_aux_lemma =>
   unfold t6 at h
   refine AW.have1 (fun b2:Int×Int×Int=>t5 c b1 b2=some r) (fun b2=>⟨fr [(5,.bp 5 0),(7,.bp 7 0),(8,.ii b1.2.2.2.2.2)],b6 [(5,.box 68 [.ii c.1,.ii b2.1,.ii c.2.2.1,.ii c.2.2.2.1,.ii c.2.2.2.2.1,.ii c.2.2.2.2.2]),(7,.box 24 [.ii b1.2.1,.ii b1.2.2.1,.sl (.sl .i) b1.2.2.2.1,.sl (.sl .i) b1.2.2.2.2.1]),(1000,.box 146 [.ii b2.2.1,.ii b2.2.2,.int .u64 s.2])],gt⟩) (fun b2 h=>?_) (fun hk_history_states_answer_k2=>?_)
   ·as_aux_lemma =>
     unfold t5 at h
     refine AW.seq ?_
     refine AW.draw r4 p5 [] [] (by decide) (v9 (by kernel_rfl)) ?_
     as_aux_lemma =>
      obtain ⟨c2,h⟩:=b5.1 h
      obtain ⟨c3,h⟩:=b5.1 h
      refine f8 6 (fun K' hK1=>?_)
      try dsimp only [y1,y2,y3,y4]
      simp only [go_sem]
      repeat with_reducible refine zN ?_
      refine hK1 _ ?_
      as_aux_lemma =>
       obtain ⟨c5,h⟩:=b5.1 h
       obtain ⟨c6,h⟩:=b5.1 h
       refine f8 4 (fun K' hK4=>?_)
       try dsimp only [y1,y2,y3,y4]
       simp only [go_sem]
       repeat with_reducible refine zN ?_
       refine hK4 _ ?_
       refine j8 ?_
       refine g5 ?_
       refine zV [(6,.ii ((b1.2.2.2.2.1.getD b1.2.2.2.2.2.toNat []).getD c.2.2.1.toNat 0))] [(1000,.box 146 [.ii b2.2.1,.ii b2.2.2,.int .u64 s.2])] gt ?_
       as_aux_lemma =>
        refine AW.ret ?_
        obtain rfl:=zj h
        exact zR [] [] []
   refine AW.seq ?_
   refine AW.draw r4 p5 [(14,[1000])] [] (by decide) (v9 (by kernel_rfl)) ?_
   as_aux_lemma =>
    refine f8 6 (fun K' hK7=>?_)
    try dsimp only [y1,y2,y3,y4]
    simp only [go_sem]
    repeat with_reducible refine zN ?_
    refine hK7 _ ?_
    as_aux_lemma =>
     obtain ⟨c9,h⟩:=b5.1 h
     obtain ⟨c10,h⟩:=b5.1 h
     obtain ⟨c11,h⟩:=b5.1 h
     obtain ⟨c12,h⟩:=b5.1 h
     refine f8 6 (fun K' hK8=>?_)
     try dsimp only [y1,y2,y3,y4]
     simp only [go_sem]
     repeat with_reducible refine zN ?_
     refine hK8 _ ?_
     as_aux_lemma =>
      obtain ⟨c14,h⟩:=b5.1 h
      obtain ⟨c15,h⟩:=b5.1 h
      refine f8 1 (fun K' hK13=>?_)
      try dsimp only [y1,y2,y3,y4]
      simp only [go_sem]
      repeat with_reducible refine zN ?_
      refine hK13 _ ?_
      as_aux_lemma =>
       rcases Bool.eq_false_or_eq_true (decide (b1.1=0)) with hb16|hb16
       ·rw [if_pos hb16] at h
        have hz17:b1.1=0:=by simpa using hb16
        refine f8 2 (fun K' hK18=>?_)
        try dsimp only [y1,y2,y3,y4]
        simp only [go_sem,hb16,hz17]
        repeat with_reducible refine zN ?_
        refine hK18 _ ?_
        refine j8 ?_
        refine g5 ?_
        refine zV [(5,.bp 5 0),(7,.bp 7 0),(8,.ii b1.2.2.2.2.2)] [(5,.box 68 [.ii c.1,.ii 0,.ii c.2.2.1,.ii c.2.2.2.1,.ii c.2.2.2.2.1,.ii c.2.2.2.2.2]),(7,.box 24 [.ii b1.2.1,.ii b1.2.2.1,.sl (.sl .i) b1.2.2.2.1,.sl (.sl .i) b1.2.2.2.2.1]),(1000,.box 146 [.ii ((b1.2.2.2.1.getD b1.2.2.2.2.2.toNat []).getD c.2.2.1.toNat 0),.ii s.1.2,.int .u64 s.2])] gt ?_
        as_aux_lemma =>
         have hj:=hk_history_states_answer_k2 _ h
         exact AW.weaken (zL [] [] []) hj
       rw [if_neg (Bool.eq_false_iff.1 hb16)] at h
       have hz17:b1.1=1:=by have:=of_decide_eq_false hb16; omega
       refine f8 2 (fun K' hK19=>?_)
       try dsimp only [y1,y2,y3,y4]
       simp only [go_sem,hb16,hz17]
       repeat with_reducible refine zN ?_
       refine hK19 _ ?_
       refine j8 ?_
       refine g5 ?_
       refine zV [(5,.bp 5 0),(7,.bp 7 0),(8,.ii b1.2.2.2.2.2)] [(5,.box 68 [.ii c.1,.ii 1,.ii c.2.2.1,.ii c.2.2.2.1,.ii c.2.2.2.2.1,.ii c.2.2.2.2.2]),(7,.box 24 [.ii b1.2.1,.ii b1.2.2.1,.sl (.sl .i) b1.2.2.2.1,.sl (.sl .i) b1.2.2.2.2.1]),(1000,.box 146 [.ii s.1.1,.ii ((b1.2.2.2.1.getD b1.2.2.2.2.2.toNat []).getD c.2.2.1.toNat 0),.int .u64 s.2])] gt ?_
       as_aux_lemma =>
        have hj:=hk_history_states_answer_k2 _ h
        exact AW.weaken (zL [] [] []) hj
 refine AW.seq ?_
 refine AW.draw r4 p5 [(11,[7]),(12,[7])] [(0,[]),(1,[5]),(2,[5]),(3,[]),(4,[]),(5,[1000]),(6,[5]),(7,[5]),(8,[1000,999999]),(9,[1000,999999]),(10,[1000]),(100012,[])] (by decide) (v9 (by kernel_rfl)) ?_
 as_aux_lemma =>
  obtain ⟨c21,h⟩:=b5.1 h
  obtain ⟨c22,h⟩:=b5.1 h
  refine f8 6 (fun K' hK20=>?_)
  try dsimp only [y1,y2,y3,y4]
  simp only [go_sem]
  repeat with_reducible refine zN ?_
  refine hK20 _ ?_
  as_aux_lemma =>
   obtain ⟨c24,h⟩:=b5.1 h
   obtain ⟨c25,h⟩:=b5.1 h
   refine f8 3 (fun K' hK23=>?_)
   try dsimp only [y1,y2,y3,y4]
   simp only [go_sem]
   repeat with_reducible refine zN ?_
   refine hK23 _ ?_
   as_aux_lemma =>
    rcases Bool.eq_false_or_eq_true (decide (c.2.1=0)) with hb26|hb26
    ·rw [if_pos hb26] at h
     have hz27:c.2.1=0:=by simpa using hb26
     refine f8 5 (fun K' hK28=>?_)
     try dsimp only [y1,y2,y3,y4]
     simp only [go_sem,hb26,hz27]
     repeat with_reducible refine zN ?_
     refine hK28 _ ?_
     refine j8 ?_
     refine g5 ?_
     refine zV [(0,.bp 1000 0),(5,.bp 5 0),(7,.bp 7 0),(8,.ii s.1.1)] [(5,.box 68 [.ii c.1,.ii 0,.ii c.2.2.1,.ii c.2.2.2.1,.ii c.2.2.2.2.1,.ii c.2.2.2.2.2]),(7,.box 24 [.ii (specs.getD 0 (0,0,[],[])).1,.ii (specs.getD 0 (0,0,[],[])).2.1,.sl (.sl .i) (specs.getD 0 (0,0,[],[])).2.2.1,.sl (.sl .i) (specs.getD 0 (0,0,[],[])).2.2.2]),(1000,.box 146 [.ii s.1.1,.ii s.1.2,.int .u64 s.2])] gt ?_
     as_aux_lemma =>
      have hj:=hk_history_states_answer_k1 _ h
      exact AW.weaken (zL [] [] []) hj
    rw [if_neg (Bool.eq_false_iff.1 hb26)] at h
    have hz27:c.2.1=1:=by have:=of_decide_eq_false hb26; omega
    refine f8 5 (fun K' hK29=>?_)
    try dsimp only [y1,y2,y3,y4]
    simp only [go_sem,hb26,hz27]
    repeat with_reducible refine zN ?_
    refine hK29 _ ?_
    refine j8 ?_
    refine g5 ?_
    refine zV [(0,.bp 1000 0),(5,.bp 5 0),(7,.bp 7 0),(8,.ii s.1.2)] [(5,.box 68 [.ii c.1,.ii 1,.ii c.2.2.1,.ii c.2.2.2.1,.ii c.2.2.2.2.1,.ii c.2.2.2.2.2]),(7,.box 24 [.ii (specs.getD 1 (0,0,[],[])).1,.ii (specs.getD 1 (0,0,[],[])).2.1,.sl (.sl .i) (specs.getD 1 (0,0,[],[])).2.2.1,.sl (.sl .i) (specs.getD 1 (0,0,[],[])).2.2.2]),(1000,.box 146 [.ii s.1.1,.ii s.1.2,.int .u64 s.2])] gt ?_
    as_aux_lemma =>
     have hj:=hk_history_states_answer_k1 _ h
     exact AW.weaken (zL [] [] []) hj
theorem a2i (specs:ZS) (c:Int×Int×Int×Int×Int×Int) (s:(Int×Int)×Int) {r:Bool×Int×Int} (h:F3 specs c s=some r):HC Try.prog 181 [(1000,.box 146 [.ii s.1.1,.ii s.1.2,.int .u64 s.2])] [.bp 1000 0,.sl Y3 specs,.agg [.ii c.1,.ii c.2.1,.ii c.2.2.1,.ii c.2.2.2.1,.ii c.2.2.2.2.1,.ii c.2.2.2.2.2]] [(1000,.box 146 [.ii r.2.1,.ii r.2.2,.int .u64 s.2])] (.bool r.1):=by
 unfold F3 at h
 refine zH Try.func181 [.tmp 6] 21 ?_
 refine zo ?_
 refine zB [(0,.bp 1000 0),(1,.sl Y3 specs),(5,.bp 5 0)] [(5,.box 68 [.ii c.1,.ii c.2.1,.ii c.2.2.1,.ii c.2.2.2.1,.ii c.2.2.2.2.1,.ii c.2.2.2.2.2]),(1000,.box 146 [.ii s.1.1,.ii s.1.2,.int .u64 s.2])] ?_
 refine zo ?_
 refine zS 3 [(5,.bp 5 0),(8,.bp 1000 0),(9,.sl Y3 specs),(10,.agg [.ii c.1,.ii c.2.1,.ii c.2.2.1,.ii c.2.2.2.1,.ii c.2.2.2.2.1,.ii c.2.2.2.2.2])] [(5,.box 68 [.ii c.1,.ii c.2.1,.ii c.2.2.1,.ii c.2.2.2.1,.ii c.2.2.2.2.1,.ii c.2.2.2.2.2]),(1000,.box 146 [.ii s.1.1,.ii s.1.2,.int .u64 s.2])] ?_
 obtain ⟨v0,hv1,h⟩:=zw h
 refine zC [] [(1000,1000)] (a1T specs c s hv1) [(5,.bp 5 0),(11,.ii v0.1)] [(5,.box 68 [.ii c.1,.ii c.2.1,.ii c.2.2.1,.ii c.2.2.2.1,.ii c.2.2.2.2.1,.ii c.2.2.2.2.2]),(1000,.box 146 [.ii v0.2.1,.ii v0.2.2,.int .u64 s.2])] ?_
 refine zB [(5,.bp 5 0),(7,.ii v0.1)] [(5,.box 68 [.ii c.1,.ii c.2.1,.ii c.2.2.1,.ii c.2.2.2.1,.ii c.2.2.2.2.1,.ii c.2.2.2.2.2]),(1000,.box 146 [.ii v0.2.1,.ii v0.2.2,.int .u64 s.2])] ?_
 refine zo ?_
 refine zS 4 [(5,.bp 5 0),(7,.ii v0.1),(15,.bool (decide (c.2.2.2.2.2=0)))] [(5,.box 68 [.ii c.1,.ii c.2.1,.ii c.2.2.1,.ii c.2.2.2.1,.ii c.2.2.2.2.1,.ii c.2.2.2.2.2]),(1000,.box 146 [.ii v0.2.1,.ii v0.2.2,.int .u64 s.2])] ?_
 rcases zI h with ⟨hb2,h⟩|⟨hb2,h⟩
 ·refine zS 4 [(15,.bool true),(19,.cv (undef))] [(1000,.box 146 [.ii v0.2.1,.ii v0.2.2,.int .u64 s.2])] ?_
  refine zB [(6,.bool true)] [(1000,.box 146 [.ii v0.2.1,.ii v0.2.2,.int .u64 s.2])] ?_
  refine AW.ret ?_
  obtain rfl:=zj h
  exact zR [] [] []
 refine zS 5 [(20,.bool (decide (v0.1=c.2.2.2.1)))] [(1000,.box 146 [.ii v0.2.1,.ii v0.2.2,.int .u64 s.2])] ?_
 refine zB [(6,.bool (decide (v0.1=c.2.2.2.1)))] [(1000,.box 146 [.ii v0.2.1,.ii v0.2.2,.int .u64 s.2])] ?_
 refine AW.ret ?_
 obtain rfl:=zj h
 exact zR [] [] []
theorem U3 {S R:Type} (a1:ZS) (a1_2:ZH) (a2:(Int×Int)×Int) (yl:Int×((Int×Int)×Int)→S→Option (Step S R)) (s0:S) {r:Sum S R} (h:C4 S R a1 a1_2 a2 yl s0=some r):IC Try.prog 179 [(1000,.box 140 [.sl Y3 a1,.sl Y0 a1_2,.fn (.func 95) [] [],.one]),(1001,.box 146 [.ii a2.1.1,.ii a2.1.2,.int .u64 a2.2])] [] [.bp 1000 0,.bp 1001 0] (fun (y:Int×((Int×Int)×Int))=>[.ii y.1,.agg [.ii y.2.1.1,.ii y.2.1.2,.int .u64 y.2.2]]) yl s0 r:=by
 unfold C4 at h
 refine IC.of_body Try.func179 rfl (by kernel_rfl) rfl (nt:=41) rfl (by decide) (by simp) ?_
 intro Γ Γx lp hΓ hΓx hY
 refine zo ?_
 refine zB [(0,.fn (.yield lp) [] []),(1,.bp 1000 0),(2,.bp 1001 0),(8,.sl Y0 a1_2),(9,.ii (a1_2.length:Int)),(10,.ii 0)] [(1000,.box 140 [.sl Y3 a1,.sl Y0 a1_2,.fn (.func 95) [] [],.one]),(1001,.box 146 [.ii a2.1.1,.ii a2.1.2,.int .u64 a2.2])] ?_
 refine AW.block ?_
 obtain ⟨rv5,hw1,ho2⟩:=zw h
 refine AW.loopO (s6 S R a1 a1_2 a2 yl) (fun st1=>⟨fr [(0,.fn (.yield lp) [] []),(1,.bp 1000 0),(2,.bp 1001 0),(8,.sl Y0 a1_2),(9,.ii (a1_2.length:Int)),(10,.ii st1.1)],b6 [(1000,.box 140 [.sl Y3 a1,.sl Y0 a1_2,.fn (.func 95) [] [],.one]),(1001,.box 146 [.ii a2.1.1,.ii a2.1.2,.int .u64 a2.2])],(Γ st1.2)⟩) (0,s0) hw1 (zL [] [] []) ?_
 as_aux_lemma =>
  intro st1 x4 h hd3
  unfold s6 at h
  refine zo ?_
  refine zB [(0,.fn (.yield lp) [] []),(1,.bp 1000 0),(2,.bp 1001 0),(8,.sl Y0 a1_2),(9,.ii (a1_2.length:Int)),(10,.ii st1.1),(11,.bool (decide (st1.1<(a1_2.length:Int))))] [(1000,.box 140 [.sl Y3 a1,.sl Y0 a1_2,.fn (.func 95) [] [],.one]),(1001,.box 146 [.ii a2.1.1,.ii a2.1.2,.int .u64 a2.2])] ?_
  refine AW.seq ?_
  refine zQ h (fun hb6 h=>?_) (fun hb6 h=>?_)
  ·refine zk ?_
   refine AW.seq ?_
   refine AW.block ?_
   refine zo ?_
   obtain ⟨c7,h⟩:=b5.1 h
   obtain ⟨c8,h⟩:=b5.1 h
   refine zS 5 [(0,.fn (.yield lp) [] []),(1,.bp 1000 0),(2,.bp 1001 0),(4,.ii st1.1),(5,.bp 5 0),(8,.sl Y0 a1_2),(9,.ii (a1_2.length:Int)),(10,.ii st1.1),(14,.agg [.ii (a1_2.getD st1.1.toNat (0,0,0,0,0,0)).1,.ii (a1_2.getD st1.1.toNat (0,0,0,0,0,0)).2.1,.ii (a1_2.getD st1.1.toNat (0,0,0,0,0,0)).2.2.1,.ii (a1_2.getD st1.1.toNat (0,0,0,0,0,0)).2.2.2.1,.ii (a1_2.getD st1.1.toNat (0,0,0,0,0,0)).2.2.2.2.1,.ii (a1_2.getD st1.1.toNat (0,0,0,0,0,0)).2.2.2.2.2])] [(5,.box 68 [.ii 0,.ii 0,.ii 0,.ii 0,.ii 0,.ii 0]),(1000,.box 140 [.sl Y3 a1,.sl Y0 a1_2,.fn (.func 95) [] [],.one]),(1001,.box 146 [.ii a2.1.1,.ii a2.1.2,.int .u64 a2.2])] ?_
   refine zB [(0,.fn (.yield lp) [] []),(1,.bp 1000 0),(2,.bp 1001 0),(4,.ii st1.1),(5,.bp 5 0),(8,.sl Y0 a1_2),(9,.ii (a1_2.length:Int)),(10,.ii st1.1)] [(5,.box 68 [.ii (a1_2.getD st1.1.toNat (0,0,0,0,0,0)).1,.ii (a1_2.getD st1.1.toNat (0,0,0,0,0,0)).2.1,.ii (a1_2.getD st1.1.toNat (0,0,0,0,0,0)).2.2.1,.ii (a1_2.getD st1.1.toNat (0,0,0,0,0,0)).2.2.2.1,.ii (a1_2.getD st1.1.toNat (0,0,0,0,0,0)).2.2.2.2.1,.ii (a1_2.getD st1.1.toNat (0,0,0,0,0,0)).2.2.2.2.2]),(1000,.box 140 [.sl Y3 a1,.sl Y0 a1_2,.fn (.func 95) [] [],.one]),(1001,.box 146 [.ii a2.1.1,.ii a2.1.2,.int .u64 a2.2])] ?_
   refine zo ?_
   refine zB [(0,.fn (.yield lp) [] []),(1,.bp 1000 0),(2,.bp 1001 0),(4,.ii st1.1),(5,.bp 5 0),(6,.bp 6 0),(8,.sl Y0 a1_2),(9,.ii (a1_2.length:Int)),(10,.ii st1.1)] [(5,.box 68 [.ii (a1_2.getD st1.1.toNat (0,0,0,0,0,0)).1,.ii (a1_2.getD st1.1.toNat (0,0,0,0,0,0)).2.1,.ii (a1_2.getD st1.1.toNat (0,0,0,0,0,0)).2.2.1,.ii (a1_2.getD st1.1.toNat (0,0,0,0,0,0)).2.2.2.1,.ii (a1_2.getD st1.1.toNat (0,0,0,0,0,0)).2.2.2.2.1,.ii (a1_2.getD st1.1.toNat (0,0,0,0,0,0)).2.2.2.2.2]),(6,.box 146 [.ii a2.1.1,.ii a2.1.2,.int .u64 a2.2]),(1000,.box 140 [.sl Y3 a1,.sl Y0 a1_2,.fn (.func 95) [] [],.one]),(1001,.box 146 [.ii a2.1.1,.ii a2.1.2,.int .u64 a2.2])] ?_
   refine AW.seq ?_
   refine zo ?_
   refine zS 3 [(0,.fn (.yield lp) [] []),(1,.bp 1000 0),(2,.bp 1001 0),(4,.ii st1.1),(5,.bp 5 0),(6,.bp 6 0),(8,.sl Y0 a1_2),(9,.ii (a1_2.length:Int)),(10,.ii st1.1),(16,.agg [.sl Y3 a1,.sl Y0 a1_2,.fn (.func 95) [] [],.one]),(17,.agg [.ii a2.1.1,.ii a2.1.2,.int .u64 a2.2]),(18,.ii st1.1)] [(5,.box 68 [.ii (a1_2.getD st1.1.toNat (0,0,0,0,0,0)).1,.ii (a1_2.getD st1.1.toNat (0,0,0,0,0,0)).2.1,.ii (a1_2.getD st1.1.toNat (0,0,0,0,0,0)).2.2.1,.ii (a1_2.getD st1.1.toNat (0,0,0,0,0,0)).2.2.2.1,.ii (a1_2.getD st1.1.toNat (0,0,0,0,0,0)).2.2.2.2.1,.ii (a1_2.getD st1.1.toNat (0,0,0,0,0,0)).2.2.2.2.2]),(6,.box 146 [.ii a2.1.1,.ii a2.1.2,.int .u64 a2.2]),(1000,.box 140 [.sl Y3 a1,.sl Y0 a1_2,.fn (.func 95) [] [],.one]),(1001,.box 146 [.ii a2.1.1,.ii a2.1.2,.int .u64 a2.2])] ?_
   obtain ⟨v0,hv9,h⟩:=zw h
   refine zC [] [] (a2k a1 a1_2 a2 st1.1 hv9) [(0,.fn (.yield lp) [] []),(1,.bp 1000 0),(2,.bp 1001 0),(4,.ii st1.1),(5,.bp 5 0),(6,.bp 6 0),(8,.sl Y0 a1_2),(9,.ii (a1_2.length:Int)),(10,.ii st1.1),(19,.bool v0)] [(5,.box 68 [.ii (a1_2.getD st1.1.toNat (0,0,0,0,0,0)).1,.ii (a1_2.getD st1.1.toNat (0,0,0,0,0,0)).2.1,.ii (a1_2.getD st1.1.toNat (0,0,0,0,0,0)).2.2.1,.ii (a1_2.getD st1.1.toNat (0,0,0,0,0,0)).2.2.2.1,.ii (a1_2.getD st1.1.toNat (0,0,0,0,0,0)).2.2.2.2.1,.ii (a1_2.getD st1.1.toNat (0,0,0,0,0,0)).2.2.2.2.2]),(6,.box 146 [.ii a2.1.1,.ii a2.1.2,.int .u64 a2.2]),(1000,.box 140 [.sl Y3 a1,.sl Y0 a1_2,.fn (.func 95) [] [],.one]),(1001,.box 146 [.ii a2.1.1,.ii a2.1.2,.int .u64 a2.2])] ?_
   refine zS 2 [(0,.fn (.yield lp) [] []),(1,.bp 1000 0),(2,.bp 1001 0),(4,.ii st1.1),(5,.bp 5 0),(6,.bp 6 0),(8,.sl Y0 a1_2),(9,.ii (a1_2.length:Int)),(10,.ii st1.1),(21,.bool (!v0))] [(5,.box 68 [.ii (a1_2.getD st1.1.toNat (0,0,0,0,0,0)).1,.ii (a1_2.getD st1.1.toNat (0,0,0,0,0,0)).2.1,.ii (a1_2.getD st1.1.toNat (0,0,0,0,0,0)).2.2.1,.ii (a1_2.getD st1.1.toNat (0,0,0,0,0,0)).2.2.2.1,.ii (a1_2.getD st1.1.toNat (0,0,0,0,0,0)).2.2.2.2.1,.ii (a1_2.getD st1.1.toNat (0,0,0,0,0,0)).2.2.2.2.2]),(6,.box 146 [.ii a2.1.1,.ii a2.1.2,.int .u64 a2.2]),(1000,.box 140 [.sl Y3 a1,.sl Y0 a1_2,.fn (.func 95) [] [],.one]),(1001,.box 146 [.ii a2.1.1,.ii a2.1.2,.int .u64 a2.2])] ?_
   rcases zI h with ⟨hb10,h⟩|⟨hb10,h⟩
   ·refine zS 4 [(0,.fn (.yield lp) [] []),(1,.bp 1000 0),(2,.bp 1001 0),(4,.ii st1.1),(6,.bp 6 0),(8,.sl Y0 a1_2),(9,.ii (a1_2.length:Int)),(10,.ii st1.1),(21,.bool true),(22,.cv (undef)),(24,.cv (undef)),(25,.cv (undef))] [(6,.box 146 [.ii a2.1.1,.ii a2.1.2,.int .u64 a2.2]),(1000,.box 140 [.sl Y3 a1,.sl Y0 a1_2,.fn (.func 95) [] [],.one]),(1001,.box 146 [.ii a2.1.1,.ii a2.1.2,.int .u64 a2.2])] ?_
    refine zB [(0,.fn (.yield lp) [] []),(1,.bp 1000 0),(2,.bp 1001 0),(4,.ii st1.1),(6,.bp 6 0),(8,.sl Y0 a1_2),(9,.ii (a1_2.length:Int)),(10,.ii st1.1),(28,.bool true)] [(6,.box 146 [.ii a2.1.1,.ii a2.1.2,.int .u64 a2.2]),(1000,.box 140 [.sl Y3 a1,.sl Y0 a1_2,.fn (.func 95) [] [],.one]),(1001,.box 146 [.ii a2.1.1,.ii a2.1.2,.int .u64 a2.2])] ?_
    refine AW.cond (b:=true) rfl (fun _=>?_) (fun hb11=>by cases hb11)
    refine AW.exit ?_
    refine i6 ?_
    refine m7 ?_
    refine g5 ?_
    refine AW.ops ?_
    obtain ⟨c12,h⟩:=b5.1 h
    refine zA [(0,.fn (.yield lp) [] []),(1,.bp 1000 0),(2,.bp 1001 0),(8,.sl Y0 a1_2),(9,.ii (a1_2.length:Int)),(10,.ii (st1.1+1))] [(1000,.box 140 [.sl Y3 a1,.sl Y0 a1_2,.fn (.func 95) [] [],.one]),(1001,.box 146 [.ii a2.1.1,.ii a2.1.2,.int .u64 a2.2])] ?_
    obtain rfl:=zj h
    exact ⟨_,rfl,zL [] [] []⟩
   refine zS 4 [(0,.fn (.yield lp) [] []),(1,.bp 1000 0),(2,.bp 1001 0),(4,.ii st1.1),(6,.bp 6 0),(8,.sl Y0 a1_2),(9,.ii (a1_2.length:Int)),(10,.ii st1.1),(21,.bool false),(22,.bp 6 0),(24,.sl Y3 a1),(25,.agg [.ii (a1_2.getD st1.1.toNat (0,0,0,0,0,0)).1,.ii (a1_2.getD st1.1.toNat (0,0,0,0,0,0)).2.1,.ii (a1_2.getD st1.1.toNat (0,0,0,0,0,0)).2.2.1,.ii (a1_2.getD st1.1.toNat (0,0,0,0,0,0)).2.2.2.1,.ii (a1_2.getD st1.1.toNat (0,0,0,0,0,0)).2.2.2.2.1,.ii (a1_2.getD st1.1.toNat (0,0,0,0,0,0)).2.2.2.2.2])] [(6,.box 146 [.ii a2.1.1,.ii a2.1.2,.int .u64 a2.2]),(1000,.box 140 [.sl Y3 a1,.sl Y0 a1_2,.fn (.func 95) [] [],.one]),(1001,.box 146 [.ii a2.1.1,.ii a2.1.2,.int .u64 a2.2])] ?_
   obtain ⟨v0_2,hv13,h⟩:=zw h
   refine zG [] [(1000,6)] (a2i a1 (a1_2.getD st1.1.toNat (0,0,0,0,0,0)) a2 hv13) [(0,.fn (.yield lp) [] []),(1,.bp 1000 0),(2,.bp 1001 0),(4,.ii st1.1),(6,.bp 6 0),(8,.sl Y0 a1_2),(9,.ii (a1_2.length:Int)),(10,.ii st1.1),(21,.bool false),(26,.bool v0_2.1)] [(6,.box 146 [.ii v0_2.2.1,.ii v0_2.2.2,.int .u64 a2.2]),(1000,.box 140 [.sl Y3 a1,.sl Y0 a1_2,.fn (.func 95) [] [],.one]),(1001,.box 146 [.ii a2.1.1,.ii a2.1.2,.int .u64 a2.2])] ?_
   refine zB [(0,.fn (.yield lp) [] []),(1,.bp 1000 0),(2,.bp 1001 0),(4,.ii st1.1),(6,.bp 6 0),(8,.sl Y0 a1_2),(9,.ii (a1_2.length:Int)),(10,.ii st1.1),(28,.bool (!v0_2.1))] [(6,.box 146 [.ii v0_2.2.1,.ii v0_2.2.2,.int .u64 a2.2]),(1000,.box 140 [.sl Y3 a1,.sl Y0 a1_2,.fn (.func 95) [] [],.one]),(1001,.box 146 [.ii a2.1.1,.ii a2.1.2,.int .u64 a2.2])] ?_
   refine zQ h (fun hb14 h=>?_) (fun hb14 h=>?_)
   ·refine AW.exit ?_
    refine i6 ?_
    refine m7 ?_
    refine g5 ?_
    refine AW.ops ?_
    obtain ⟨c15,h⟩:=b5.1 h
    refine zA [(0,.fn (.yield lp) [] []),(1,.bp 1000 0),(2,.bp 1001 0),(8,.sl Y0 a1_2),(9,.ii (a1_2.length:Int)),(10,.ii (st1.1+1))] [(1000,.box 140 [.sl Y3 a1,.sl Y0 a1_2,.fn (.func 95) [] [],.one]),(1001,.box 146 [.ii a2.1.1,.ii a2.1.2,.int .u64 a2.2])] ?_
    obtain rfl:=zj h
    exact ⟨_,rfl,zL [] [] []⟩
   refine zk ?_
   refine AW.seq ?_
   refine AW.draw r4 p5 [(6,[6])] [] (by decide) (by kernel_rfl) ?_
   as_aux_lemma =>
    obtain ⟨c17,h⟩:=b5.1 h
    refine f8 6 (fun K' hK16=>?_)
    try dsimp only [y1,y2,y3,y4]
    simp only [go_sem,hb6,hb10,hb14]
    repeat with_reducible refine zN ?_
    refine hK16 _ ?_
    as_aux_lemma =>
     refine f8 1 (fun K' hK18=>?_)
     try dsimp only [y1,y2,y3,y4]
     simp only [go_sem,hb6,hb10,hb14]
     repeat with_reducible refine zN ?_
     refine hK18 _ ?_
     refine j8 ?_
     refine g5 ?_
     refine zV [(0,.fn (.yield lp) [] []),(1,.bp 1000 0),(2,.bp 1001 0),(4,.ii st1.1),(6,.bp 6 0),(8,.sl Y0 a1_2),(9,.ii (a1_2.length:Int)),(10,.ii st1.1)] [(6,.box 146 [.ii v0_2.2.1,.ii v0_2.2.2,.int .u64 (ior .u64 a2.2 (a1O .u64 1 st1.1))]),(1000,.box 140 [.sl Y3 a1,.sl Y0 a1_2,.fn (.func 95) [] [],.one]),(1001,.box 146 [.ii a2.1.1,.ii a2.1.2,.int .u64 a2.2])] (Γ st1.2) ?_
     as_aux_lemma =>
      refine zo ?_
      refine zS 3 [(0,.fn (.yield lp) [] []),(1,.bp 1000 0),(2,.bp 1001 0),(8,.sl Y0 a1_2),(9,.ii (a1_2.length:Int)),(10,.ii st1.1),(35,.fn (.yield lp) [] []),(36,.ii st1.1),(37,.agg [.ii v0_2.2.1,.ii v0_2.2.2,.int .u64 (ior .u64 a2.2 (a1O .u64 1 st1.1))])] [(1000,.box 140 [.sl Y3 a1,.sl Y0 a1_2,.fn (.func 95) [] [],.one]),(1001,.box 146 [.ii a2.1.1,.ii a2.1.2,.int .u64 a2.2])] ?_
      obtain ⟨x19,hx20,h⟩:=zw h
      refine a4F rfl rfl rfl (by decide) _ rfl hY hΓ hΓx (st1.1,v0_2.2,(ior .u64 a2.2 (a1O .u64 1 st1.1))) [] (by (simp only [go_sem,hb6,hb10,hb14])<;>(with_reducible and_intros)<;>first|assumption|rfl|omega|(unfold maxLen; omega)) hx20 ?_
      cases x19 with
      | next s =>
       try simp only at h
       refine zT [(0,.fn (.yield lp) [] []),(1,.bp 1000 0),(2,.bp 1001 0),(8,.sl Y0 a1_2),(9,.ii (a1_2.length:Int)),(10,.ii st1.1),(38,.bool true)] [(1000,.box 140 [.sl Y3 a1,.sl Y0 a1_2,.fn (.func 95) [] [],.one]),(1001,.box 146 [.ii a2.1.1,.ii a2.1.2,.int .u64 a2.2])] (Γ s) ?_
       refine zB [(0,.fn (.yield lp) [] []),(1,.bp 1000 0),(2,.bp 1001 0),(8,.sl Y0 a1_2),(9,.ii (a1_2.length:Int)),(10,.ii st1.1),(39,.bool false)] [(1000,.box 140 [.sl Y3 a1,.sl Y0 a1_2,.fn (.func 95) [] [],.one]),(1001,.box 146 [.ii a2.1.1,.ii a2.1.2,.int .u64 a2.2])] ?_
       refine AW.cond (b:=false) rfl (fun hb21=>by cases hb21) (fun _=>?_)
       refine zm ?_
       refine g5 ?_
       refine AW.ops ?_
       obtain ⟨c22,h⟩:=b5.1 h
       refine zA [(0,.fn (.yield lp) [] []),(1,.bp 1000 0),(2,.bp 1001 0),(8,.sl Y0 a1_2),(9,.ii (a1_2.length:Int)),(10,.ii (st1.1+1))] [(1000,.box 140 [.sl Y3 a1,.sl Y0 a1_2,.fn (.func 95) [] [],.one]),(1001,.box 146 [.ii a2.1.1,.ii a2.1.2,.int .u64 a2.2])] ?_
       obtain rfl:=zj h
       exact ⟨_,rfl,zL [] [] []⟩
      | done e =>
       try simp only at h
       refine zT [(0,.fn (.yield lp) [] []),(1,.bp 1000 0),(2,.bp 1001 0),(8,.sl Y0 a1_2),(9,.ii (a1_2.length:Int)),(10,.ii st1.1),(38,.bool false)] [(1000,.box 140 [.sl Y3 a1,.sl Y0 a1_2,.fn (.func 95) [] [],.one]),(1001,.box 146 [.ii a2.1.1,.ii a2.1.2,.int .u64 a2.2])] (Γx e) ?_
       refine zB [(0,.fn (.yield lp) [] []),(1,.bp 1000 0),(2,.bp 1001 0),(8,.sl Y0 a1_2),(9,.ii (a1_2.length:Int)),(10,.ii st1.1),(39,.bool true)] [(1000,.box 140 [.sl Y3 a1,.sl Y0 a1_2,.fn (.func 95) [] [],.one]),(1001,.box 146 [.ii a2.1.1,.ii a2.1.2,.int .u64 a2.2])] ?_
       refine AW.cond (b:=true) rfl (fun _=>?_) (fun hb23=>by cases hb23)
       refine AW.ret ?_
       refine d7 ?_
       refine b9 ?_
       obtain rfl:=zj h
       rw [← hd3 _ rfl] at ho2
       have h:=ho2
       try simp only at h
       refine b9 ?_
       refine d7 ?_
       obtain rfl:=zj h
       exact rfl
  refine AW.exit ?_
  refine i6 ?_
  obtain rfl:=zj h
  rw [← hd3 _ rfl] at ho2
  have h:=ho2
  try simp only at h
  refine i6 ?_
  refine m7 ?_
  obtain rfl:=zj h
  exact rfl
theorem a1U (slf:ZS→ZH→((Int×Int)×Int)→ZM→Option (Int×ZM)) (hc_slf:∀ (s:ZS) (s_2:ZH) (at0:(Int×Int)×Int) (s_3:ZM) {r:Int×ZM},slf s s_2 at0 s_3=some r→HC Try.prog 96 [(1000,.map true false Y6 .i s_3)] [.agg [.sl Y3 s,.sl Y0 s_2,.fn (.func 95) [] [],.own 1000],.agg [.ii at0.1.1,.ii at0.1.2,.int .u64 at0.2]] [(1000,.map true false Y6 .i r.2)] (.ii r.1)) (s:ZS) (s_2:ZH) (at0:(Int×Int)×Int) (s_3:ZM) {r:Int×ZM} (h:D8 slf s s_2 at0 s_3=some r):HC Try.prog 96 [(1000,.map true false Y6 .i s_3)] [.agg [.sl Y3 s,.sl Y0 s_2,.fn (.func 95) [] [],.own 1000],.agg [.ii at0.1.1,.ii at0.1.2,.int .u64 at0.2]] [(1000,.map true false Y6 .i r.2)] (.ii r.1):=by
 unfold D8 at h
 refine zH Try.func96 [.tmp 4] 37 ?_
 refine zo ?_
 refine zB [(2,.bp 2 0),(3,.bp 3 0)] [(2,.box 140 [.sl Y3 s,.sl Y0 s_2,.fn (.func 95) [] [],.own 1000]),(3,.box 146 [.ii at0.1.1,.ii at0.1.2,.int .u64 at0.2]),(1000,.map true false Y6 .i s_3)] ?_
 refine AW.seq ?_
 refine zo ?_
 refine zS 3 [(2,.bp 2 0),(3,.bp 3 0),(12,.own 1000),(13,.agg [.ii at0.1.1,.ii at0.1.2,.int .u64 at0.2])] [(2,.box 140 [.sl Y3 s,.sl Y0 s_2,.fn (.func 95) [] [],.own 1000]),(3,.box 146 [.ii at0.1.1,.ii at0.1.2,.int .u64 at0.2]),(1000,.map true false Y6 .i s_3)] ?_
 obtain ⟨c1,h⟩:=b5.1 h
 obtain ⟨c2,h⟩:=b5.1 h
 obtain ⟨c3,h⟩:=b5.1 h
 refine AO.lookup a8j (by decide) rfl rfl rfl rfl (l:=[.ii at0.1.1,.ii at0.1.2,.int .u64 at0.2]) (by (simp only [go_sem])<;>(with_reducible and_intros)<;>first|assumption|rfl|omega|(unfold maxLen; omega)) (by first|rfl|(simp only [go_sem])<;>(with_reducible and_intros)<;>first|assumption|rfl|omega|(unfold maxLen; omega)) (by (simp only [go_sem])<;>(with_reducible and_intros)<;>first|assumption|rfl|omega|(unfold maxLen; omega)) ?_
 refine zT [(2,.bp 2 0),(3,.bp 3 0),(14,.tup [.ii (a2a 0 s_3 at0),.bool (a1L s_3 at0)])] [(2,.box 140 [.sl Y3 s,.sl Y0 s_2,.fn (.func 95) [] [],.own 1000]),(3,.box 146 [.ii at0.1.1,.ii at0.1.2,.int .u64 at0.2]),(1000,.map true false Y6 .i s_3)] gt ?_
 refine zB [(2,.bp 2 0),(3,.bp 3 0),(5,.ii (a2a 0 s_3 at0)),(6,.bool (a1L s_3 at0))] [(2,.box 140 [.sl Y3 s,.sl Y0 s_2,.fn (.func 95) [] [],.own 1000]),(3,.box 146 [.ii at0.1.1,.ii at0.1.2,.int .u64 at0.2]),(1000,.map true false Y6 .i s_3)] ?_
 refine zo ?_
 refine zB [(2,.bp 2 0),(3,.bp 3 0),(5,.ii (a2a 0 s_3 at0)),(17,.bool (a1L s_3 at0))] [(2,.box 140 [.sl Y3 s,.sl Y0 s_2,.fn (.func 95) [] [],.own 1000]),(3,.box 146 [.ii at0.1.1,.ii at0.1.2,.int .u64 at0.2]),(1000,.map true false Y6 .i s_3)] ?_
 refine zQ h (fun hb4 h=>?_) (fun hb4 h=>?_)
 ·refine zo ?_
  refine zB [(4,.ii (a2a 0 s_3 at0))] [(1000,.map true false Y6 .i s_3)] ?_
  refine zr ?_
  obtain rfl:=zj h
  exact zR [] [] []
 refine zk ?_
 refine zo ?_
 refine zB [(2,.bp 2 0),(3,.bp 3 0),(7,.bp 7 0)] [(2,.box 140 [.sl Y3 s,.sl Y0 s_2,.fn (.func 95) [] [],.own 1000]),(3,.box 146 [.ii at0.1.1,.ii at0.1.2,.int .u64 at0.2]),(7,.box 3 [.ii 0]),(1000,.map true false Y6 .i s_3)] ?_
 refine AW.have1 (fun b1:Int=>v5 slf s s_2 at0 s_3 b1=some r) (fun b1=>⟨fr [(2,.bp 2 0),(3,.bp 3 0),(7,.bp 7 0)],b6 [(2,.box 140 [.sl Y3 s,.sl Y0 s_2,.fn (.func 95) [] [],.own 1000]),(3,.box 146 [.ii at0.1.1,.ii at0.1.2,.int .u64 at0.2]),(7,.box 3 [.ii b1]),(1000,.map true false Y6 .i s_3)],gt⟩) (fun b1 h=>?_) (fun hk_history_search_count_k1=>?_)
 ·as_aux_lemma =>
   unfold v5 at h
   refine AW.have1 (fun b2:ZM×Int=>G7 at0 b2=some r) (fun b2=>⟨fr [(2,.bp 2 0),(3,.bp 3 0),(7,.bp 7 0)],b6 [(2,.box 140 [.sl Y3 s,.sl Y0 s_2,.fn (.func 95) [] [],.own 1000]),(3,.box 146 [.ii at0.1.1,.ii at0.1.2,.int .u64 at0.2]),(7,.box 3 [.ii b2.2]),(1000,.map true false Y6 .i b2.1)],gt⟩) (fun b2 h=>?_) (fun hk_history_search_count_k2=>?_)
   ·as_aux_lemma =>
     unfold G7 at h
     refine zo ?_
     refine zS 4 [(7,.bp 7 0),(33,.own 1000),(34,.agg [.ii at0.1.1,.ii at0.1.2,.int .u64 at0.2]),(35,.ii b2.2)] [(7,.box 3 [.ii b2.2]),(1000,.map true false Y6 .i b2.1)] ?_
     obtain ⟨c5,h⟩:=b5.1 h
     obtain ⟨c6,h⟩:=b5.1 h
     obtain ⟨c7,h⟩:=b5.1 h
     refine AO.mapPut a8j (by decide) rfl (.inl rfl) rfl rfl (l:=[.ii at0.1.1,.ii at0.1.2,.int .u64 at0.2]) (by (simp only [go_sem,hb4])<;>(with_reducible and_intros)<;>first|assumption|rfl|omega|(unfold maxLen; omega)) (by first|rfl|(simp only [go_sem,hb4])<;>(with_reducible and_intros)<;>first|assumption|rfl|omega|(unfold maxLen; omega)) (by (simp only [go_sem,hb4])<;>(with_reducible and_intros)<;>first|assumption|rfl|omega|(unfold maxLen; omega)) (lv:=[.ii b2.2]) (by (simp only [go_sem,hb4])<;>(with_reducible and_intros)<;>first|assumption|rfl|omega|(unfold maxLen; omega)) (by first|rfl|(simp only [go_sem,hb4])<;>(with_reducible and_intros)<;>first|assumption|rfl|omega|(unfold maxLen; omega)) (.inl rfl) ?_
     refine zT [(7,.bp 7 0)] [(7,.box 3 [.ii b2.2]),(1000,.map true false Y6 .i (a0L b2.1 at0 b2.2))] gt ?_
     refine zB [(7,.bp 7 0)] [(7,.box 3 [.ii b2.2]),(1000,.map true false Y6 .i (a0L b2.1 at0 b2.2))] ?_
     refine zo ?_
     refine zB [(4,.ii b2.2)] [(1000,.map true false Y6 .i (a0L b2.1 at0 b2.2))] ?_
     refine AW.ret ?_
     obtain rfl:=zj h
     exact zR [] [] []
   refine AW.seq ?_
   refine zo ?_
   refine zS 2 [(2,.bp 2 0),(3,.bp 3 0),(7,.bp 7 0),(22,.agg [.sl Y3 s,.sl Y0 s_2,.fn (.func 95) [] [],.own 1000]),(23,.agg [.ii at0.1.1,.ii at0.1.2,.int .u64 at0.2])] [(2,.box 140 [.sl Y3 s,.sl Y0 s_2,.fn (.func 95) [] [],.own 1000]),(3,.box 146 [.ii at0.1.1,.ii at0.1.2,.int .u64 at0.2]),(7,.box 3 [.ii b1]),(1000,.map true false Y6 .i s_3)] ?_
   obtain ⟨v0_2,hv8,h⟩:=zw h
   refine zC [] [] (a2j s s_2 at0 hv8) [(2,.bp 2 0),(3,.bp 3 0),(7,.bp 7 0),(24,.fn (.func 179) [] [.bp 34000 0,.bp 34001 0])] [(2,.box 140 [.sl Y3 s,.sl Y0 s_2,.fn (.func 95) [] [],.own 1000]),(3,.box 146 [.ii at0.1.1,.ii at0.1.2,.int .u64 at0.2]),(7,.box 3 [.ii b1]),(1000,.map true false Y6 .i s_3),(34000,.box 140 [.sl Y3 s,.sl Y0 s_2,.fn (.func 95) [] [],.one]),(34001,.box 146 [.ii at0.1.1,.ii at0.1.2,.int .u64 at0.2])] ?_
   refine zB [(2,.bp 2 0),(3,.bp 3 0),(7,.bp 7 0),(24,.fn (.func 179) [] [.bp 34000 0,.bp 34001 0])] [(2,.box 140 [.sl Y3 s,.sl Y0 s_2,.fn (.func 95) [] [],.own 1000]),(3,.box 146 [.ii at0.1.1,.ii at0.1.2,.int .u64 at0.2]),(7,.box 3 [.ii b1]),(1000,.map true false Y6 .i s_3),(34000,.box 140 [.sl Y3 s,.sl Y0 s_2,.fn (.func 95) [] [],.one]),(34001,.box 146 [.ii at0.1.1,.ii at0.1.2,.int .u64 at0.2])] ?_
   refine AW.block ?_
   obtain ⟨x9,hx10,h⟩:=zw h
   refine AW.weaken (s':=⟨fr [(2,.bp 2 0),(3,.bp 3 0),(7,.bp 7 0),(24,.fn (.func 179) [] [.bp 34000 0,.bp 34001 0])],b6 ([(34000,.box 140 [.sl Y3 s,.sl Y0 s_2,.fn (.func 95) [] [],.one]),(34001,.box 146 [.ii at0.1.1,.ii at0.1.2,.int .u64 at0.2])]++[(2,.box 140 [.sl Y3 s,.sl Y0 s_2,.fn (.func 95) [] [],.own 1000]),(3,.box 146 [.ii at0.1.1,.ii at0.1.2,.int .u64 at0.2]),(7,.box 3 [.ii b1]),(1000,.map true false Y6 .i s_3)]),gt⟩) (zL [] [] []) ?_
   refine AW.rangeF (R:=Empty) (r:=x9) (gf:=179) (prev:=[]) (capv:=[.bp 34000 0,.bp 34001 0]) (enc:=(fun (y:Int×((Int×Int)×Int))=>[.ii y.1,.agg [.ii y.2.1.1,.ii y.2.1.2,.int .u64 y.2.2]])) (bodyP:=r5 slf s s_2) (l0:=[(2,.bp 2 0),(3,.bp 3 0),(7,.bp 7 0)]) (hI:=[(34000,.box 140 [.sl Y3 s,.sl Y0 s_2,.fn (.func 95) [] [],.one]),(34001,.box 146 [.ii at0.1.1,.ii at0.1.2,.int .u64 at0.2])]) (h0:=fun (st1:ZM×Int)=>[(2,.box 140 [.sl Y3 s,.sl Y0 s_2,.fn (.func 95) [] [],.own 1000]),(3,.box 146 [.ii at0.1.1,.ii at0.1.2,.int .u64 at0.2]),(7,.box 3 [.ii st1.2]),(1000,.map true false Y6 .i st1.1)]) (gg:=fun (st1:ZM×Int)=>gt) (hx0:=(fun (r:Empty)=>r.elim)) (gx:=(fun (r:Empty)=>r.elim)) (ex:=(fun (r:Empty)=>r.elim)) (s_3,b1) [(34000,1000),(34001,1001)] [(1000,34000),(1001,34001)] [(2,1900),(3,1901),(7,1902)] [(1900,2),(1901,3),(1902,7)] ?_ ?_ ?_ ?_ ?_ ?_ ?_ ?_ ?_ ?_ ?_ ?_ ?_ ?_ ?_ ?_ ?_ ?_ ?_ ?_
   ·decide
   ·rfl
   ·first|exact (U3 s s_2 at0 (r5 slf s s_2) (s_3,b1) hx10)|simpa only [go_sem] using (U3 s s_2 at0 (r5 slf s s_2) (s_3,b1) hx10)
   ·(simp only [go_sem,hb4])<;>(with_reducible and_intros)<;>first|assumption|rfl|omega|(unfold maxLen; omega)
   ·rfl
   ·rfl
   ·rfl
   ·exact (fun _=>rfl)
   ·rfl
   ·exact (fun r=>r.elim)
   ·rfl
   ·exact (fun r=>r.elim)
   ·exact (fun r=>r.elim)
   ·exact (fun _=>rfl)
   ·exact (fun _=>rfl)
   ·rfl
   ·exact (fun _ _=>by first|rfl|(exact (hΓ _).trans (hΓ _).symm)|(exact (hΓx _).trans (hΓ _).symm))
   ·exact (fun _ r=>r.elim)
   ·intro lpy1 y1 st1 x11 h
    unfold r5 at h
    refine zV [(2,.bp 1900 0),(3,.bp 1901 0),(7,.bp 1902 0),(25,.ii y1.1),(26,.agg [.ii y1.2.1.1,.ii y1.2.1.2,.int .u64 y1.2.2])] [(1000,.map true false Y6 .i st1.1),(1900,.box 140 [.sl Y3 s,.sl Y0 s_2,.fn (.func 95) [] [],.own 1000]),(1901,.box 146 [.ii at0.1.1,.ii at0.1.2,.int .u64 at0.2]),(1902,.box 3 [.ii st1.2])] gt ?_
    refine AW.ops ?_
    refine zA [(2,.bp 1900 0),(3,.bp 1901 0),(7,.bp 1902 0),(9,.bp 9 0)] [(9,.box 146 [.ii y1.2.1.1,.ii y1.2.1.2,.int .u64 y1.2.2]),(1000,.map true false Y6 .i st1.1),(1900,.box 140 [.sl Y3 s,.sl Y0 s_2,.fn (.func 95) [] [],.own 1000]),(1901,.box 146 [.ii at0.1.1,.ii at0.1.2,.int .u64 at0.2]),(1902,.box 3 [.ii st1.2])] ?_
    refine And.intro rfl ?_
    refine AW.block ?_
    refine AW.draw r4 p5 [(3,[1000]),(5,[1902])] [(0,[1902]),(100005,[])] (by decide) (by kernel_rfl) ?_
    as_aux_lemma =>
     refine f8 3 (fun K' hK12=>?_)
     try dsimp only [y1,y2,y3,y4]
     simp only [go_sem,hb4]
     repeat with_reducible refine zN ?_
     refine hK12 _ ?_
     as_aux_lemma =>
      obtain ⟨v0_3,hv13,h⟩:=zw h
      refine N7.call (by first|trivial|rfl) rfl rfl rfl (fun _ h=>h) [] [(1000,1000)] (hc_slf s s_2 y1.2 st1.1 hv13) rfl (by (simp only [go_sem,hb4])<;>(with_reducible and_intros)<;>first|assumption|rfl|omega|(unfold maxLen; omega)) (by (simp only [go_sem,hb4])<;>(with_reducible and_intros)<;>first|assumption|rfl|omega|(unfold maxLen; omega)) rfl ?_
      obtain ⟨c15,h⟩:=b5.1 h
      refine f8 2 (fun K' hK14=>?_)
      try dsimp only [y1,y2,y3,y4]
      simp only [go_sem,hb4]
      repeat with_reducible refine zN ?_
      refine hK14 _ ?_
      refine j8 ?_
      refine p6 ?_
      obtain rfl:=zj h
      exact a4s rfl [] [] [] rfl (by (simp only [go_sem,hb4])<;>(with_reducible and_intros)<;>first|assumption|rfl|omega|(unfold maxLen; omega))
   cases x9 with
   | inl st1_2 =>
    try simp only at h
    refine p6 ?_
    refine g5 ?_
    have hj:=hk_history_search_count_k2 _ h
    exact AW.weaken (zL [] [] []) hj
   | inr rx =>
    exact rx.elim
 refine AW.seq ?_
 refine zo ?_
 refine zS 2 [(2,.bp 2 0),(3,.bp 3 0),(7,.bp 7 0),(19,.agg [.sl Y3 s,.sl Y0 s_2,.fn (.func 95) [] [],.own 1000]),(20,.agg [.ii at0.1.1,.ii at0.1.2,.int .u64 at0.2])] [(2,.box 140 [.sl Y3 s,.sl Y0 s_2,.fn (.func 95) [] [],.own 1000]),(3,.box 146 [.ii at0.1.1,.ii at0.1.2,.int .u64 at0.2]),(7,.box 3 [.ii 0]),(1000,.map true false Y6 .i s_3)] ?_
 obtain ⟨v0,hv16,h⟩:=zw h
 refine zC [] [] (a2N s s_2 at0 hv16) [(2,.bp 2 0),(3,.bp 3 0),(7,.bp 7 0),(21,.bool v0)] [(2,.box 140 [.sl Y3 s,.sl Y0 s_2,.fn (.func 95) [] [],.own 1000]),(3,.box 146 [.ii at0.1.1,.ii at0.1.2,.int .u64 at0.2]),(7,.box 3 [.ii 0]),(1000,.map true false Y6 .i s_3)] ?_
 refine zB [(2,.bp 2 0),(3,.bp 3 0),(7,.bp 7 0),(21,.bool v0)] [(2,.box 140 [.sl Y3 s,.sl Y0 s_2,.fn (.func 95) [] [],.own 1000]),(3,.box 146 [.ii at0.1.1,.ii at0.1.2,.int .u64 at0.2]),(7,.box 3 [.ii 0]),(1000,.map true false Y6 .i s_3)] ?_
 refine zQ h (fun hb17 h=>?_) (fun hb17 h=>?_)
 ·refine AW.ops ?_
  refine zB [(2,.bp 2 0),(3,.bp 3 0),(7,.bp 7 0)] [(2,.box 140 [.sl Y3 s,.sl Y0 s_2,.fn (.func 95) [] [],.own 1000]),(3,.box 146 [.ii at0.1.1,.ii at0.1.2,.int .u64 at0.2]),(7,.box 3 [.ii 1]),(1000,.map true false Y6 .i s_3)] ?_
  have hj:=hk_history_search_count_k1 _ h
  exact AW.weaken (zL [] [] []) hj
 refine zk ?_
 have hj:=hk_history_search_count_k1 _ h
 exact AW.weaken (zL [] [] []) hj
theorem a2l:∀ (n:Nat) (s:ZS) (s_2:ZH) (at0:(Int×Int)×Int) (s_3:ZM) {r:Int×ZM},s4 n s s_2 at0 s_3=some r→HC Try.prog 96 [(1000,.map true false Y6 .i s_3)] [.agg [.sl Y3 s,.sl Y0 s_2,.fn (.func 95) [] [],.own 1000],.agg [.ii at0.1.1,.ii at0.1.2,.int .u64 at0.2]] [(1000,.map true false Y6 .i r.2)] (.ii r.1):=by
 intro n
 induction n with
 | zero=>intro s s_2 at0 s_3 r h; cases h
 | succ n ih=>intro s s_2 at0 s_3 r h; exact a1U (s4 n) ih s s_2 at0 s_3 h
theorem a34 (a0:ZS) (a1:ZH) {r:Bool} (h:U1 a0 a1=some r):HC Try.prog 93 [(1000,.box 64 [.sl Y3 a0]),(1001,.box 34 [.sl Y0 a1])] [.bp 1000 0,.bp 1001 0] [(1000,.box 64 [.sl Y3 a0]),(1001,.box 34 [.sl Y0 a1])] (.bool r):=by
 unfold U1 at h
 refine zH Try.func93 [.tmp 2] 9 ?_
 refine zo ?_
 refine zB [(0,.bp 1000 0),(1,.bp 1001 0)] [(1000,.box 64 [.sl Y3 a0]),(1001,.box 34 [.sl Y0 a1])] ?_
 refine zo ?_
 refine zS 2 [(3,.sl Y3 a0),(4,.sl Y0 a1)] [(1000,.box 64 [.sl Y3 a0]),(1001,.box 34 [.sl Y0 a1])] ?_
 obtain ⟨v0,hv1,h⟩:=zw h
 refine zC [] [] (a3x a0 a1 hv1) [(5,.agg [.sl Y3 a0,.sl Y0 a1,.fn (.func 95) [] [],.own 15000])] [(1000,.box 64 [.sl Y3 a0]),(1001,.box 34 [.sl Y0 a1]),(15000,.map true false Y6 .i [])] ?_
 refine zS 1 [(5,.agg [.sl Y3 a0,.sl Y0 a1,.fn (.func 95) [] [],.own 15000]),(6,.agg [.ii 0,.ii 0,.int .u64 0])] [(1000,.box 64 [.sl Y3 a0]),(1001,.box 34 [.sl Y0 a1]),(15000,.map true false Y6 .i [])] ?_
 obtain ⟨v0_2,hv2,h⟩:=zw h
 refine zC [] [(1000,15000)] (a2l H4 a0 a1 ((0,0),0) [] hv2) [(7,.ii v0_2.1)] [(1000,.box 64 [.sl Y3 a0]),(1001,.box 34 [.sl Y0 a1])] ?_
 refine zB [(2,.bool (decide (0<v0_2.1)))] [(1000,.box 64 [.sl Y3 a0]),(1001,.box 34 [.sl Y0 a1])] ?_
 refine AW.ret ?_
 obtain rfl:=zj h
 exact zR [] [] []
end Go.Proofs.Ytenchhmcjmjlbaa
