import Derived.Test.YtanaeefeggokkaaGreatCkp
import Derived.Test.YtanaeefeggokkaaGreatShk
import Derived.Test.YtanaeefeggokkaaGreatAvd
import Derived.Test.YtanaeefeggokkaaGreatCqc12
import Derived.Test.YtanaeefeggokkaaGreatCqc5
import Derived.Test.YtanaeefeggokkaaGreatCqc7
namespace Go.Proofs.YtanaeefeggokkaaGreat
open Go.RowKit
set_option linter.unusedSimpArgs false
set_option linter.unusedVariables false
set_option linter.constructorNameAsVariable false
set_option maxRecDepth 100000
set_option maxHeartbeats 40000000
theorem a1S (h0:ZH) (order:List Int) {r:Bool} (h:N1 h0 order=some r):HC Tryz.prog 53 [] [.sl Y0 h0,.sl .i order] [] (.bool r):=by
 unfold N1 at h;refine zH Tryz.func53 [.tmp 4] 51 ?_;refine zo ?_;refine zB [(0,.sl Y0 h0),(1,.sl .i order)] [] ?_;refine zo ?_;obtain ⟨c1,h⟩:=b4.1 h;refine zB [(0,.sl Y0 h0),(1,.sl .i order),(5,.own 12)] [(12,.arr 4 .bool (List.replicate h0.length (false:Bool)))] ?_;refine AW.have1 (fun b1:(List Bool)=>F0 h0 b1=some r) (fun b1=>⟨fr [(0,.sl Y0 h0),(5,.own 12)],b6 [(12,.arr 4 .bool b1)],gt⟩) (fun b1 h=>?_) (fun hk_history_isOrder_k1=>?_)
 ·as_aux_lemma =>
   unfold F0 at h;refine AW.have1 (fun _:Unit=>a0i=some r) (fun _=>⟨fr [],b6 [],gt⟩) (fun _ h=>?_) (fun hk_history_isOrder_k2=>?_)
   ·as_aux_lemma =>
     unfold a0i at h;refine zo ?_;refine zB [(4,.bool true)] [] ?_;refine AW.ret ?_;obtain rfl:=zj h;exact zR [] [] []
   refine AW.seq ?_;refine zo ?_;refine zB [(5,.own 12),(33,.sl Y0 h0),(34,.ii (h0.length:Int)),(35,.ii 0)] [(12,.arr 4 .bool b1)] ?_;refine AW.block ?_;obtain ⟨rv6,hw2,ho3⟩:=zw h;refine AW.loopO (F1 h0 b1) (fun st2=>⟨fr [(5,.own 12),(33,.sl Y0 h0),(34,.ii (h0.length:Int)),(35,.ii st2)],b6 [(12,.arr 4 .bool b1)],gt⟩) 0 hw2 (zL [] [] []) ?_
   as_aux_lemma =>
    intro st2 x5 h hd4;unfold F1 at h;refine zo ?_;refine zB [(5,.own 12),(33,.sl Y0 h0),(34,.ii (h0.length:Int)),(35,.ii st2),(36,.bool (decide (st2<(h0.length:Int))))] [(12,.arr 4 .bool b1)] ?_;refine AW.seq ?_;refine zQ h (fun hb7 h=>?_) (fun hb7 h=>?_)
    ·refine zk ?_;refine AW.seq ?_;refine AW.block ?_;refine zo ?_;obtain ⟨c8,h⟩:=b4.1 h;obtain ⟨c9,h⟩:=b4.1 h;refine zS 5 [(5,.own 12),(8,.ii st2),(9,.bp 9 0),(33,.sl Y0 h0),(34,.ii (h0.length:Int)),(35,.ii st2),(39,.agg [.ii (h0.getD st2.toNat (0,0,0,0,0,0)).1,.ii (h0.getD st2.toNat (0,0,0,0,0,0)).2.1,.ii (h0.getD st2.toNat (0,0,0,0,0,0)).2.2.1,.ii (h0.getD st2.toNat (0,0,0,0,0,0)).2.2.2.1,.ii (h0.getD st2.toNat (0,0,0,0,0,0)).2.2.2.2.1,.ii (h0.getD st2.toNat (0,0,0,0,0,0)).2.2.2.2.2])] [(9,.box 62 [.ii 0,.ii 0,.ii 0,.ii 0,.ii 0,.ii 0]),(12,.arr 4 .bool b1)] ?_;refine zB [(5,.own 12),(8,.ii st2),(9,.bp 9 0),(33,.sl Y0 h0),(34,.ii (h0.length:Int)),(35,.ii st2)] [(9,.box 62 [.ii (h0.getD st2.toNat (0,0,0,0,0,0)).1,.ii (h0.getD st2.toNat (0,0,0,0,0,0)).2.1,.ii (h0.getD st2.toNat (0,0,0,0,0,0)).2.2.1,.ii (h0.getD st2.toNat (0,0,0,0,0,0)).2.2.2.1,.ii (h0.getD st2.toNat (0,0,0,0,0,0)).2.2.2.2.1,.ii (h0.getD st2.toNat (0,0,0,0,0,0)).2.2.2.2.2]),(12,.arr 4 .bool b1)] ?_;refine zo ?_;refine zS 4 [(5,.own 12),(8,.ii st2),(33,.sl Y0 h0),(34,.ii (h0.length:Int)),(35,.ii st2),(43,.bool (!(decide ((h0.getD st2.toNat (0,0,0,0,0,0)).2.2.2.2.2=0))))] [(12,.arr 4 .bool b1)] ?_;rcases zI h with ⟨hb10,h⟩|⟨hb10,h⟩
     ·obtain ⟨c11,h⟩:=b4.1 h;obtain ⟨c12,h⟩:=b4.1 h;obtain ⟨c13,h⟩:=b4.1 h;refine zS 5 [(5,.own 12),(33,.sl Y0 h0),(34,.ii (h0.length:Int)),(35,.ii st2),(43,.bool true),(48,.bool (!(b1.getD st2.toNat false)))] [(12,.arr 4 .bool b1)] ?_;refine zB [(5,.own 12),(33,.sl Y0 h0),(34,.ii (h0.length:Int)),(35,.ii st2),(49,.bool (!(b1.getD st2.toNat false)))] [(12,.arr 4 .bool b1)] ?_;refine zQ h (fun hb14 h=>?_) (fun hb14 h=>?_)
      ·refine zo ?_;refine zB [(4,.bool false)] [] ?_;refine AW.ret ?_;refine d5 ?_;refine b9 ?_;obtain rfl:=zj h
       try rw [← hd4 _ rfl] at ho3
       have h:=ho3
       try simp only at h
       refine b9 ?_;refine d5 ?_;refine b9 ?_;obtain rfl:=zj h;exact zR [] [] []
      refine zm ?_;refine f7 ?_;refine AW.ops ?_;obtain ⟨c15,h⟩:=b4.1 h;refine zA [(5,.own 12),(33,.sl Y0 h0),(34,.ii (h0.length:Int)),(35,.ii (st2+1))] [(12,.arr 4 .bool b1)] ?_;obtain rfl:=zj h;exact ⟨_,rfl,zL [] [] []⟩
     refine zS 4 [(5,.own 12),(33,.sl Y0 h0),(34,.ii (h0.length:Int)),(35,.ii st2),(43,.bool false),(47,.cv (undef))] [(12,.arr 4 .bool b1)] ?_;refine zB [(5,.own 12),(33,.sl Y0 h0),(34,.ii (h0.length:Int)),(35,.ii st2),(49,.bool false)] [(12,.arr 4 .bool b1)] ?_;refine AW.cond (b:=false) rfl (fun hb16=>by cases hb16) (fun _=>?_);refine zm ?_;refine f7 ?_;refine AW.ops ?_;obtain ⟨c17,h⟩:=b4.1 h;refine zA [(5,.own 12),(33,.sl Y0 h0),(34,.ii (h0.length:Int)),(35,.ii (st2+1))] [(12,.arr 4 .bool b1)] ?_;obtain rfl:=zj h;exact ⟨_,rfl,zL [] [] []⟩
    refine AW.exit ?_;refine g4 ?_;obtain rfl:=zj h
    try rw [← hd4 _ rfl] at ho3
    have h:=ho3
    try simp only at h
    refine g4 ?_;refine j5 ?_;refine f7 ?_;exact AW.weaken (zL [] [] []) (hk_history_isOrder_k2 () h)
 refine AW.seq ?_;refine zo ?_;refine zB [(0,.sl Y0 h0),(5,.own 12),(13,.sl .i order),(14,.ii (order.length:Int)),(15,.ii 0)] [(12,.arr 4 .bool (List.replicate h0.length (false:Bool)))] ?_;refine AW.block ?_;obtain ⟨rv22,hw18,ho19⟩:=zw h;refine AW.loopO (z8 h0 order) (fun st1=>⟨fr [(0,.sl Y0 h0),(5,.own 12),(13,.sl .i order),(14,.ii (order.length:Int)),(15,.ii st1.2)],b6 [(12,.arr 4 .bool st1.1)],gt⟩) ((List.replicate h0.length (false:Bool)),0) hw18 (zL [] [] []) ?_
 as_aux_lemma =>
  intro st1 x21 h hd20;unfold z8 at h;refine zo ?_;refine zB [(0,.sl Y0 h0),(5,.own 12),(13,.sl .i order),(14,.ii (order.length:Int)),(15,.ii st1.2),(16,.bool (decide (st1.2<(order.length:Int))))] [(12,.arr 4 .bool st1.1)] ?_;refine AW.seq ?_;refine zQ h (fun hb23 h=>?_) (fun hb23 h=>?_)
  ·refine zk ?_;refine AW.seq ?_;refine AW.block ?_;refine zo ?_;obtain ⟨c24,h⟩:=b4.1 h;obtain ⟨c25,h⟩:=b4.1 h;refine zB [(0,.sl Y0 h0),(5,.own 12),(7,.ii (order.getD st1.2.toNat 0)),(13,.sl .i order),(14,.ii (order.length:Int)),(15,.ii st1.2)] [(12,.arr 4 .bool st1.1)] ?_;refine AW.seq ?_;refine zo ?_;refine zS 2 [(0,.sl Y0 h0),(5,.own 12),(7,.ii (order.getD st1.2.toNat 0)),(13,.sl .i order),(14,.ii (order.length:Int)),(15,.ii st1.2),(19,.sl Y0 h0),(20,.ii (order.getD st1.2.toNat 0))] [(12,.arr 4 .bool st1.1)] ?_;obtain ⟨v0,hv26,h⟩:=zw h;refine zC [] [] (a5o h0 (order.getD st1.2.toNat 0) hv26) [(0,.sl Y0 h0),(5,.own 12),(7,.ii (order.getD st1.2.toNat 0)),(13,.sl .i order),(14,.ii (order.length:Int)),(15,.ii st1.2),(21,.bool v0)] [(12,.arr 4 .bool st1.1)] ?_;refine zS 2 [(0,.sl Y0 h0),(5,.own 12),(7,.ii (order.getD st1.2.toNat 0)),(13,.sl .i order),(14,.ii (order.length:Int)),(15,.ii st1.2),(23,.bool (!v0))] [(12,.arr 4 .bool st1.1)] ?_;rcases zI h with ⟨hb27,h⟩|⟨hb27,h⟩
   ·refine zS 4 [(0,.sl Y0 h0),(5,.own 12),(7,.ii (order.getD st1.2.toNat 0)),(13,.sl .i order),(14,.ii (order.length:Int)),(15,.ii st1.2),(23,.bool true),(27,.cv (undef))] [(12,.arr 4 .bool st1.1)] ?_;refine zB [(0,.sl Y0 h0),(5,.own 12),(7,.ii (order.getD st1.2.toNat 0)),(13,.sl .i order),(14,.ii (order.length:Int)),(15,.ii st1.2),(28,.bool true)] [(12,.arr 4 .bool st1.1)] ?_;refine AW.cond (b:=true) rfl (fun _=>?_) (fun hb28=>by cases hb28);refine zo ?_;refine zB [(4,.bool false)] [] ?_;refine zr ?_;refine d5 ?_;refine b9 ?_;obtain rfl:=zj h
    try rw [← hd20 _ rfl] at ho19
    have h:=ho19
    try simp only at h
    refine b9 ?_;refine d5 ?_;refine b9 ?_;obtain rfl:=zj h;exact zR [] [] []
   obtain ⟨c29,h⟩:=b4.1 h;obtain ⟨c30,h⟩:=b4.1 h;refine zB [(0,.sl Y0 h0),(5,.own 12),(7,.ii (order.getD st1.2.toNat 0)),(13,.sl .i order),(14,.ii (order.length:Int)),(15,.ii st1.2),(28,.bool (st1.1.getD (order.getD st1.2.toNat 0).toNat false))] [(12,.arr 4 .bool st1.1)] ?_;refine zQ h (fun hb31 h=>?_) (fun hb31 h=>?_)
   ·refine zo ?_;refine zB [(4,.bool false)] [] ?_;refine zr ?_;refine d5 ?_;refine b9 ?_;obtain rfl:=zj h
    try rw [← hd20 _ rfl] at ho19
    have h:=ho19
    try simp only at h
    refine b9 ?_;refine d5 ?_;refine b9 ?_;obtain rfl:=zj h;exact zR [] [] []
   refine zk ?_;refine AW.ops ?_;obtain ⟨c32,h⟩:=b4.1 h;obtain ⟨c33,h⟩:=b4.1 h;refine zA [(0,.sl Y0 h0),(5,.own 12),(13,.sl .i order),(14,.ii (order.length:Int)),(15,.ii st1.2)] [(12,.arr 4 .bool (st1.1.set (order.getD st1.2.toNat 0).toNat true))] ?_;refine l8 ?_;refine f7 ?_;refine AW.ops ?_;obtain ⟨c34,h⟩:=b4.1 h;refine zA [(0,.sl Y0 h0),(5,.own 12),(13,.sl .i order),(14,.ii (order.length:Int)),(15,.ii (st1.2+1))] [(12,.arr 4 .bool (st1.1.set (order.getD st1.2.toNat 0).toNat true))] ?_;obtain rfl:=zj h;exact ⟨_,rfl,zL [] [] []⟩
  refine AW.exit ?_;refine g4 ?_;obtain rfl:=zj h;rw [← hd20 _ rfl] at ho19;have h:=ho19
  try simp only at h
  refine g4 ?_;refine j5 ?_;refine f7 ?_;have hj:=hk_history_isOrder_k1 _ h;exact AW.weaken (zL [] [] []) hj
theorem a1z (specs:ZS) (c:Int×Int×Int×Int×Int×Int) (s:Int×Int) {r:Int×Int×Int} (h:y9 specs c s=some r):HC Tryz.prog 124 [(1000,.box 145 [.ii s.1,.ii s.2])] [.bp 1000 0,.sl Y3 specs,.agg [.ii c.1,.ii c.2.1,.ii c.2.2.1,.ii c.2.2.2.1,.ii c.2.2.2.2.1,.ii c.2.2.2.2.2]] [(1000,.box 145 [.ii r.2.1,.ii r.2.2])] (.ii r.1):=by
 unfold y9 at h;refine zH Tryz.func124 [.tmp 6] 43 ?_;refine zo ?_;refine zB [(0,.bp 1000 0),(1,.sl Y3 specs),(5,.bp 5 0)] [(5,.box 62 [.ii c.1,.ii c.2.1,.ii c.2.2.1,.ii c.2.2.2.1,.ii c.2.2.2.2.1,.ii c.2.2.2.2.2]),(1000,.box 145 [.ii s.1,.ii s.2])] ?_;refine AW.have1 (fun b1:Int×Int×Int×(List (List Int))×(List (List Int))×Int=>p8 c s b1=some r) (fun b1=>⟨fr [(0,.bp 1000 0),(5,.bp 5 0),(7,.bp 7 0),(8,.ii b1.2.2.2.2.2)],b6 [(5,.box 62 [.ii c.1,.ii b1.1,.ii c.2.2.1,.ii c.2.2.2.1,.ii c.2.2.2.2.1,.ii c.2.2.2.2.2]),(7,.box 24 [.ii b1.2.1,.ii b1.2.2.1,.sl (.sl .i) b1.2.2.2.1,.sl (.sl .i) b1.2.2.2.2.1]),(1000,.box 145 [.ii s.1,.ii s.2])],gt⟩) (fun b1 h=>?_) (fun hk_history_states_answer_n2_k1=>?_)
 ·as_aux_lemma =>
   unfold p8 at h;refine AW.have1 (fun b2:Int×Int×Int=>p6 c b1 b2=some r) (fun b2=>⟨fr [(5,.bp 5 0),(7,.bp 7 0),(8,.ii b1.2.2.2.2.2)],b6 [(5,.box 62 [.ii c.1,.ii b2.1,.ii c.2.2.1,.ii c.2.2.2.1,.ii c.2.2.2.2.1,.ii c.2.2.2.2.2]),(7,.box 24 [.ii b1.2.1,.ii b1.2.2.1,.sl (.sl .i) b1.2.2.2.1,.sl (.sl .i) b1.2.2.2.2.1]),(1000,.box 145 [.ii b2.2.1,.ii b2.2.2])],gt⟩) (fun b2 h=>?_) (fun hk_history_states_answer_n2_k2=>?_)
   ·as_aux_lemma =>
     unfold p6 at h;refine AW.seq ?_;refine AW.draw m7 l7 [] [] (by decide) (o8 (by kernel_rfl)) ?_
     as_aux_lemma =>
      obtain ⟨c2,h⟩:=b4.1 h;obtain ⟨c3,h⟩:=b4.1 h;refine d7 6 (fun K' hK1=>?_)
      try dsimp only [y1,y2,y3,y4]
      simp only [go_sem]
      repeat with_reducible refine zN ?_
      refine hK1 _ ?_
      as_aux_lemma =>
       obtain ⟨c5,h⟩:=b4.1 h;obtain ⟨c6,h⟩:=b4.1 h;refine d7 4 (fun K' hK4=>?_)
       try dsimp only [y1,y2,y3,y4]
       simp only [go_sem]
       repeat with_reducible refine zN ?_
       refine hK4 _ ?_;refine g8 ?_;refine f7 ?_;refine zV [(6,.ii ((b1.2.2.2.2.1.getD b1.2.2.2.2.2.toNat []).getD c.2.2.1.toNat 0))] [(1000,.box 145 [.ii b2.2.1,.ii b2.2.2])] gt ?_
       as_aux_lemma =>
        refine AW.ret ?_;obtain rfl:=zj h;exact zR [] [] []
   refine AW.seq ?_;refine AW.draw m7 l7 [(14,[1000])] [] (by decide) (o8 (by kernel_rfl)) ?_
   as_aux_lemma =>
    refine d7 6 (fun K' hK7=>?_)
    try dsimp only [y1,y2,y3,y4]
    simp only [go_sem]
    repeat with_reducible refine zN ?_
    refine hK7 _ ?_
    as_aux_lemma =>
     obtain ⟨c9,h⟩:=b4.1 h;obtain ⟨c10,h⟩:=b4.1 h;obtain ⟨c11,h⟩:=b4.1 h;obtain ⟨c12,h⟩:=b4.1 h;refine d7 6 (fun K' hK8=>?_)
     try dsimp only [y1,y2,y3,y4]
     simp only [go_sem]
     repeat with_reducible refine zN ?_
     refine hK8 _ ?_
     as_aux_lemma =>
      obtain ⟨c14,h⟩:=b4.1 h;obtain ⟨c15,h⟩:=b4.1 h;refine d7 1 (fun K' hK13=>?_)
      try dsimp only [y1,y2,y3,y4]
      simp only [go_sem]
      repeat with_reducible refine zN ?_
      refine hK13 _ ?_
      as_aux_lemma =>
       rcases Bool.eq_false_or_eq_true (decide (b1.1=0)) with hb16|hb16
       ·rw [if_pos hb16] at h;have hz17:b1.1=0:=by simpa using hb16
        refine d7 2 (fun K' hK18=>?_)
        try dsimp only [y1,y2,y3,y4]
        simp only [go_sem,hb16,hz17]
        repeat with_reducible refine zN ?_
        refine hK18 _ ?_;refine g8 ?_;refine f7 ?_;refine zV [(5,.bp 5 0),(7,.bp 7 0),(8,.ii b1.2.2.2.2.2)] [(5,.box 62 [.ii c.1,.ii 0,.ii c.2.2.1,.ii c.2.2.2.1,.ii c.2.2.2.2.1,.ii c.2.2.2.2.2]),(7,.box 24 [.ii b1.2.1,.ii b1.2.2.1,.sl (.sl .i) b1.2.2.2.1,.sl (.sl .i) b1.2.2.2.2.1]),(1000,.box 145 [.ii ((b1.2.2.2.1.getD b1.2.2.2.2.2.toNat []).getD c.2.2.1.toNat 0),.ii s.2])] gt ?_
        as_aux_lemma =>
         have hj:=hk_history_states_answer_n2_k2 _ h;exact AW.weaken (zL [] [] []) hj
       rw [if_neg (Bool.eq_false_iff.1 hb16)] at h;have hz17:b1.1=1:=by have:=of_decide_eq_false hb16; omega
       refine d7 2 (fun K' hK19=>?_)
       try dsimp only [y1,y2,y3,y4]
       simp only [go_sem,hb16,hz17]
       repeat with_reducible refine zN ?_
       refine hK19 _ ?_;refine g8 ?_;refine f7 ?_;refine zV [(5,.bp 5 0),(7,.bp 7 0),(8,.ii b1.2.2.2.2.2)] [(5,.box 62 [.ii c.1,.ii 1,.ii c.2.2.1,.ii c.2.2.2.1,.ii c.2.2.2.2.1,.ii c.2.2.2.2.2]),(7,.box 24 [.ii b1.2.1,.ii b1.2.2.1,.sl (.sl .i) b1.2.2.2.1,.sl (.sl .i) b1.2.2.2.2.1]),(1000,.box 145 [.ii s.1,.ii ((b1.2.2.2.1.getD b1.2.2.2.2.2.toNat []).getD c.2.2.1.toNat 0)])] gt ?_
       as_aux_lemma =>
        have hj:=hk_history_states_answer_n2_k2 _ h;exact AW.weaken (zL [] [] []) hj
 refine AW.seq ?_;refine AW.draw m7 l7 [(11,[7]),(12,[7])] [(0,[]),(1,[5]),(2,[5]),(3,[]),(4,[]),(5,[1000]),(6,[5]),(7,[5]),(8,[1000,999999]),(9,[1000,999999]),(10,[1000]),(100012,[])] (by decide) (o8 (by kernel_rfl)) ?_
 as_aux_lemma =>
  obtain ⟨c21,h⟩:=b4.1 h;obtain ⟨c22,h⟩:=b4.1 h;refine d7 6 (fun K' hK20=>?_)
  try dsimp only [y1,y2,y3,y4]
  simp only [go_sem]
  repeat with_reducible refine zN ?_
  refine hK20 _ ?_
  as_aux_lemma =>
   obtain ⟨c24,h⟩:=b4.1 h;obtain ⟨c25,h⟩:=b4.1 h;refine d7 3 (fun K' hK23=>?_)
   try dsimp only [y1,y2,y3,y4]
   simp only [go_sem]
   repeat with_reducible refine zN ?_
   refine hK23 _ ?_
   as_aux_lemma =>
    rcases Bool.eq_false_or_eq_true (decide (c.2.1=0)) with hb26|hb26
    ·rw [if_pos hb26] at h;have hz27:c.2.1=0:=by simpa using hb26
     refine d7 5 (fun K' hK28=>?_)
     try dsimp only [y1,y2,y3,y4]
     simp only [go_sem,hb26,hz27]
     repeat with_reducible refine zN ?_
     refine hK28 _ ?_;refine g8 ?_;refine f7 ?_;refine zV [(0,.bp 1000 0),(5,.bp 5 0),(7,.bp 7 0),(8,.ii s.1)] [(5,.box 62 [.ii c.1,.ii 0,.ii c.2.2.1,.ii c.2.2.2.1,.ii c.2.2.2.2.1,.ii c.2.2.2.2.2]),(7,.box 24 [.ii (specs.getD 0 (0,0,[],[])).1,.ii (specs.getD 0 (0,0,[],[])).2.1,.sl (.sl .i) (specs.getD 0 (0,0,[],[])).2.2.1,.sl (.sl .i) (specs.getD 0 (0,0,[],[])).2.2.2]),(1000,.box 145 [.ii s.1,.ii s.2])] gt ?_
     as_aux_lemma =>
      have hj:=hk_history_states_answer_n2_k1 _ h;exact AW.weaken (zL [] [] []) hj
    rw [if_neg (Bool.eq_false_iff.1 hb26)] at h;have hz27:c.2.1=1:=by have:=of_decide_eq_false hb26; omega
    refine d7 5 (fun K' hK29=>?_)
    try dsimp only [y1,y2,y3,y4]
    simp only [go_sem,hb26,hz27]
    repeat with_reducible refine zN ?_
    refine hK29 _ ?_;refine g8 ?_;refine f7 ?_;refine zV [(0,.bp 1000 0),(5,.bp 5 0),(7,.bp 7 0),(8,.ii s.2)] [(5,.box 62 [.ii c.1,.ii 1,.ii c.2.2.1,.ii c.2.2.2.1,.ii c.2.2.2.2.1,.ii c.2.2.2.2.2]),(7,.box 24 [.ii (specs.getD 1 (0,0,[],[])).1,.ii (specs.getD 1 (0,0,[],[])).2.1,.sl (.sl .i) (specs.getD 1 (0,0,[],[])).2.2.1,.sl (.sl .i) (specs.getD 1 (0,0,[],[])).2.2.2]),(1000,.box 145 [.ii s.1,.ii s.2])] gt ?_
    as_aux_lemma =>
     have hj:=hk_history_states_answer_n2_k1 _ h;exact AW.weaken (zL [] [] []) hj
theorem a1R (specs:ZS) (c:Int×Int×Int×Int×Int×Int) (s:Int×Int) {r:Bool×Int×Int} (h:C2 specs c s=some r):HC Tryz.prog 91 [(1000,.box 145 [.ii s.1,.ii s.2])] [.bp 1000 0,.sl Y3 specs,.agg [.ii c.1,.ii c.2.1,.ii c.2.2.1,.ii c.2.2.2.1,.ii c.2.2.2.2.1,.ii c.2.2.2.2.2]] [(1000,.box 145 [.ii r.2.1,.ii r.2.2])] (.bool r.1):=by
 unfold C2 at h;refine zH Tryz.func91 [.tmp 6] 21 ?_;refine zo ?_;refine zB [(0,.bp 1000 0),(1,.sl Y3 specs),(5,.bp 5 0)] [(5,.box 62 [.ii c.1,.ii c.2.1,.ii c.2.2.1,.ii c.2.2.2.1,.ii c.2.2.2.2.1,.ii c.2.2.2.2.2]),(1000,.box 145 [.ii s.1,.ii s.2])] ?_;refine zo ?_;refine zS 3 [(5,.bp 5 0),(8,.bp 1000 0),(9,.sl Y3 specs),(10,.agg [.ii c.1,.ii c.2.1,.ii c.2.2.1,.ii c.2.2.2.1,.ii c.2.2.2.2.1,.ii c.2.2.2.2.2])] [(5,.box 62 [.ii c.1,.ii c.2.1,.ii c.2.2.1,.ii c.2.2.2.1,.ii c.2.2.2.2.1,.ii c.2.2.2.2.2]),(1000,.box 145 [.ii s.1,.ii s.2])] ?_;obtain ⟨v0,hv1,h⟩:=zw h;refine zC [] [(1000,1000)] (a1z specs c s hv1) [(5,.bp 5 0),(11,.ii v0.1)] [(5,.box 62 [.ii c.1,.ii c.2.1,.ii c.2.2.1,.ii c.2.2.2.1,.ii c.2.2.2.2.1,.ii c.2.2.2.2.2]),(1000,.box 145 [.ii v0.2.1,.ii v0.2.2])] ?_;refine zB [(5,.bp 5 0),(7,.ii v0.1)] [(5,.box 62 [.ii c.1,.ii c.2.1,.ii c.2.2.1,.ii c.2.2.2.1,.ii c.2.2.2.2.1,.ii c.2.2.2.2.2]),(1000,.box 145 [.ii v0.2.1,.ii v0.2.2])] ?_;refine zo ?_;refine zS 4 [(5,.bp 5 0),(7,.ii v0.1),(15,.bool (decide (c.2.2.2.2.2=0)))] [(5,.box 62 [.ii c.1,.ii c.2.1,.ii c.2.2.1,.ii c.2.2.2.1,.ii c.2.2.2.2.1,.ii c.2.2.2.2.2]),(1000,.box 145 [.ii v0.2.1,.ii v0.2.2])] ?_;rcases zI h with ⟨hb2,h⟩|⟨hb2,h⟩
 ·refine zS 4 [(15,.bool true),(19,.cv (undef))] [(1000,.box 145 [.ii v0.2.1,.ii v0.2.2])] ?_;refine zB [(6,.bool true)] [(1000,.box 145 [.ii v0.2.1,.ii v0.2.2])] ?_;refine AW.ret ?_;obtain rfl:=zj h;exact zR [] [] []
 refine zS 5 [(20,.bool (decide (v0.1=c.2.2.2.1)))] [(1000,.box 145 [.ii v0.2.1,.ii v0.2.2])] ?_;refine zB [(6,.bool (decide (v0.1=c.2.2.2.1)))] [(1000,.box 145 [.ii v0.2.1,.ii v0.2.2])] ?_;refine AW.ret ?_;obtain rfl:=zj h;exact zR [] [] []
theorem a2r (specs:ZS) (h0:ZH) (order:List Int) {r:Bool} (h:R1 specs h0 order=some r):HC Tryz.prog 56 [] [.sl Y3 specs,.sl Y0 h0,.sl .i order] [] (.bool r):=by
 unfold R1 at h;refine zH Tryz.func56 [.tmp 6] 24 ?_;refine zo ?_;refine zB [(0,.sl Y3 specs),(1,.sl Y0 h0),(2,.sl .i order)] [] ?_;refine zo ?_;refine zB [(0,.sl Y3 specs),(1,.sl Y0 h0),(2,.sl .i order),(7,.bp 7 0)] [(7,.box 145 [.ii 0,.ii 0])] ?_;refine AW.have1 (fun _:Unit=>a0w=some r) (fun _=>⟨fr [],b6 [],gt⟩) (fun _ h=>?_) (fun hk_history_allows_k1=>?_)
 ·as_aux_lemma =>
   unfold a0w at h;refine zo ?_;refine zB [(6,.bool true)] [] ?_;refine AW.ret ?_;obtain rfl:=zj h;exact zR [] [] []
 refine AW.seq ?_;refine zo ?_;refine zB [(0,.sl Y3 specs),(1,.sl Y0 h0),(7,.bp 7 0),(10,.sl .i order),(11,.ii (order.length:Int)),(12,.ii 0)] [(7,.box 145 [.ii 0,.ii 0])] ?_;refine AW.block ?_;obtain ⟨rv5,hw1,ho2⟩:=zw h;refine AW.loopO (H8 specs h0 order) (fun st1=>⟨fr [(0,.sl Y3 specs),(1,.sl Y0 h0),(7,.bp 7 0),(10,.sl .i order),(11,.ii (order.length:Int)),(12,.ii st1.2.2)],b6 [(7,.box 145 [.ii st1.1,.ii st1.2.1])],gt⟩) (0,0,0) hw1 (zL [] [] []) ?_
 as_aux_lemma =>
  intro st1 x4 h hd3;unfold H8 at h;refine zo ?_;refine zB [(0,.sl Y3 specs),(1,.sl Y0 h0),(7,.bp 7 0),(10,.sl .i order),(11,.ii (order.length:Int)),(12,.ii st1.2.2),(13,.bool (decide (st1.2.2<(order.length:Int))))] [(7,.box 145 [.ii st1.1,.ii st1.2.1])] ?_;refine AW.seq ?_;refine zQ h (fun hb6 h=>?_) (fun hb6 h=>?_)
  ·refine zk ?_;refine AW.seq ?_;refine AW.block ?_;refine zo ?_;obtain ⟨c7,h⟩:=b4.1 h;obtain ⟨c8,h⟩:=b4.1 h;refine zB [(0,.sl Y3 specs),(1,.sl Y0 h0),(7,.bp 7 0),(9,.ii (order.getD st1.2.2.toNat 0)),(10,.sl .i order),(11,.ii (order.length:Int)),(12,.ii st1.2.2)] [(7,.box 145 [.ii st1.1,.ii st1.2.1])] ?_;refine zo ?_;obtain ⟨c9,h⟩:=b4.1 h;obtain ⟨c10,h⟩:=b4.1 h;refine zS 5 [(0,.sl Y3 specs),(1,.sl Y0 h0),(7,.bp 7 0),(10,.sl .i order),(11,.ii (order.length:Int)),(12,.ii st1.2.2),(16,.sl Y3 specs),(20,.agg [.ii (h0.getD (order.getD st1.2.2.toNat 0).toNat (0,0,0,0,0,0)).1,.ii (h0.getD (order.getD st1.2.2.toNat 0).toNat (0,0,0,0,0,0)).2.1,.ii (h0.getD (order.getD st1.2.2.toNat 0).toNat (0,0,0,0,0,0)).2.2.1,.ii (h0.getD (order.getD st1.2.2.toNat 0).toNat (0,0,0,0,0,0)).2.2.2.1,.ii (h0.getD (order.getD st1.2.2.toNat 0).toNat (0,0,0,0,0,0)).2.2.2.2.1,.ii (h0.getD (order.getD st1.2.2.toNat 0).toNat (0,0,0,0,0,0)).2.2.2.2.2])] [(7,.box 145 [.ii st1.1,.ii st1.2.1])] ?_;obtain ⟨v0,hv11,h⟩:=zw h;refine zC [] [(1000,7)] (a1R specs (h0.getD (order.getD st1.2.2.toNat 0).toNat (0,0,0,0,0,0)) (st1.1,st1.2.1) hv11) [(0,.sl Y3 specs),(1,.sl Y0 h0),(7,.bp 7 0),(10,.sl .i order),(11,.ii (order.length:Int)),(12,.ii st1.2.2),(21,.bool v0.1)] [(7,.box 145 [.ii v0.2.1,.ii v0.2.2])] ?_;refine zB [(0,.sl Y3 specs),(1,.sl Y0 h0),(7,.bp 7 0),(10,.sl .i order),(11,.ii (order.length:Int)),(12,.ii st1.2.2),(22,.bool (!v0.1))] [(7,.box 145 [.ii v0.2.1,.ii v0.2.2])] ?_;refine zQ h (fun hb12 h=>?_) (fun hb12 h=>?_)
   ·refine zo ?_;refine zB [(6,.bool false)] [] ?_;refine AW.ret ?_;refine d5 ?_;refine b9 ?_;obtain rfl:=zj h
    try rw [← hd3 _ rfl] at ho2
    have h:=ho2
    try simp only at h
    refine b9 ?_;refine d5 ?_;refine b9 ?_;obtain rfl:=zj h;exact zR [] [] []
   refine zm ?_;refine f7 ?_;refine AW.ops ?_;obtain ⟨c13,h⟩:=b4.1 h;refine zA [(0,.sl Y3 specs),(1,.sl Y0 h0),(7,.bp 7 0),(10,.sl .i order),(11,.ii (order.length:Int)),(12,.ii (st1.2.2+1))] [(7,.box 145 [.ii v0.2.1,.ii v0.2.2])] ?_;obtain rfl:=zj h;exact ⟨_,rfl,zL [] [] []⟩
  refine AW.exit ?_;refine g4 ?_;obtain rfl:=zj h
  try rw [← hd3 _ rfl] at ho2
  have h:=ho2
  try simp only at h
  refine g4 ?_;refine j5 ?_;refine f7 ?_;exact AW.weaken (zL [] [] []) (hk_history_allows_k1 () h)
theorem a4R (a0:ZS) (a1:ZH) (a2:List Int) {r:Bool} (h:X1 a0 a1 a2=some r):HC Tryz.prog 120 [(1000,.box 49 [.sl Y3 a0]),(1001,.box 45 [.sl Y0 a1]),(1002,.box 33 [.sl .i a2])] [.bp 1000 0,.bp 1001 0,.bp 1002 0] [(1000,.box 49 [.sl Y3 a0]),(1001,.box 45 [.sl Y0 a1]),(1002,.box 33 [.sl .i a2])] (.bool r):=by
 unfold X1 at h;refine zH Tryz.func120 [.tmp 3] 8 ?_;refine zo ?_;refine zB [(0,.bp 1000 0),(1,.bp 1001 0),(2,.bp 1002 0)] [(1000,.box 49 [.sl Y3 a0]),(1001,.box 45 [.sl Y0 a1]),(1002,.box 33 [.sl .i a2])] ?_;refine zo ?_;refine zS 3 [(4,.sl Y3 a0),(5,.sl Y0 a1),(6,.sl .i a2)] [(1000,.box 49 [.sl Y3 a0]),(1001,.box 45 [.sl Y0 a1]),(1002,.box 33 [.sl .i a2])] ?_;obtain ⟨v0,hv1,h⟩:=zw h;refine zC [] [] (a2r a0 a1 a2 hv1) [(7,.bool v0)] [(1000,.box 49 [.sl Y3 a0]),(1001,.box 45 [.sl Y0 a1]),(1002,.box 33 [.sl .i a2])] ?_;refine zB [(3,.bool v0)] [(1000,.box 49 [.sl Y3 a0]),(1001,.box 45 [.sl Y0 a1]),(1002,.box 33 [.sl .i a2])] ?_;refine AW.ret ?_;obtain rfl:=zj h;exact zR [] [] []
theorem a5n (c0:ZS) (c1:ZH) (c2:List Int) {r:Bool} (h:Z8 c0 c1 c2=some r):HC Tryz.prog 50 [(1000,.box 49 [.sl Y3 c0]),(1001,.box 45 [.sl Y0 c1]),(1002,.box 33 [.sl .i c2])] [.ii 0,.fn (.func 120) [] [.bp 1000 0,.bp 1001 0,.bp 1002 0]] [(1000,.box 49 [.sl Y3 c0]),(1001,.box 45 [.sl Y0 c1]),(1002,.box 33 [.sl .i c2])] (.tup [.bool r,.ii 0]):=by
 unfold Z8 at h;refine zH Tryz.func50 [.tmp 4,.tmp 5] 13 ?_;refine zo ?_;refine zB [(0,.ii 0),(1,.fn (.func 120) [] [.bp 1000 0,.bp 1001 0,.bp 1002 0])] [(1000,.box 49 [.sl Y3 c0]),(1001,.box 45 [.sl Y0 c1]),(1002,.box 33 [.sl .i c2])] ?_;refine AW.seq ?_;refine zo ?_;have hx1:(!decide ((0:Int)=0))=false:=rfl;refine zB [(0,.ii 0),(1,.fn (.func 120) [] [.bp 1000 0,.bp 1001 0,.bp 1002 0]),(8,.bool false)] [(1000,.box 49 [.sl Y3 c0]),(1001,.box 45 [.sl Y0 c1]),(1002,.box 33 [.sl .i c2])] ?_;refine AW.cond (b:=false) rfl (fun hb2=>by cases hb2) (fun _=>?_);refine zk ?_;refine zo ?_;refine zS 1 [(11,.fn (.func 120) [] [.bp 1000 0,.bp 1001 0,.bp 1002 0])] [(1000,.box 49 [.sl Y3 c0]),(1001,.box 45 [.sl Y0 c1]),(1002,.box 33 [.sl .i c2])] ?_;obtain ⟨v0,hv3,h⟩:=zw h;refine zC [] [(1000,1000),(1001,1001),(1002,1002)] (a4R c0 c1 c2 hv3) [(12,.bool v0)] [(1000,.box 49 [.sl Y3 c0]),(1001,.box 45 [.sl Y0 c1]),(1002,.box 33 [.sl .i c2])] ?_;refine zB [(4,.bool v0),(5,.ii 0)] [(1000,.box 49 [.sl Y3 c0]),(1001,.box 45 [.sl Y0 c1]),(1002,.box 33 [.sl .i c2])] ?_;refine AW.ret ?_;obtain rfl:=zj h;exact zR [] [] []
theorem a5m (err:Int) (c0:ZS) (c1:ZH) (c2:List Int) (hnz_err:decide (err=0)=false) {r:Unit} (h:a1o err c0 c1 c2=some r):HC Tryz.prog 50 [(1000,.box 49 [.sl Y3 c0]),(1001,.box 45 [.sl Y0 c1]),(1002,.box 33 [.sl .i c2])] [.ii err,.fn (.func 120) [] [.bp 1000 0,.bp 1001 0,.bp 1002 0]] [(1000,.box 49 [.sl Y3 c0]),(1001,.box 45 [.sl Y0 c1]),(1002,.box 33 [.sl .i c2])] (.tup [.bool false,.ii err]):=by
 unfold a1o at h;refine zH Tryz.func50 [.tmp 4,.tmp 5] 13 ?_;refine zo ?_;refine zB [(0,.ii err),(1,.fn (.func 120) [] [.bp 1000 0,.bp 1001 0,.bp 1002 0])] [(1000,.box 49 [.sl Y3 c0]),(1001,.box 45 [.sl Y0 c1]),(1002,.box 33 [.sl .i c2])] ?_;refine AW.seq ?_;refine zo ?_;refine zB [(0,.ii err),(1,.fn (.func 120) [] [.bp 1000 0,.bp 1001 0,.bp 1002 0]),(8,.bool true)] [(1000,.box 49 [.sl Y3 c0]),(1001,.box 45 [.sl Y0 c1]),(1002,.box 33 [.sl .i c2])] ?_;refine AW.cond (b:=true) rfl (fun _=>?_) (fun hb1=>by cases hb1);refine zo ?_;refine zB [(0,.ii err),(6,.bool false)] [(1000,.box 49 [.sl Y3 c0]),(1001,.box 45 [.sl Y0 c1]),(1002,.box 33 [.sl .i c2])] ?_;refine zo ?_;refine zB [(4,.bool false),(5,.ii err)] [(1000,.box 49 [.sl Y3 c0]),(1001,.box 45 [.sl Y0 c1]),(1002,.box 33 [.sl .i c2])] ?_;refine zr ?_;obtain rfl:=zj h;exact zR [] [] []
theorem a5X (specs:ZS) (h0:ZH) (order:List Int) {r:Bool×Int} (h:V1 specs h0 order=some r):HC Tryz.prog 84 [] [.sl Y3 specs,.sl Y0 h0,.sl .i order] [] (.tup [.bool r.1,.ii r.2]):=by
 unfold V1 at h;refine zH Tryz.func84 [.tmp 6,.tmp 7] 25 ?_;refine zo ?_;refine zB [(3,.bp 3 0),(4,.bp 4 0),(5,.bp 5 0)] [(3,.box 49 [.sl Y3 specs]),(4,.box 45 [.sl Y0 h0]),(5,.box 33 [.sl .i order])] ?_;refine zo ?_;refine zS 2 [(3,.bp 3 0),(4,.bp 4 0),(5,.bp 5 0),(9,.sl Y3 specs),(10,.sl Y0 h0)] [(3,.box 49 [.sl Y3 specs]),(4,.box 45 [.sl Y0 h0]),(5,.box 33 [.sl .i order])] ?_;obtain ⟨v0,hv1,h⟩:=zw h;refine zC [] [] (X4 specs h0 hv1) [(3,.bp 3 0),(4,.bp 4 0),(5,.bp 5 0),(11,.ii v0)] [(3,.box 49 [.sl Y3 specs]),(4,.box 45 [.sl Y0 h0]),(5,.box 33 [.sl .i order])] ?_;refine zB [(3,.bp 3 0),(4,.bp 4 0),(5,.bp 5 0),(8,.ii v0)] [(3,.box 49 [.sl Y3 specs]),(4,.box 45 [.sl Y0 h0]),(5,.box 33 [.sl .i order])] ?_;refine AW.have1 (fun b1:Int=>H9 specs h0 order b1=some r) (fun b1=>⟨fr [(3,.bp 3 0),(4,.bp 4 0),(5,.bp 5 0),(8,.ii b1)],b6 [(3,.box 49 [.sl Y3 specs]),(4,.box 45 [.sl Y0 h0]),(5,.box 33 [.sl .i order])],gt⟩) (fun b1 h=>?_) (fun hk_history_Allows_k1=>?_)
 ·as_aux_lemma =>
   unfold H9 at h;refine zo ?_;refine zS 2 [(20,.ii b1),(21,.fn (.func 120) [] [.bp 3 0,.bp 4 0,.bp 5 0])] [(3,.box 49 [.sl Y3 specs]),(4,.box 45 [.sl Y0 h0]),(5,.box 33 [.sl .i order])] ?_;rcases Bool.eq_false_or_eq_true (decide (b1=0)) with hb2|hb2
   ·rw [if_pos hb2] at h;have hz3:b1=0:=by simpa using hb2
    refine zT [(20,.ii 0),(21,.fn (.func 120) [] [.bp 3 0,.bp 4 0,.bp 5 0])] [(3,.box 49 [.sl Y3 specs]),(4,.box 45 [.sl Y0 h0]),(5,.box 33 [.sl .i order])] gt ?_;obtain ⟨v0_3,hv4,h⟩:=zw h;refine zC [] [(1000,3),(1001,4),(1002,5)] (a5n specs h0 order hv4) [(22,.tup [.bool v0_3,.ii 0])] [] ?_;refine zB [(6,.bool v0_3),(7,.ii 0)] [] ?_;refine AW.ret ?_;obtain rfl:=zj h;exact zR [] [] []
   rw [if_neg (Bool.eq_false_iff.1 hb2)] at h;refine zT [(20,.ii b1),(21,.fn (.func 120) [] [.bp 3 0,.bp 4 0,.bp 5 0])] [(3,.box 49 [.sl Y3 specs]),(4,.box 45 [.sl Y0 h0]),(5,.box 33 [.sl .i order])] gt ?_;obtain ⟨v0_4,hv5,h⟩:=zw h;refine zC [] [(1000,3),(1001,4),(1002,5)] (a5m b1 specs h0 order hb2 hv5) [(22,.tup [.bool false,.ii b1])] [] ?_;refine zB [(6,.bool false),(7,.ii b1)] [] ?_;refine AW.ret ?_;obtain rfl:=zj h;exact zR [] [] []
 refine AW.seq ?_;refine zo ?_;refine zS 3 [(3,.bp 3 0),(4,.bp 4 0),(5,.bp 5 0),(8,.ii v0),(14,.bool (decide (v0=0)))] [(3,.box 49 [.sl Y3 specs]),(4,.box 45 [.sl Y0 h0]),(5,.box 33 [.sl .i order])] ?_;rcases zI h with ⟨hb6,h⟩|⟨hb6,h⟩
 ·refine zS 2 [(3,.bp 3 0),(4,.bp 4 0),(5,.bp 5 0),(8,.ii v0),(14,.bool true),(15,.sl Y0 h0),(16,.sl .i order)] [(3,.box 49 [.sl Y3 specs]),(4,.box 45 [.sl Y0 h0]),(5,.box 33 [.sl .i order])] ?_;obtain ⟨v0_2,hv7,h⟩:=zw h;refine zG [] [] (a1S h0 order hv7) [(3,.bp 3 0),(4,.bp 4 0),(5,.bp 5 0),(8,.ii v0),(14,.bool true),(17,.bool v0_2)] [(3,.box 49 [.sl Y3 specs]),(4,.box 45 [.sl Y0 h0]),(5,.box 33 [.sl .i order])] ?_;refine zB [(3,.bp 3 0),(4,.bp 4 0),(5,.bp 5 0),(8,.ii v0),(19,.bool (!v0_2))] [(3,.box 49 [.sl Y3 specs]),(4,.box 45 [.sl Y0 h0]),(5,.box 33 [.sl .i order])] ?_;refine zQ h (fun hb8 h=>?_) (fun hb8 h=>?_)
  ·refine AW.ops ?_;refine zB [(3,.bp 3 0),(4,.bp 4 0),(5,.bp 5 0),(8,.ii 2)] [(3,.box 49 [.sl Y3 specs]),(4,.box 45 [.sl Y0 h0]),(5,.box 33 [.sl .i order])] ?_;have hj:=hk_history_Allows_k1 _ h;exact AW.weaken (zL [] [] []) hj
  refine zk ?_;have hj:=hk_history_Allows_k1 _ h;exact AW.weaken (zL [] [] []) hj
 refine zS 4 [(3,.bp 3 0),(4,.bp 4 0),(5,.bp 5 0),(8,.ii v0),(14,.bool false),(18,.cv (undef))] [(3,.box 49 [.sl Y3 specs]),(4,.box 45 [.sl Y0 h0]),(5,.box 33 [.sl .i order])] ?_;refine zB [(3,.bp 3 0),(4,.bp 4 0),(5,.bp 5 0),(8,.ii v0),(19,.bool false)] [(3,.box 49 [.sl Y3 specs]),(4,.box 45 [.sl Y0 h0]),(5,.box 33 [.sl .i order])] ?_;refine AW.cond (b:=false) rfl (fun hb9=>by cases hb9) (fun _=>?_);refine zk ?_;have hj:=hk_history_Allows_k1 _ h;exact AW.weaken (zL [] [] []) hj
theorem a3z (r0:((List (List (Int×Int×Int×Int)))×(List (List Int)))×(List Int)×(El T72)×(Int×Int×Int)×(El T77)×(El T78)×Int) (s:Int×Int×(List (List Int))×(List (List Int))) (b8:List Int) {r:Bool} (h:I5 r0 s b8=some r):HC Tryz.prog 47 [] [.agg (.sl (.sl Y4) r0.1.1::(.sl (.sl .i) r0.1.2::(.sl .i r0.2.1::(b3 T72 r0.2.2.1++(.ii r0.2.2.2.1.1::(.ii r0.2.2.2.1.2.1::(.ii r0.2.2.2.1.2.2::(b3 T77 r0.2.2.2.2.1++(b3 T78 r0.2.2.2.2.2.1++(.ii r0.2.2.2.2.2.2::[])))))))))),.agg [.ii s.1,.ii s.2.1,.sl (.sl .i) s.2.2.1,.sl (.sl .i) s.2.2.2],.sl .i b8] [] (.bool r):=by
 unfold I5 at h;refine zH Tryz.func47 [.tmp 6] 29 ?_;refine zo ?_;refine zB [(2,.sl .i b8),(3,.bp 3 0),(4,.bp 4 0)] [(3,.box 80 (.sl (.sl Y4) r0.1.1::(.sl (.sl .i) r0.1.2::(.sl .i r0.2.1::(b3 T72 r0.2.2.1++(.ii r0.2.2.2.1.1::(.ii r0.2.2.2.1.2.1::(.ii r0.2.2.2.1.2.2::(b3 T77 r0.2.2.2.2.1++(b3 T78 r0.2.2.2.2.2.1++(.ii r0.2.2.2.2.2.2::[]))))))))))),(4,.box 24 [.ii s.1,.ii s.2.1,.sl (.sl .i) s.2.2.1,.sl (.sl .i) s.2.2.2])] ?_;refine zo ?_;refine zS 2 [(3,.bp 3 0),(4,.bp 4 0),(12,.agg (.sl (.sl Y4) r0.1.1::(.sl (.sl .i) r0.1.2::(.sl .i r0.2.1::(b3 T72 r0.2.2.1++(.ii r0.2.2.2.1.1::(.ii r0.2.2.2.1.2.1::(.ii r0.2.2.2.1.2.2::(b3 T77 r0.2.2.2.2.1++(b3 T78 r0.2.2.2.2.2.1++(.ii r0.2.2.2.2.2.2::[]))))))))))),(13,.sl .i b8)] [(3,.box 80 (.sl (.sl Y4) r0.1.1::(.sl (.sl .i) r0.1.2::(.sl .i r0.2.1::(b3 T72 r0.2.2.1++(.ii r0.2.2.2.1.1::(.ii r0.2.2.2.1.2.1::(.ii r0.2.2.2.1.2.2::(b3 T77 r0.2.2.2.2.1++(b3 T78 r0.2.2.2.2.2.1++(.ii r0.2.2.2.2.2.2::[]))))))))))),(4,.box 24 [.ii s.1,.ii s.2.1,.sl (.sl .i) s.2.2.1,.sl (.sl .i) s.2.2.2])] ?_;obtain ⟨v0,hv1,h⟩:=zw h;refine zC [] [] (a1T r0 b8 hv1) [(3,.bp 3 0),(4,.bp 4 0),(14,.tup [.own 24000,.bool v0.2])] [(3,.box 80 (.sl (.sl Y4) r0.1.1::(.sl (.sl .i) r0.1.2::(.sl .i r0.2.1::(b3 T72 r0.2.2.1++(.ii r0.2.2.2.1.1::(.ii r0.2.2.2.1.2.1::(.ii r0.2.2.2.1.2.2::(b3 T77 r0.2.2.2.2.1++(b3 T78 r0.2.2.2.2.2.1++(.ii r0.2.2.2.2.2.2::[]))))))))))),(4,.box 24 [.ii s.1,.ii s.2.1,.sl (.sl .i) s.2.2.1,.sl (.sl .i) s.2.2.2]),(24000,.arr 3 .i v0.1)] ?_;refine zB [(3,.bp 3 0),(4,.bp 4 0),(7,.own 24000),(8,.bool v0.2)] [(3,.box 80 (.sl (.sl Y4) r0.1.1::(.sl (.sl .i) r0.1.2::(.sl .i r0.2.1::(b3 T72 r0.2.2.1++(.ii r0.2.2.2.1.1::(.ii r0.2.2.2.1.2.1::(.ii r0.2.2.2.1.2.2::(b3 T77 r0.2.2.2.2.1++(b3 T78 r0.2.2.2.2.2.1++(.ii r0.2.2.2.2.2.2::[]))))))))))),(4,.box 24 [.ii s.1,.ii s.2.1,.sl (.sl .i) s.2.2.1,.sl (.sl .i) s.2.2.2]),(24000,.arr 3 .i v0.1)] ?_;refine AW.seq ?_;refine zo ?_;refine zB [(3,.bp 3 0),(4,.bp 4 0),(7,.own 24000),(18,.bool (!v0.2))] [(3,.box 80 (.sl (.sl Y4) r0.1.1::(.sl (.sl .i) r0.1.2::(.sl .i r0.2.1::(b3 T72 r0.2.2.1++(.ii r0.2.2.2.1.1::(.ii r0.2.2.2.1.2.1::(.ii r0.2.2.2.1.2.2::(b3 T77 r0.2.2.2.2.1++(b3 T78 r0.2.2.2.2.2.1++(.ii r0.2.2.2.2.2.2::[]))))))))))),(4,.box 24 [.ii s.1,.ii s.2.1,.sl (.sl .i) s.2.2.1,.sl (.sl .i) s.2.2.2]),(24000,.arr 3 .i v0.1)] ?_;refine zQ h (fun hb2 h=>?_) (fun hb2 h=>?_)
 ·refine zo ?_;refine zB [(6,.bool false)] [] ?_;refine zr ?_;obtain rfl:=zj h;exact zR [] [] []
 refine zk ?_;refine AW.seq ?_;refine AW.draw m7 l7 [(1,[21]),(3,[33000])] [(0,[4]),(1,[21]),(2,[3]),(3,[33000]),(4,[24000])] (by decide) (o8 (by kernel_rfl)) ?_
 as_aux_lemma =>
  refine d7 3 (fun K' hK3=>?_)
  try dsimp only [y1,y2,y3,y4]
  simp only [go_sem,hb2]
  repeat with_reducible refine zN ?_
  refine hK3 _ ?_
  as_aux_lemma =>
   obtain ⟨v0_2,hv4,h⟩:=zw h;refine I6.call (by first|trivial|rfl) rfl rfl rfl (fun _ h=>h) [] [] (X5 r0 hv4) rfl (by (simp only [go_sem,hb2])<;>(with_reducible and_intros)<;>first|assumption|rfl|omega|(unfold maxLen; omega)) (by (simp only [go_sem,hb2])<;>(with_reducible and_intros)<;>first|assumption|rfl|omega|(unfold maxLen; omega)) rfl ?_;refine d7 1 (fun K' hK5=>?_)
   try dsimp only [y1,y2,y3,y4]
   simp only [go_sem,hb2]
   repeat with_reducible refine zN ?_
   refine hK5 _ ?_
   as_aux_lemma =>
    obtain ⟨v0_3,hv6,h⟩:=zw h;refine I6.call (by first|trivial|rfl) rfl rfl rfl (fun _ h=>h) [21,24000,33000] [] (a5X [s] v0_2 v0.1 hv6) rfl (by (simp only [go_sem,hb2])<;>(with_reducible and_intros)<;>first|assumption|rfl|omega|(unfold maxLen; omega)) (by (simp only [go_sem,hb2])<;>(with_reducible and_intros)<;>first|assumption|rfl|omega|(unfold maxLen; omega)) rfl ?_;refine d7 5 (fun K' hK7=>?_)
    try dsimp only [y1,y2,y3,y4]
    simp only [go_sem,hb2]
    repeat with_reducible refine zN ?_
    refine hK7 _ ?_;refine g8 ?_;refine f7 ?_;refine zV [(9,.bool v0_3.1)] [] gt ?_
    as_aux_lemma =>
     refine zo ?_;refine zB [(6,.bool v0_3.1)] [] ?_;refine AW.ret ?_;obtain rfl:=zj h;exact zR [] [] []
theorem a5j (s:List Int) {r:Unit} (h:Z6 s=some r):HC Tryz.prog 108 [] [.sl .i s] [(2000,.box 33 [.sl .i s])] (.fn (.func 149) [] [.bp 2000 0]):=by
 unfold Z6 at h;refine zH Tryz.func108 [.tmp 2] 4 ?_;refine zo ?_;refine zB [(1,.bp 1 0)] [(1,.box 33 [.sl .i s])] ?_;refine zo ?_;refine zB [(2,.fn (.func 149) [] [.bp 1 0])] [(1,.box 33 [.sl .i s])] ?_;refine AW.ret ?_;obtain rfl:=zj h;exact zR [] [] [(2000,1)]
end Go.Proofs.YtanaeefeggokkaaGreat
