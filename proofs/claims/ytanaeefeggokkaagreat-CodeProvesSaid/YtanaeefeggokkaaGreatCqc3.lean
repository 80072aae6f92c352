import Derived.Test.YtanaeefeggokkaaGreatCkp
import Derived.Test.YtanaeefeggokkaaGreatShk
import Derived.Test.YtanaeefeggokkaaGreatAvd
namespace Go.Proofs.YtanaeefeggokkaaGreat
open Go.RowKit
set_option linter.unusedSimpArgs false
set_option linter.unusedVariables false
set_option linter.constructorNameAsVariable false
set_option maxRecDepth 100000
set_option maxHeartbeats 40000000
theorem a5Y (w:Nat) (l:Int×Int×Int×Int) (w_2:List (List (Int×Int×Int×Int))) (w_3:List (List Int)) (w_4:(El T72)) (w_5:Int) (w_6:Int) (w_7:Int) (w_8:(El T77)) (w_9:(El T78)) (w_10:Int) (w_11:List Int) {r:Int×Int×Int×(El T77)} (h:V5 w l w_2 w_3 w_4 w_5 w_6 w_7 w_8 w_9 w_10 w_11=some r):HC Tryz.prog 150 [(1000,.box 80 (.sl (.sl Y4) w_2::(.sl (.sl .i) w_3::(.own 1001::(b3 T72 w_4++(.ii w_5::(.ii w_6::(.ii w_7::(b3 T77 w_8++(b3 T78 w_9++(.ii w_10::[]))))))))))),(1001,.arr 3 .i w_11)] [.bp 1000 (30+w),.agg [.ii l.1,.ii l.2.1,.ii l.2.2.1,.ii l.2.2.2],.bp 1000 27] [(1000,.box 80 (.sl (.sl Y4) w_2::(.sl (.sl .i) w_3::(.own 1001::(b3 T72 w_4++(.ii r.1::(.ii r.2.1::(.ii r.2.2.1::(b3 T77 r.2.2.2++(b3 T78 w_9++(.ii w_10::[]))))))))))),(1001,.arr 3 .i w_11)] (.tup []):=by
 unfold V5 at h;refine zH Tryz.func150 [] 114 ?_;refine zo ?_;refine zB [(0,.bp 1000 (30+w)),(2,.bp 1000 27),(4,.bp 4 0)] [(4,.box 60 [.ii l.1,.ii l.2.1,.ii l.2.2.1,.ii l.2.2.2]),(1000,.box 80 (.sl (.sl Y4) w_2::(.sl (.sl .i) w_3::(.own 1001::(b3 T72 w_4++(.ii w_5::(.ii w_6::(.ii w_7::(b3 T77 w_8++(b3 T78 w_9++(.ii w_10::[]))))))))))),(1001,.arr 3 .i w_11)] ?_;refine zo ?_;refine zB [(0,.bp 1000 (30+w)),(2,.bp 1000 27),(4,.bp 4 0),(6,.bp 1000 ((30+w)+4))] [(4,.box 60 [.ii l.1,.ii l.2.1,.ii l.2.2.1,.ii l.2.2.2]),(1000,.box 80 (.sl (.sl Y4) w_2::(.sl (.sl .i) w_3::(.own 1001::(b3 T72 w_4++(.ii w_5::(.ii w_6::(.ii w_7::(b3 T77 w_8++(b3 T78 w_9++(.ii w_10::[]))))))))))),(1001,.arr 3 .i w_11)] ?_;refine zo ?_;refine zB [(0,.bp 1000 (30+w)),(2,.bp 1000 27),(4,.bp 4 0),(6,.bp 1000 ((30+w)+4)),(11,.ii l.1)] [(4,.box 60 [.ii l.1,.ii l.2.1,.ii l.2.2.1,.ii l.2.2.2]),(1000,.box 80 (.sl (.sl Y4) w_2::(.sl (.sl .i) w_3::(.own 1001::(b3 T72 w_4++(.ii w_5::(.ii w_6::(.ii w_7::(b3 T77 w_8++(b3 T78 w_9++(.ii w_10::[]))))))))))),(1001,.arr 3 .i w_11)] ?_;refine AW.block ?_;refine zo ?_;refine zB [(0,.bp 1000 (30+w)),(2,.bp 1000 27),(4,.bp 4 0),(6,.bp 1000 ((30+w)+4)),(11,.ii l.1),(12,.bool (decide (l.1=1)))] [(4,.box 60 [.ii l.1,.ii l.2.1,.ii l.2.2.1,.ii l.2.2.2]),(1000,.box 80 (.sl (.sl Y4) w_2::(.sl (.sl .i) w_3::(.own 1001::(b3 T72 w_4++(.ii w_5::(.ii w_6::(.ii w_7::(b3 T77 w_8++(b3 T78 w_9++(.ii w_10::[]))))))))))),(1001,.arr 3 .i w_11)] ?_;refine zQ h (fun hb1 h=>?_) (fun hb1 h=>?_)
 ·refine AW.draw m7 l7 [(11,[1000])] [] (by decide) (o8 (by kernel_rfl)) ?_
  as_aux_lemma =>
   refine d7 6 (fun K' hK2=>?_)
   try dsimp only [y1,y2,y3,y4]
   simp only [go_sem,hb1]
   repeat with_reducible refine zN ?_
   refine hK2 _ ?_
   as_aux_lemma =>
    obtain ⟨c4,h⟩:=b4.1 h;obtain ⟨c5,h⟩:=b4.1 h;refine d7 1 (fun K' hK3=>?_)
    try dsimp only [y1,y2,y3,y4]
    simp only [go_sem,hb1]
    repeat with_reducible refine zN ?_
    refine hK3 _ ?_
    as_aux_lemma =>
     rcases Bool.eq_false_or_eq_true (decide (l.2.2.1=0)) with hb6|hb6
     ·rw [if_pos hb6] at h;have hz7:l.2.2.1=0:=by simpa using hb6
      obtain ⟨c9,h⟩:=b4.1 h;obtain ⟨c10,h⟩:=b4.1 h;obtain ⟨c11,h⟩:=b4.1 h;have hx12:((w+4)+l.2.1.toNat*1)<16:=n8 c11;refine d7 5 (fun K' hK8=>?_)
      try dsimp only [y1,y2,y3,y4]
      simp only [go_sem,hb1,hb6,hz7,c11]
      repeat with_reducible refine zN ?_
      refine hK8 _ ?_;refine g8 ?_;refine l8 ?_;obtain rfl:=zj h;exact zR [] [] []
     rw [if_neg (Bool.eq_false_iff.1 hb6)] at h;rcases Bool.eq_false_or_eq_true (decide (l.2.2.1=1)) with hb13|hb13
     ·rw [if_pos hb13] at h;have hz14:l.2.2.1=1:=by simpa using hb13
      obtain ⟨c16,h⟩:=b4.1 h;obtain ⟨c17,h⟩:=b4.1 h;obtain ⟨c18,h⟩:=b4.1 h;have hx19:((w+4)+l.2.1.toNat*1)<16:=n8 c18;refine d7 5 (fun K' hK15=>?_)
      try dsimp only [y1,y2,y3,y4]
      simp only [go_sem,hb1,hb6,hb13,hz14,c18]
      repeat with_reducible refine zN ?_
      refine hK15 _ ?_;refine g8 ?_;refine l8 ?_;obtain rfl:=zj h;exact zR [] [] []
     rw [if_neg (Bool.eq_false_iff.1 hb13)] at h;have hz14:l.2.2.1=2:=by have:=of_decide_eq_false hb6; have:=of_decide_eq_false hb13; omega
     obtain ⟨c21,h⟩:=b4.1 h;obtain ⟨c22,h⟩:=b4.1 h;obtain ⟨c23,h⟩:=b4.1 h;have hx24:((w+4)+l.2.1.toNat*1)<16:=n8 c23;refine d7 5 (fun K' hK20=>?_)
     try dsimp only [y1,y2,y3,y4]
     simp only [go_sem,hb1,hb6,hb13,hz14,c23]
     repeat with_reducible refine zN ?_
     refine hK20 _ ?_;refine g8 ?_;refine l8 ?_;obtain rfl:=zj h;exact zR [] [] []
 refine zo ?_;refine zB [(0,.bp 1000 (30+w)),(2,.bp 1000 27),(4,.bp 4 0),(6,.bp 1000 ((30+w)+4)),(11,.ii l.1),(25,.bool (decide (l.1=2)))] [(4,.box 60 [.ii l.1,.ii l.2.1,.ii l.2.2.1,.ii l.2.2.2]),(1000,.box 80 (.sl (.sl Y4) w_2::(.sl (.sl .i) w_3::(.own 1001::(b3 T72 w_4++(.ii w_5::(.ii w_6::(.ii w_7::(b3 T77 w_8++(b3 T78 w_9++(.ii w_10::[]))))))))))),(1001,.arr 3 .i w_11)] ?_;refine zQ h (fun hb25 h=>?_) (fun hb25 h=>?_)
 ·refine AW.draw m7 l7 [(11,[1000])] [] (by decide) (o8 (by kernel_rfl)) ?_
  as_aux_lemma =>
   refine d7 6 (fun K' hK26=>?_)
   try dsimp only [y1,y2,y3,y4]
   simp only [go_sem,hb1,hb25]
   repeat with_reducible refine zN ?_
   refine hK26 _ ?_
   as_aux_lemma =>
    obtain ⟨c28,h⟩:=b4.1 h;obtain ⟨c29,h⟩:=b4.1 h;obtain ⟨c30,h⟩:=b4.1 h;have hx31:((w+4)+l.2.2.1.toNat*1)<16:=n8 c30;obtain ⟨c32,h⟩:=b4.1 h;obtain ⟨c33,h⟩:=b4.1 h;refine d7 4 (fun K' hK27=>?_)
    try dsimp only [y1,y2,y3,y4]
    simp only [go_sem,hb1,hb25,c30]
    repeat with_reducible refine zN ?_
    refine hK27 _ ?_
    as_aux_lemma =>
     rcases Bool.eq_false_or_eq_true (decide (l.2.1=0)) with hb34|hb34
     ·rw [if_pos hb34] at h;have hz35:l.2.1=0:=by simpa using hb34
      refine d7 2 (fun K' hK36=>?_)
      try dsimp only [y1,y2,y3,y4]
      simp only [go_sem,hb1,hb25,c30,hb34,hz35]
      repeat with_reducible refine zN ?_
      refine hK36 _ ?_;refine g8 ?_;refine l8 ?_;obtain rfl:=zj h;exact zR [] [] []
     rw [if_neg (Bool.eq_false_iff.1 hb34)] at h;rcases Bool.eq_false_or_eq_true (decide (l.2.1=1)) with hb37|hb37
     ·rw [if_pos hb37] at h;have hz38:l.2.1=1:=by simpa using hb37
      refine d7 2 (fun K' hK39=>?_)
      try dsimp only [y1,y2,y3,y4]
      simp only [go_sem,hb1,hb25,c30,hb34,hb37,hz38]
      repeat with_reducible refine zN ?_
      refine hK39 _ ?_;refine g8 ?_;refine l8 ?_;obtain rfl:=zj h;exact zR [] [] []
     rw [if_neg (Bool.eq_false_iff.1 hb37)] at h;have hz38:l.2.1=2:=by have:=of_decide_eq_false hb34; have:=of_decide_eq_false hb37; omega
     refine d7 2 (fun K' hK40=>?_)
     try dsimp only [y1,y2,y3,y4]
     simp only [go_sem,hb1,hb25,c30,hb34,hb37,hz38]
     repeat with_reducible refine zN ?_
     refine hK40 _ ?_;refine g8 ?_;refine l8 ?_;obtain rfl:=zj h;exact zR [] [] []
 refine zo ?_;refine zB [(0,.bp 1000 (30+w)),(2,.bp 1000 27),(4,.bp 4 0),(6,.bp 1000 ((30+w)+4)),(11,.ii l.1),(38,.bool (decide (l.1=3)))] [(4,.box 60 [.ii l.1,.ii l.2.1,.ii l.2.2.1,.ii l.2.2.2]),(1000,.box 80 (.sl (.sl Y4) w_2::(.sl (.sl .i) w_3::(.own 1001::(b3 T72 w_4++(.ii w_5::(.ii w_6::(.ii w_7::(b3 T77 w_8++(b3 T78 w_9++(.ii w_10::[]))))))))))),(1001,.arr 3 .i w_11)] ?_;refine zQ h (fun hb41 h=>?_) (fun hb41 h=>?_)
 ·refine AW.seq ?_;refine AW.draw m7 l7 [] [] (by decide) (o8 (by kernel_rfl)) ?_
  as_aux_lemma =>
   obtain ⟨c43,h⟩:=b4.1 h;obtain ⟨c44,h⟩:=b4.1 h;refine d7 4 (fun K' hK42=>?_)
   try dsimp only [y1,y2,y3,y4]
   simp only [go_sem,hb1,hb25,hb41]
   repeat with_reducible refine zN ?_
   refine hK42 _ ?_
   as_aux_lemma =>
    rcases Bool.eq_false_or_eq_true (decide (l.2.1=0)) with hb45|hb45
    ·rw [if_pos hb45] at h;have hz46:l.2.1=0:=by simpa using hb45
     refine d7 6 (fun K' hK47=>?_)
     try dsimp only [y1,y2,y3,y4]
     simp only [go_sem,hb1,hb25,hb41,hb45,hz46]
     repeat with_reducible refine zN ?_
     refine hK47 _ ?_
     as_aux_lemma =>
      obtain ⟨c49,h⟩:=b4.1 h;obtain ⟨c50,h⟩:=b4.1 h;obtain ⟨c51,h⟩:=b4.1 h;have hx52:((w+4)+l.2.2.1.toNat*1)<16:=n8 c51;refine d7 3 (fun K' hK48=>?_)
      try dsimp only [y1,y2,y3,y4]
      simp only [go_sem,hb1,hb25,hb41,hb45,hz46,c51]
      repeat with_reducible refine zN ?_
      refine hK48 _ ?_;refine g8 ?_;refine f7 ?_;refine zV [(2,.bp 1000 27),(4,.bp 4 0),(6,.bp 1000 ((30+w)+4)),(52,.bool (decide (w_5=(b7 T77 w_8 ((w+4)+l.2.2.1.toNat*1)))))] [(4,.box 60 [.ii l.1,.ii 0,.ii l.2.2.1,.ii l.2.2.2]),(1000,.box 80 (.sl (.sl Y4) w_2::(.sl (.sl .i) w_3::(.own 1001::(b3 T72 w_4++(.ii w_5::(.ii w_6::(.ii w_7::(b3 T77 w_8++(b3 T78 w_9++(.ii w_10::[]))))))))))),(1001,.arr 3 .i w_11)] gt ?_
      as_aux_lemma =>
       refine zQ h (fun hb53 h=>?_) (fun hb53 h=>?_)
       ·refine AW.draw m7 l7 [(12,[1000]),(15,[1000])] [(3,[1000]),(13,[1000,1001,999999]),(100012,[]),(100015,[])] (by decide) (o8 (by kernel_rfl)) ?_
        as_aux_lemma =>
         refine d7 6 (fun K' hK54=>?_)
         try dsimp only [y1,y2,y3,y4]
         simp only [go_sem,hb1,hb25,hb41,hb45,hz46,c51,hb53]
         repeat with_reducible refine zN ?_
         refine hK54 _ ?_
         as_aux_lemma =>
          obtain ⟨c56,h⟩:=b4.1 h;obtain ⟨c57,h⟩:=b4.1 h;obtain ⟨c58,h⟩:=b4.1 h;have hx59:((w+4)+l.2.2.2.toNat*1)<16:=n8 c58;refine d7 6 (fun K' hK55=>?_)
          try dsimp only [y1,y2,y3,y4]
          simp only [go_sem,hb1,hb25,hb41,hb45,hz46,c51,hb53,c58]
          repeat with_reducible refine zN ?_
          refine hK55 _ ?_
          as_aux_lemma =>
           obtain ⟨c61,h⟩:=b4.1 h;have hx62:((w+4)+3)<16:=n8 c61;refine d7 4 (fun K' hK60=>?_)
           try dsimp only [y1,y2,y3,y4]
           simp only [go_sem,hb1,hb25,hb41,hb45,hz46,c51,hb53,c58,c61]
           repeat with_reducible refine zN ?_
           refine hK60 _ ?_;refine g8 ?_;refine l8 ?_;obtain rfl:=zj h;exact zR [] [] []
       refine AW.ops ?_;obtain ⟨c63,h⟩:=b4.1 h;have hx64:((w+4)+3)<16:=n8 c63;refine zA [] [(1000,.box 80 (.sl (.sl Y4) w_2::(.sl (.sl .i) w_3::(.own 1001::(b3 T72 w_4++(.ii w_5::(.ii w_6::(.ii w_7::(b3 T77 (f8 T77 w_8 ((w+4)+3) 0)++(b3 T78 w_9++(.ii w_10::[]))))))))))),(1001,.arr 3 .i w_11)] ?_ (h:=by (simp only [go_sem,hb1,hb25,hb41,hb45,hz46,c51,hb53,c63])<;>(with_reducible and_intros)<;>first|assumption|rfl|omega|(unfold maxLen; omega));refine l8 ?_;obtain rfl:=zj h;exact zR [] [] []
    rw [if_neg (Bool.eq_false_iff.1 hb45)] at h;rcases Bool.eq_false_or_eq_true (decide (l.2.1=1)) with hb65|hb65
    ·rw [if_pos hb65] at h;have hz66:l.2.1=1:=by simpa using hb65
     refine d7 6 (fun K' hK67=>?_)
     try dsimp only [y1,y2,y3,y4]
     simp only [go_sem,hb1,hb25,hb41,hb45,hb65,hz66]
     repeat with_reducible refine zN ?_
     refine hK67 _ ?_
     as_aux_lemma =>
      obtain ⟨c69,h⟩:=b4.1 h;obtain ⟨c70,h⟩:=b4.1 h;obtain ⟨c71,h⟩:=b4.1 h;have hx72:((w+4)+l.2.2.1.toNat*1)<16:=n8 c71;refine d7 3 (fun K' hK68=>?_)
      try dsimp only [y1,y2,y3,y4]
      simp only [go_sem,hb1,hb25,hb41,hb45,hb65,hz66,c71]
      repeat with_reducible refine zN ?_
      refine hK68 _ ?_;refine g8 ?_;refine f7 ?_;refine zV [(2,.bp 1000 27),(4,.bp 4 0),(6,.bp 1000 ((30+w)+4)),(52,.bool (decide (w_6=(b7 T77 w_8 ((w+4)+l.2.2.1.toNat*1)))))] [(4,.box 60 [.ii l.1,.ii 1,.ii l.2.2.1,.ii l.2.2.2]),(1000,.box 80 (.sl (.sl Y4) w_2::(.sl (.sl .i) w_3::(.own 1001::(b3 T72 w_4++(.ii w_5::(.ii w_6::(.ii w_7::(b3 T77 w_8++(b3 T78 w_9++(.ii w_10::[]))))))))))),(1001,.arr 3 .i w_11)] gt ?_
      as_aux_lemma =>
       refine zQ h (fun hb73 h=>?_) (fun hb73 h=>?_)
       ·refine AW.draw m7 l7 [(12,[1000]),(15,[1000])] [(3,[1000]),(13,[1000,1001,999999]),(100012,[]),(100015,[])] (by decide) (o8 (by kernel_rfl)) ?_
        as_aux_lemma =>
         refine d7 6 (fun K' hK74=>?_)
         try dsimp only [y1,y2,y3,y4]
         simp only [go_sem,hb1,hb25,hb41,hb45,hb65,hz66,c71,hb73]
         repeat with_reducible refine zN ?_
         refine hK74 _ ?_
         as_aux_lemma =>
          obtain ⟨c76,h⟩:=b4.1 h;obtain ⟨c77,h⟩:=b4.1 h;obtain ⟨c78,h⟩:=b4.1 h;have hx79:((w+4)+l.2.2.2.toNat*1)<16:=n8 c78;refine d7 6 (fun K' hK75=>?_)
          try dsimp only [y1,y2,y3,y4]
          simp only [go_sem,hb1,hb25,hb41,hb45,hb65,hz66,c71,hb73,c78]
          repeat with_reducible refine zN ?_
          refine hK75 _ ?_
          as_aux_lemma =>
           obtain ⟨c81,h⟩:=b4.1 h;have hx82:((w+4)+3)<16:=n8 c81;refine d7 4 (fun K' hK80=>?_)
           try dsimp only [y1,y2,y3,y4]
           simp only [go_sem,hb1,hb25,hb41,hb45,hb65,hz66,c71,hb73,c78,c81]
           repeat with_reducible refine zN ?_
           refine hK80 _ ?_;refine g8 ?_;refine l8 ?_;obtain rfl:=zj h;exact zR [] [] []
       refine AW.ops ?_;obtain ⟨c83,h⟩:=b4.1 h;have hx84:((w+4)+3)<16:=n8 c83;refine zA [] [(1000,.box 80 (.sl (.sl Y4) w_2::(.sl (.sl .i) w_3::(.own 1001::(b3 T72 w_4++(.ii w_5::(.ii w_6::(.ii w_7::(b3 T77 (f8 T77 w_8 ((w+4)+3) 0)++(b3 T78 w_9++(.ii w_10::[]))))))))))),(1001,.arr 3 .i w_11)] ?_ (h:=by (simp only [go_sem,hb1,hb25,hb41,hb45,hb65,hz66,c71,hb73,c83])<;>(with_reducible and_intros)<;>first|assumption|rfl|omega|(unfold maxLen; omega));refine l8 ?_;obtain rfl:=zj h;exact zR [] [] []
    rw [if_neg (Bool.eq_false_iff.1 hb65)] at h;have hz66:l.2.1=2:=by have:=of_decide_eq_false hb45; have:=of_decide_eq_false hb65; omega
    refine d7 6 (fun K' hK85=>?_)
    try dsimp only [y1,y2,y3,y4]
    simp only [go_sem,hb1,hb25,hb41,hb45,hb65,hz66]
    repeat with_reducible refine zN ?_
    refine hK85 _ ?_
    as_aux_lemma =>
     obtain ⟨c87,h⟩:=b4.1 h;obtain ⟨c88,h⟩:=b4.1 h;obtain ⟨c89,h⟩:=b4.1 h;have hx90:((w+4)+l.2.2.1.toNat*1)<16:=n8 c89;refine d7 3 (fun K' hK86=>?_)
     try dsimp only [y1,y2,y3,y4]
     simp only [go_sem,hb1,hb25,hb41,hb45,hb65,hz66,c89]
     repeat with_reducible refine zN ?_
     refine hK86 _ ?_;refine g8 ?_;refine f7 ?_;refine zV [(2,.bp 1000 27),(4,.bp 4 0),(6,.bp 1000 ((30+w)+4)),(52,.bool (decide (w_7=(b7 T77 w_8 ((w+4)+l.2.2.1.toNat*1)))))] [(4,.box 60 [.ii l.1,.ii 2,.ii l.2.2.1,.ii l.2.2.2]),(1000,.box 80 (.sl (.sl Y4) w_2::(.sl (.sl .i) w_3::(.own 1001::(b3 T72 w_4++(.ii w_5::(.ii w_6::(.ii w_7::(b3 T77 w_8++(b3 T78 w_9++(.ii w_10::[]))))))))))),(1001,.arr 3 .i w_11)] gt ?_
     as_aux_lemma =>
      refine zQ h (fun hb91 h=>?_) (fun hb91 h=>?_)
      ·refine AW.draw m7 l7 [(12,[1000]),(15,[1000])] [(3,[1000]),(13,[1000,1001,999999]),(100012,[]),(100015,[])] (by decide) (o8 (by kernel_rfl)) ?_
       as_aux_lemma =>
        refine d7 6 (fun K' hK92=>?_)
        try dsimp only [y1,y2,y3,y4]
        simp only [go_sem,hb1,hb25,hb41,hb45,hb65,hz66,c89,hb91]
        repeat with_reducible refine zN ?_
        refine hK92 _ ?_
        as_aux_lemma =>
         obtain ⟨c94,h⟩:=b4.1 h;obtain ⟨c95,h⟩:=b4.1 h;obtain ⟨c96,h⟩:=b4.1 h;have hx97:((w+4)+l.2.2.2.toNat*1)<16:=n8 c96;refine d7 6 (fun K' hK93=>?_)
         try dsimp only [y1,y2,y3,y4]
         simp only [go_sem,hb1,hb25,hb41,hb45,hb65,hz66,c89,hb91,c96]
         repeat with_reducible refine zN ?_
         refine hK93 _ ?_
         as_aux_lemma =>
          obtain ⟨c99,h⟩:=b4.1 h;have hx100:((w+4)+3)<16:=n8 c99;refine d7 4 (fun K' hK98=>?_)
          try dsimp only [y1,y2,y3,y4]
          simp only [go_sem,hb1,hb25,hb41,hb45,hb65,hz66,c89,hb91,c96,c99]
          repeat with_reducible refine zN ?_
          refine hK98 _ ?_;refine g8 ?_;refine l8 ?_;obtain rfl:=zj h;exact zR [] [] []
      refine AW.ops ?_;obtain ⟨c101,h⟩:=b4.1 h;have hx102:((w+4)+3)<16:=n8 c101;refine zA [] [(1000,.box 80 (.sl (.sl Y4) w_2::(.sl (.sl .i) w_3::(.own 1001::(b3 T72 w_4++(.ii w_5::(.ii w_6::(.ii w_7::(b3 T77 (f8 T77 w_8 ((w+4)+3) 0)++(b3 T78 w_9++(.ii w_10::[]))))))))))),(1001,.arr 3 .i w_11)] ?_ (h:=by (simp only [go_sem,hb1,hb25,hb41,hb45,hb65,hz66,c89,hb91,c101])<;>(with_reducible and_intros)<;>first|assumption|rfl|omega|(unfold maxLen; omega));refine l8 ?_;obtain rfl:=zj h;exact zR [] [] []
 refine zo ?_;refine zB [(0,.bp 1000 (30+w)),(4,.bp 4 0),(6,.bp 1000 ((30+w)+4)),(11,.ii l.1),(70,.bool (decide (l.1=4)))] [(4,.box 60 [.ii l.1,.ii l.2.1,.ii l.2.2.1,.ii l.2.2.2]),(1000,.box 80 (.sl (.sl Y4) w_2::(.sl (.sl .i) w_3::(.own 1001::(b3 T72 w_4++(.ii w_5::(.ii w_6::(.ii w_7::(b3 T77 w_8++(b3 T78 w_9++(.ii w_10::[]))))))))))),(1001,.arr 3 .i w_11)] ?_;refine zQ h (fun hb103 h=>?_) (fun hb103 h=>?_)
 ·refine AW.draw m7 l7 [(7,[1000])] [] (by decide) (by kernel_rfl) ?_
  as_aux_lemma =>
   refine d7 6 (fun K' hK104=>?_)
   try dsimp only [y1,y2,y3,y4]
   simp only [go_sem,hb1,hb25,hb41,hb103]
   repeat with_reducible refine zN ?_
   refine hK104 _ ?_
   as_aux_lemma =>
    obtain ⟨c106,h⟩:=b4.1 h;obtain ⟨c107,h⟩:=b4.1 h;obtain ⟨c108,h⟩:=b4.1 h;have hx109:((w+4)+l.2.1.toNat*1)<16:=n8 c108;refine d7 2 (fun K' hK105=>?_)
    try dsimp only [y1,y2,y3,y4]
    simp only [go_sem,hb1,hb25,hb41,hb103,c108]
    repeat with_reducible refine zN ?_
    refine hK105 _ ?_;refine g8 ?_;refine l8 ?_;obtain rfl:=zj h;exact zR [] [] []
 refine zo ?_;refine zB [(0,.bp 1000 (30+w)),(4,.bp 4 0),(6,.bp 1000 ((30+w)+4)),(11,.ii l.1),(79,.bool (decide (l.1=5)))] [(4,.box 60 [.ii l.1,.ii l.2.1,.ii l.2.2.1,.ii l.2.2.2]),(1000,.box 80 (.sl (.sl Y4) w_2::(.sl (.sl .i) w_3::(.own 1001::(b3 T72 w_4++(.ii w_5::(.ii w_6::(.ii w_7::(b3 T77 w_8++(b3 T78 w_9++(.ii w_10::[]))))))))))),(1001,.arr 3 .i w_11)] ?_;refine zQ h (fun hb110 h=>?_) (fun hb110 h=>?_)
 ·refine AW.draw m7 l7 [(19,[1000])] [] (by decide) (o8 (by kernel_rfl)) ?_
  as_aux_lemma =>
   refine d7 6 (fun K' hK111=>?_)
   try dsimp only [y1,y2,y3,y4]
   simp only [go_sem,hb1,hb25,hb41,hb103,hb110]
   repeat with_reducible refine zN ?_
   refine hK111 _ ?_
   as_aux_lemma =>
    obtain ⟨c113,h⟩:=b4.1 h;obtain ⟨c114,h⟩:=b4.1 h;obtain ⟨c115,h⟩:=b4.1 h;have hx116:((w+4)+l.2.2.1.toNat*1)<16:=n8 c115;refine d7 6 (fun K' hK112=>?_)
    try dsimp only [y1,y2,y3,y4]
    simp only [go_sem,hb1,hb25,hb41,hb103,hb110,c115]
    repeat with_reducible refine zN ?_
    refine hK112 _ ?_
    as_aux_lemma =>
     obtain ⟨c118,h⟩:=b4.1 h;obtain ⟨c119,h⟩:=b4.1 h;obtain ⟨c120,h⟩:=b4.1 h;have hx121:((w+4)+l.2.2.2.toNat*1)<16:=n8 c120;obtain ⟨c122,h⟩:=b4.1 h;obtain ⟨c123,h⟩:=b4.1 h;refine d7 6 (fun K' hK117=>?_)
     try dsimp only [y1,y2,y3,y4]
     simp only [go_sem,hb1,hb25,hb41,hb103,hb110,c115,c120]
     repeat with_reducible refine zN ?_
     refine hK117 _ ?_
     as_aux_lemma =>
      obtain ⟨c125,h⟩:=b4.1 h;obtain ⟨c126,h⟩:=b4.1 h;obtain ⟨c127,h⟩:=b4.1 h;have hx128:((w+4)+l.2.1.toNat*1)<16:=n8 c127;refine d7 2 (fun K' hK124=>?_)
      try dsimp only [y1,y2,y3,y4]
      simp only [go_sem,hb1,hb25,hb41,hb103,hb110,c115,c120,c127]
      repeat with_reducible refine zN ?_
      refine hK124 _ ?_;refine g8 ?_;refine l8 ?_;obtain rfl:=zj h;exact zR [] [] []
 refine zo ?_;refine zB [(0,.bp 1000 (30+w)),(4,.bp 4 0),(6,.bp 1000 ((30+w)+4)),(100,.bool (decide (l.1=6)))] [(4,.box 60 [.ii l.1,.ii l.2.1,.ii l.2.2.1,.ii l.2.2.2]),(1000,.box 80 (.sl (.sl Y4) w_2::(.sl (.sl .i) w_3::(.own 1001::(b3 T72 w_4++(.ii w_5::(.ii w_6::(.ii w_7::(b3 T77 w_8++(b3 T78 w_9++(.ii w_10::[]))))))))))),(1001,.arr 3 .i w_11)] ?_;refine zQ h (fun hb129 h=>?_) (fun hb129 h=>?_)
 ·refine AW.seq ?_;refine AW.draw m7 l7 [] [] (by decide) (by kernel_rfl) ?_
  as_aux_lemma =>
   obtain ⟨c131,h⟩:=b4.1 h;obtain ⟨c132,h⟩:=b4.1 h;obtain ⟨c133,h⟩:=b4.1 h;have hx134:((w+4)+l.2.1.toNat*1)<16:=n8 c133;refine d7 6 (fun K' hK130=>?_)
   try dsimp only [y1,y2,y3,y4]
   simp only [go_sem,hb1,hb25,hb41,hb103,hb110,hb129,c133]
   repeat with_reducible refine zN ?_
   refine hK130 _ ?_
   as_aux_lemma =>
    refine d7 1 (fun K' hK135=>?_)
    try dsimp only [y1,y2,y3,y4]
    simp only [go_sem,hb1,hb25,hb41,hb103,hb110,hb129,c133]
    repeat with_reducible refine zN ?_
    refine hK135 _ ?_;refine g8 ?_;refine f7 ?_;refine zV [(0,.bp 1000 (30+w)),(4,.bp 4 0),(108,.bool (decide ((b7 T77 w_8 ((w+4)+l.2.1.toNat*1))=0)))] [(4,.box 60 [.ii l.1,.ii l.2.1,.ii l.2.2.1,.ii l.2.2.2]),(1000,.box 80 (.sl (.sl Y4) w_2::(.sl (.sl .i) w_3::(.own 1001::(b3 T72 w_4++(.ii w_5::(.ii w_6::(.ii w_7::(b3 T77 w_8++(b3 T78 w_9++(.ii w_10::[]))))))))))),(1001,.arr 3 .i w_11)] gt ?_
    as_aux_lemma =>
     refine zQ h (fun hb136 h=>?_) (fun hb136 h=>?_)
     ·refine AW.ops ?_;refine zS 5 [(111,.ii l.2.2.1),(113,.bp 1000 ((30+w)+3))] [(1000,.box 80 (.sl (.sl Y4) w_2::(.sl (.sl .i) w_3::(.own 1001::(b3 T72 w_4++(.ii w_5::(.ii w_6::(.ii w_7::(b3 T77 w_8++(b3 T78 w_9++(.ii w_10::[]))))))))))),(1001,.arr 3 .i w_11)] ?_ (h:=by (simp only [go_sem,hb1,hb25,hb41,hb103,hb110,hb129,c133,hb136])<;>(with_reducible and_intros)<;>first|assumption|rfl|omega|(unfold maxLen; omega));obtain ⟨c137,h⟩:=b4.1 h;have hx138:(w+3)<16:=n8 c137;refine zA [] [(1000,.box 80 (.sl (.sl Y4) w_2::(.sl (.sl .i) w_3::(.own 1001::(b3 T72 w_4++(.ii w_5::(.ii w_6::(.ii w_7::(b3 T77 (f8 T77 w_8 (w+3) l.2.2.1)++(b3 T78 w_9++(.ii w_10::[]))))))))))),(1001,.arr 3 .i w_11)] ?_ (h:=by (simp only [go_sem,hb1,hb25,hb41,hb103,hb110,hb129,c133,hb136,c137])<;>(with_reducible and_intros)<;>first|assumption|rfl|omega|(unfold maxLen; omega));refine l8 ?_;obtain rfl:=zj h;exact zR [] [] []
     refine zm ?_;obtain rfl:=zj h;exact zR [] [] []
 refine zm ?_;obtain rfl:=zj h;exact zR [] [] []
end Go.Proofs.YtanaeefeggokkaaGreat
