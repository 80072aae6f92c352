import Derived.Test.YtanaeefeggokkaaGreatCkp
import Derived.Test.YtanaeefeggokkaaGreatShk
import Derived.Test.YtanaeefeggokkaaGreatAvd
import Derived.Test.YtanaeefeggokkaaGreatCqc7
namespace Go.Proofs.YtanaeefeggokkaaGreat
open Go.RowKit
set_option linter.unusedSimpArgs false
set_option linter.unusedVariables false
set_option linter.constructorNameAsVariable false
set_option maxRecDepth 100000
set_option maxHeartbeats 40000000
theorem a25 (s:ZS) (s_2:ZH) (at0:(Int×Int)×Int) {r:Unit} (h:P2 s s_2 at0=some r):HC Tryz.prog 152 [] [.agg [.sl Y3 s,.sl Y0 s_2,.fn (.func 55) [] [],.one],.agg [.ii at0.1.1,.ii at0.1.2,.int .u64 at0.2]] [(2000,.box 168 [.sl Y3 s,.sl Y0 s_2,.fn (.func 55) [] [],.one]),(2001,.box 172 [.ii at0.1.1,.ii at0.1.2,.int .u64 at0.2])] (.fn (.func 168) [] [.bp 2000 0,.bp 2001 0]):=by
 unfold P2 at h;refine zH Tryz.func152 [.tmp 4] 6 ?_;refine zo ?_;refine zB [(2,.bp 2 0),(3,.bp 3 0)] [(2,.box 168 [.sl Y3 s,.sl Y0 s_2,.fn (.func 55) [] [],.one]),(3,.box 172 [.ii at0.1.1,.ii at0.1.2,.int .u64 at0.2])] ?_;refine zo ?_;refine zB [(4,.fn (.func 168) [] [.bp 2 0,.bp 3 0])] [(2,.box 168 [.sl Y3 s,.sl Y0 s_2,.fn (.func 55) [] [],.one]),(3,.box 172 [.ii at0.1.1,.ii at0.1.2,.int .u64 at0.2])] ?_;refine AW.ret ?_;obtain rfl:=zj h;exact zR [] [] [(2000,2),(2001,3)]
theorem a2q (a:Int×Int×Int×Int×Int×Int) (b:Int×Int×Int×Int×Int×Int) {r:Bool} (h:G4 a b=some r):HC Tryz.prog 55 [] [.agg [.ii a.1,.ii a.2.1,.ii a.2.2.1,.ii a.2.2.2.1,.ii a.2.2.2.2.1,.ii a.2.2.2.2.2],.agg [.ii b.1,.ii b.2.1,.ii b.2.2.1,.ii b.2.2.2.1,.ii b.2.2.2.2.1,.ii b.2.2.2.2.2]] [] (.bool r):=by
 unfold G4 at h;refine zH Tryz.func55 [.tmp 4] 8 ?_;refine zo ?_;refine zB [(2,.bp 2 0),(3,.bp 3 0)] [(2,.box 62 [.ii a.1,.ii a.2.1,.ii a.2.2.1,.ii a.2.2.2.1,.ii a.2.2.2.2.1,.ii a.2.2.2.2.2]),(3,.box 62 [.ii b.1,.ii b.2.1,.ii b.2.2.1,.ii b.2.2.2.1,.ii b.2.2.2.2.1,.ii b.2.2.2.2.2])] ?_;refine zo ?_;refine zS 2 [(5,.agg [.ii b.1,.ii b.2.1,.ii b.2.2.1,.ii b.2.2.2.1,.ii b.2.2.2.2.1,.ii b.2.2.2.2.2]),(6,.agg [.ii a.1,.ii a.2.1,.ii a.2.2.1,.ii a.2.2.2.1,.ii a.2.2.2.2.1,.ii a.2.2.2.2.2])] [] ?_;obtain ⟨v0,hv1,h⟩:=zw h;refine zC [] [] (a0y b a hv1) [(7,.bool v0)] [] ?_;refine zB [(4,.bool v0)] [] ?_;refine AW.ret ?_;obtain rfl:=zj h;exact zR [] [] []
theorem a26 (s:ZS) (s_2:ZH) (at0:(Int×Int)×Int) (call:Int) {r:Bool} (h:G3 s s_2 at0 call=some r):HC Tryz.prog 169 [] [.agg [.sl Y3 s,.sl Y0 s_2,.fn (.func 55) [] [],.one],.agg [.ii at0.1.1,.ii at0.1.2,.int .u64 at0.2],.ii call] [] (.bool r):=by
 unfold G3 at h;refine zH Tryz.func169 [.tmp 6] 36 ?_;refine zo ?_;refine zB [(2,.ii call),(3,.bp 3 0),(4,.bp 4 0)] [(3,.box 168 [.sl Y3 s,.sl Y0 s_2,.fn (.func 55) [] [],.one]),(4,.box 172 [.ii at0.1.1,.ii at0.1.2,.int .u64 at0.2])] ?_;refine AW.seq ?_;refine zo ?_;refine zS 2 [(2,.ii call),(3,.bp 3 0),(4,.bp 4 0),(9,.agg [.ii at0.1.1,.ii at0.1.2,.int .u64 at0.2]),(10,.ii call)] [(3,.box 168 [.sl Y3 s,.sl Y0 s_2,.fn (.func 55) [] [],.one]),(4,.box 172 [.ii at0.1.1,.ii at0.1.2,.int .u64 at0.2])] ?_;obtain ⟨v0,hv1,h⟩:=zw h;refine zC [] [] (V2 at0 call hv1) [(2,.ii call),(3,.bp 3 0),(4,.bp 4 0),(11,.bool (!(decide ((a5h .u64 at0.2 (a2C .u64 1 call))=0))))] [(3,.box 168 [.sl Y3 s,.sl Y0 s_2,.fn (.func 55) [] [],.one]),(4,.box 172 [.ii at0.1.1,.ii at0.1.2,.int .u64 at0.2])] ?_;refine zB [(2,.ii call),(3,.bp 3 0),(4,.bp 4 0),(11,.bool (!(decide ((a5h .u64 at0.2 (a2C .u64 1 call))=0))))] [(3,.box 168 [.sl Y3 s,.sl Y0 s_2,.fn (.func 55) [] [],.one]),(4,.box 172 [.ii at0.1.1,.ii at0.1.2,.int .u64 at0.2])] ?_;refine zQ h (fun hb2 h=>?_) (fun hb2 h=>?_)
 ·refine zo ?_;refine zB [(6,.bool false)] [] ?_;refine zr ?_;obtain rfl:=zj h;exact zR [] [] []
 refine zk ?_;refine AW.have1 (fun _:Unit=>R0=some r) (fun _=>⟨fr [],b6 [],gt⟩) (fun _ h=>?_) (fun hk_history_search_ready_k1=>?_)
 ·as_aux_lemma =>
   unfold R0 at h;refine zo ?_;refine zB [(6,.bool true)] [] ?_;refine AW.ret ?_;obtain rfl:=zj h;exact zR [] [] []
 refine AW.seq ?_;refine zo ?_;refine zB [(2,.ii call),(3,.bp 3 0),(4,.bp 4 0),(13,.sl Y0 s_2),(14,.ii (s_2.length:Int)),(15,.ii 0)] [(3,.box 168 [.sl Y3 s,.sl Y0 s_2,.fn (.func 55) [] [],.one]),(4,.box 172 [.ii at0.1.1,.ii at0.1.2,.int .u64 at0.2])] ?_;refine AW.block ?_;obtain ⟨rv7,hw3,ho4⟩:=zw h;refine AW.loopO (u7 s_2 at0 call) (fun st1=>⟨fr [(2,.ii call),(3,.bp 3 0),(4,.bp 4 0),(13,.sl Y0 s_2),(14,.ii (s_2.length:Int)),(15,.ii st1)],b6 [(3,.box 168 [.sl Y3 s,.sl Y0 s_2,.fn (.func 55) [] [],.one]),(4,.box 172 [.ii at0.1.1,.ii at0.1.2,.int .u64 at0.2])],gt⟩) 0 hw3 (zL [] [] []) ?_
 as_aux_lemma =>
  intro st1 x6 h hd5;unfold u7 at h;refine zo ?_;refine zB [(2,.ii call),(3,.bp 3 0),(4,.bp 4 0),(13,.sl Y0 s_2),(14,.ii (s_2.length:Int)),(15,.ii st1),(16,.bool (decide (st1<(s_2.length:Int))))] [(3,.box 168 [.sl Y3 s,.sl Y0 s_2,.fn (.func 55) [] [],.one]),(4,.box 172 [.ii at0.1.1,.ii at0.1.2,.int .u64 at0.2])] ?_;refine AW.seq ?_;refine zQ h (fun hb8 h=>?_) (fun hb8 h=>?_)
  ·refine zk ?_;refine AW.seq ?_;refine AW.block ?_;refine zo ?_;obtain ⟨c9,h⟩:=b4.1 h;obtain ⟨c10,h⟩:=b4.1 h;refine zS 5 [(2,.ii call),(3,.bp 3 0),(4,.bp 4 0),(7,.ii st1),(8,.bp 8 0),(13,.sl Y0 s_2),(14,.ii (s_2.length:Int)),(15,.ii st1),(19,.agg [.ii (s_2.getD st1.toNat (0,0,0,0,0,0)).1,.ii (s_2.getD st1.toNat (0,0,0,0,0,0)).2.1,.ii (s_2.getD st1.toNat (0,0,0,0,0,0)).2.2.1,.ii (s_2.getD st1.toNat (0,0,0,0,0,0)).2.2.2.1,.ii (s_2.getD st1.toNat (0,0,0,0,0,0)).2.2.2.2.1,.ii (s_2.getD st1.toNat (0,0,0,0,0,0)).2.2.2.2.2])] [(3,.box 168 [.sl Y3 s,.sl Y0 s_2,.fn (.func 55) [] [],.one]),(4,.box 172 [.ii at0.1.1,.ii at0.1.2,.int .u64 at0.2]),(8,.box 62 [.ii 0,.ii 0,.ii 0,.ii 0,.ii 0,.ii 0])] ?_;refine zB [(2,.ii call),(3,.bp 3 0),(4,.bp 4 0),(7,.ii st1),(8,.bp 8 0),(13,.sl Y0 s_2),(14,.ii (s_2.length:Int)),(15,.ii st1)] [(3,.box 168 [.sl Y3 s,.sl Y0 s_2,.fn (.func 55) [] [],.one]),(4,.box 172 [.ii at0.1.1,.ii at0.1.2,.int .u64 at0.2]),(8,.box 62 [.ii (s_2.getD st1.toNat (0,0,0,0,0,0)).1,.ii (s_2.getD st1.toNat (0,0,0,0,0,0)).2.1,.ii (s_2.getD st1.toNat (0,0,0,0,0,0)).2.2.1,.ii (s_2.getD st1.toNat (0,0,0,0,0,0)).2.2.2.1,.ii (s_2.getD st1.toNat (0,0,0,0,0,0)).2.2.2.2.1,.ii (s_2.getD st1.toNat (0,0,0,0,0,0)).2.2.2.2.2])] ?_;refine AW.seq ?_;refine AW.draw m7 l7 [] [] (by decide) (o8 (by kernel_rfl)) ?_
   as_aux_lemma =>
    obtain ⟨c12,h⟩:=b4.1 h;obtain ⟨c13,h⟩:=b4.1 h;refine d7 6 (fun K' hK11=>?_)
    try dsimp only [y1,y2,y3,y4]
    simp only [go_sem,hb2,hb8]
    repeat with_reducible refine zN ?_
    refine hK11 _ ?_
    as_aux_lemma =>
     refine d7 2 (fun K' hK14=>?_)
     try dsimp only [y1,y2,y3,y4]
     simp only [go_sem,hb2,hb8]
     repeat with_reducible refine zN ?_
     refine hK14 _ ?_
     as_aux_lemma =>
      obtain ⟨v0_2,hv15,h⟩:=zw h;refine I6.call (by first|trivial|rfl) rfl rfl rfl (fun _ h=>h) [] [] (a2q (s_2.getD call.toNat (0,0,0,0,0,0)) (s_2.getD st1.toNat (0,0,0,0,0,0)) hv15) rfl (by (simp only [go_sem,hb2,hb8])<;>(with_reducible and_intros)<;>first|assumption|rfl|omega|(unfold maxLen; omega)) (by (simp only [go_sem,hb2,hb8])<;>(with_reducible and_intros)<;>first|assumption|rfl|omega|(unfold maxLen; omega)) rfl ?_;refine d7 1 (fun K' hK16=>?_)
      try dsimp only [y1,y2,y3,y4]
      simp only [go_sem,hb2,hb8]
      repeat with_reducible refine zN ?_
      refine hK16 _ ?_
      as_aux_lemma =>
       rcases zI h with ⟨hb17,h⟩|⟨hb17,h⟩
       ·simp only [hb17]
        as_aux_lemma =>
         refine d7 2 (fun K' hK18=>?_)
         try dsimp only [y1,y2,y3,y4]
         simp only [go_sem,hb2,hb8,hb17]
         repeat with_reducible refine zN ?_
         refine hK18 _ ?_
         as_aux_lemma =>
          obtain ⟨v0_3,hv19,h⟩:=zw h;refine I6.call (by first|trivial|rfl) rfl rfl rfl (fun _ h=>⟨fun _=>h,fun hn=>absurd rfl hn⟩) [] [] (V2 at0 st1 hv19) rfl (by (simp only [go_sem,hb2,hb8,hb17])<;>(with_reducible and_intros)<;>first|assumption|rfl|omega|(unfold maxLen; omega)) (by (simp only [go_sem,hb2,hb8,hb17])<;>(with_reducible and_intros)<;>first|assumption|rfl|omega|(unfold maxLen; omega)) rfl ?_;refine d7 2 (fun K' hK20=>?_)
          try dsimp only [y1,y2,y3,y4]
          simp only [go_sem,hb2,hb8,hb17]
          repeat with_reducible refine zN ?_
          refine hK20 _ ?_;refine g8 ?_;refine f7 ?_;refine zV [(2,.ii call),(3,.bp 3 0),(4,.bp 4 0),(13,.sl Y0 s_2),(14,.ii (s_2.length:Int)),(15,.ii st1),(34,.bool (!(!(decide ((a5h .u64 at0.2 (a2C .u64 1 st1))=0)))))] [(3,.box 168 [.sl Y3 s,.sl Y0 s_2,.fn (.func 55) [] [],.one]),(4,.box 172 [.ii at0.1.1,.ii at0.1.2,.int .u64 at0.2])] gt ?_
          as_aux_lemma =>
           refine zQ h (fun hb21 h=>?_) (fun hb21 h=>?_)
           ·refine zo ?_;refine zB [(6,.bool false)] [] ?_;refine AW.ret ?_;refine d5 ?_;refine b9 ?_;obtain rfl:=zj h
            try rw [← hd5 _ rfl] at ho4
            have h:=ho4
            try simp only at h
            refine b9 ?_;refine d5 ?_;refine b9 ?_;obtain rfl:=zj h;exact zR [] [] []
           refine zm ?_;refine f7 ?_;refine AW.ops ?_;obtain ⟨c22,h⟩:=b4.1 h;refine zA [(2,.ii call),(3,.bp 3 0),(4,.bp 4 0),(13,.sl Y0 s_2),(14,.ii (s_2.length:Int)),(15,.ii (st1+1))] [(3,.box 168 [.sl Y3 s,.sl Y0 s_2,.fn (.func 55) [] [],.one]),(4,.box 172 [.ii at0.1.1,.ii at0.1.2,.int .u64 at0.2])] ?_;obtain rfl:=zj h;exact ⟨_,rfl,zL [] [] []⟩
       simp only [hb17]
       as_aux_lemma =>
        refine d7 4 (fun K' hK23=>?_)
        try dsimp only [y1,y2,y3,y4]
        simp only [go_sem,hb2,hb8,hb17]
        repeat with_reducible refine zN ?_
        refine hK23 _ ?_
        as_aux_lemma =>
         refine d7 1 (fun K' hK24=>?_)
         try dsimp only [y1,y2,y3,y4]
         simp only [go_sem,hb2,hb8,hb17]
         repeat with_reducible refine zN ?_
         refine hK24 _ ?_;refine g8 ?_;refine f7 ?_;refine zV [(2,.ii call),(3,.bp 3 0),(4,.bp 4 0),(13,.sl Y0 s_2),(14,.ii (s_2.length:Int)),(15,.ii st1),(34,.bool false)] [(3,.box 168 [.sl Y3 s,.sl Y0 s_2,.fn (.func 55) [] [],.one]),(4,.box 172 [.ii at0.1.1,.ii at0.1.2,.int .u64 at0.2])] gt ?_
         as_aux_lemma =>
          refine AW.cond (b:=false) rfl (fun hb25=>by cases hb25) (fun _=>?_);refine zm ?_;refine f7 ?_;refine AW.ops ?_;obtain ⟨c26,h⟩:=b4.1 h;refine zA [(2,.ii call),(3,.bp 3 0),(4,.bp 4 0),(13,.sl Y0 s_2),(14,.ii (s_2.length:Int)),(15,.ii (st1+1))] [(3,.box 168 [.sl Y3 s,.sl Y0 s_2,.fn (.func 55) [] [],.one]),(4,.box 172 [.ii at0.1.1,.ii at0.1.2,.int .u64 at0.2])] ?_;obtain rfl:=zj h;exact ⟨_,rfl,zL [] [] []⟩
  refine AW.exit ?_;refine g4 ?_;obtain rfl:=zj h
  try rw [← hd5 _ rfl] at ho4
  have h:=ho4
  try simp only at h
  refine g4 ?_;refine j5 ?_;refine f7 ?_;exact AW.weaken (zL [] [] []) (hk_history_search_ready_k1 () h)
theorem a2H (specs:ZS) (c:Int×Int×Int×Int×Int×Int) (s:(Int×Int)×Int) {r:Int×Int×Int} (h:E5 specs c s=some r):HC Tryz.prog 124 [(1000,.box 172 [.ii s.1.1,.ii s.1.2,.int .u64 s.2])] [.bp 1000 0,.sl Y3 specs,.agg [.ii c.1,.ii c.2.1,.ii c.2.2.1,.ii c.2.2.2.1,.ii c.2.2.2.2.1,.ii c.2.2.2.2.2]] [(1000,.box 172 [.ii r.2.1,.ii r.2.2,.int .u64 s.2])] (.ii r.1):=by
 unfold E5 at h;refine zH Tryz.func124 [.tmp 6] 43 ?_;refine zo ?_;refine zB [(0,.bp 1000 0),(1,.sl Y3 specs),(5,.bp 5 0)] [(5,.box 62 [.ii c.1,.ii c.2.1,.ii c.2.2.1,.ii c.2.2.2.1,.ii c.2.2.2.2.1,.ii c.2.2.2.2.2]),(1000,.box 172 [.ii s.1.1,.ii s.1.2,.int .u64 s.2])] ?_;refine AW.have1 (fun b1:Int×Int×Int×(List (List Int))×(List (List Int))×Int=>t5 c s b1=some r) (fun b1=>⟨fr [(0,.bp 1000 0),(5,.bp 5 0),(7,.bp 7 0),(8,.ii b1.2.2.2.2.2)],b6 [(5,.box 62 [.ii c.1,.ii b1.1,.ii c.2.2.1,.ii c.2.2.2.1,.ii c.2.2.2.2.1,.ii c.2.2.2.2.2]),(7,.box 24 [.ii b1.2.1,.ii b1.2.2.1,.sl (.sl .i) b1.2.2.2.1,.sl (.sl .i) b1.2.2.2.2.1]),(1000,.box 172 [.ii s.1.1,.ii s.1.2,.int .u64 s.2])],gt⟩) (fun b1 h=>?_) (fun hk_history_states_answer_k1=>?_)
 ·as_aux_lemma =>
   unfold t5 at h;refine AW.have1 (fun b2:Int×Int×Int=>s8 c b1 b2=some r) (fun b2=>⟨fr [(5,.bp 5 0),(7,.bp 7 0),(8,.ii b1.2.2.2.2.2)],b6 [(5,.box 62 [.ii c.1,.ii b2.1,.ii c.2.2.1,.ii c.2.2.2.1,.ii c.2.2.2.2.1,.ii c.2.2.2.2.2]),(7,.box 24 [.ii b1.2.1,.ii b1.2.2.1,.sl (.sl .i) b1.2.2.2.1,.sl (.sl .i) b1.2.2.2.2.1]),(1000,.box 172 [.ii b2.2.1,.ii b2.2.2,.int .u64 s.2])],gt⟩) (fun b2 h=>?_) (fun hk_history_states_answer_k2=>?_)
   ·as_aux_lemma =>
     unfold s8 at h;refine AW.seq ?_;refine AW.draw m7 l7 [] [] (by decide) (o8 (by kernel_rfl)) ?_
     as_aux_lemma =>
      obtain ⟨c2,h⟩:=b4.1 h;obtain ⟨c3,h⟩:=b4.1 h;refine d7 6 (fun K' hK1=>?_)
      try dsimp only [y1,y2,y3,y4]
      simp only [go_sem]
      repeat with_reducible refine zN ?_
      refine hK1 _ ?_
      as_aux_lemma =>
       obtain ⟨c5,h⟩:=b4.1 h;obtain ⟨c6,h⟩:=b4.1 h;refine d7 4 (fun K' hK4=>?_)
       try dsimp only [y1,y2,y3,y4]
       simp only [go_sem]
       repeat with_reducible refine zN ?_
       refine hK4 _ ?_;refine g8 ?_;refine f7 ?_;refine zV [(6,.ii ((b1.2.2.2.2.1.getD b1.2.2.2.2.2.toNat []).getD c.2.2.1.toNat 0))] [(1000,.box 172 [.ii b2.2.1,.ii b2.2.2,.int .u64 s.2])] gt ?_
       as_aux_lemma =>
        refine AW.ret ?_;obtain rfl:=zj h;exact zR [] [] []
   refine AW.seq ?_;refine AW.draw m7 l7 [(14,[1000])] [] (by decide) (o8 (by kernel_rfl)) ?_
   as_aux_lemma =>
    refine d7 6 (fun K' hK7=>?_)
    try dsimp only [y1,y2,y3,y4]
    simp only [go_sem]
    repeat with_reducible refine zN ?_
    refine hK7 _ ?_
    as_aux_lemma =>
     obtain ⟨c9,h⟩:=b4.1 h;obtain ⟨c10,h⟩:=b4.1 h;obtain ⟨c11,h⟩:=b4.1 h;obtain ⟨c12,h⟩:=b4.1 h;refine d7 6 (fun K' hK8=>?_)
     try dsimp only [y1,y2,y3,y4]
     simp only [go_sem]
     repeat with_reducible refine zN ?_
     refine hK8 _ ?_
     as_aux_lemma =>
      obtain ⟨c14,h⟩:=b4.1 h;obtain ⟨c15,h⟩:=b4.1 h;refine d7 1 (fun K' hK13=>?_)
      try dsimp only [y1,y2,y3,y4]
      simp only [go_sem]
      repeat with_reducible refine zN ?_
      refine hK13 _ ?_
      as_aux_lemma =>
       rcases Bool.eq_false_or_eq_true (decide (b1.1=0)) with hb16|hb16
       ·rw [if_pos hb16] at h;have hz17:b1.1=0:=by simpa using hb16
        refine d7 2 (fun K' hK18=>?_)
        try dsimp only [y1,y2,y3,y4]
        simp only [go_sem,hb16,hz17]
        repeat with_reducible refine zN ?_
        refine hK18 _ ?_;refine g8 ?_;refine f7 ?_;refine zV [(5,.bp 5 0),(7,.bp 7 0),(8,.ii b1.2.2.2.2.2)] [(5,.box 62 [.ii c.1,.ii 0,.ii c.2.2.1,.ii c.2.2.2.1,.ii c.2.2.2.2.1,.ii c.2.2.2.2.2]),(7,.box 24 [.ii b1.2.1,.ii b1.2.2.1,.sl (.sl .i) b1.2.2.2.1,.sl (.sl .i) b1.2.2.2.2.1]),(1000,.box 172 [.ii ((b1.2.2.2.1.getD b1.2.2.2.2.2.toNat []).getD c.2.2.1.toNat 0),.ii s.1.2,.int .u64 s.2])] gt ?_
        as_aux_lemma =>
         have hj:=hk_history_states_answer_k2 _ h;exact AW.weaken (zL [] [] []) hj
       rw [if_neg (Bool.eq_false_iff.1 hb16)] at h;have hz17:b1.1=1:=by have:=of_decide_eq_false hb16; omega
       refine d7 2 (fun K' hK19=>?_)
       try dsimp only [y1,y2,y3,y4]
       simp only [go_sem,hb16,hz17]
       repeat with_reducible refine zN ?_
       refine hK19 _ ?_;refine g8 ?_;refine f7 ?_;refine zV [(5,.bp 5 0),(7,.bp 7 0),(8,.ii b1.2.2.2.2.2)] [(5,.box 62 [.ii c.1,.ii 1,.ii c.2.2.1,.ii c.2.2.2.1,.ii c.2.2.2.2.1,.ii c.2.2.2.2.2]),(7,.box 24 [.ii b1.2.1,.ii b1.2.2.1,.sl (.sl .i) b1.2.2.2.1,.sl (.sl .i) b1.2.2.2.2.1]),(1000,.box 172 [.ii s.1.1,.ii ((b1.2.2.2.1.getD b1.2.2.2.2.2.toNat []).getD c.2.2.1.toNat 0),.int .u64 s.2])] gt ?_
       as_aux_lemma =>
        have hj:=hk_history_states_answer_k2 _ h;exact AW.weaken (zL [] [] []) hj
 refine AW.seq ?_;refine AW.draw m7 l7 [(11,[7]),(12,[7])] [(0,[]),(1,[5]),(2,[5]),(3,[]),(4,[]),(5,[1000]),(6,[5]),(7,[5]),(8,[1000,999999]),(9,[1000,999999]),(10,[1000]),(100012,[])] (by decide) (o8 (by kernel_rfl)) ?_
 as_aux_lemma =>
  obtain ⟨c21,h⟩:=b4.1 h;obtain ⟨c22,h⟩:=b4.1 h;refine d7 6 (fun K' hK20=>?_)
  try dsimp only [y1,y2,y3,y4]
  simp only [go_sem]
  repeat with_reducible refine zN ?_
  refine hK20 _ ?_
  as_aux_lemma =>
   obtain ⟨c24,h⟩:=b4.1 h;obtain ⟨c25,h⟩:=b4.1 h;refine d7 3 (fun K' hK23=>?_)
   try dsimp only [y1,y2,y3,y4]
   simp only [go_sem]
   repeat with_reducible refine zN ?_
   refine hK23 _ ?_
   as_aux_lemma =>
    rcases Bool.eq_false_or_eq_true (decide (c.2.1=0)) with hb26|hb26
    ·rw [if_pos hb26] at h;have hz27:c.2.1=0:=by simpa using hb26
     refine d7 5 (fun K' hK28=>?_)
     try dsimp only [y1,y2,y3,y4]
     simp only [go_sem,hb26,hz27]
     repeat with_reducible refine zN ?_
     refine hK28 _ ?_;refine g8 ?_;refine f7 ?_;refine zV [(0,.bp 1000 0),(5,.bp 5 0),(7,.bp 7 0),(8,.ii s.1.1)] [(5,.box 62 [.ii c.1,.ii 0,.ii c.2.2.1,.ii c.2.2.2.1,.ii c.2.2.2.2.1,.ii c.2.2.2.2.2]),(7,.box 24 [.ii (specs.getD 0 (0,0,[],[])).1,.ii (specs.getD 0 (0,0,[],[])).2.1,.sl (.sl .i) (specs.getD 0 (0,0,[],[])).2.2.1,.sl (.sl .i) (specs.getD 0 (0,0,[],[])).2.2.2]),(1000,.box 172 [.ii s.1.1,.ii s.1.2,.int .u64 s.2])] gt ?_
     as_aux_lemma =>
      have hj:=hk_history_states_answer_k1 _ h;exact AW.weaken (zL [] [] []) hj
    rw [if_neg (Bool.eq_false_iff.1 hb26)] at h;have hz27:c.2.1=1:=by have:=of_decide_eq_false hb26; omega
    refine d7 5 (fun K' hK29=>?_)
    try dsimp only [y1,y2,y3,y4]
    simp only [go_sem,hb26,hz27]
    repeat with_reducible refine zN ?_
    refine hK29 _ ?_;refine g8 ?_;refine f7 ?_;refine zV [(0,.bp 1000 0),(5,.bp 5 0),(7,.bp 7 0),(8,.ii s.1.2)] [(5,.box 62 [.ii c.1,.ii 1,.ii c.2.2.1,.ii c.2.2.2.1,.ii c.2.2.2.2.1,.ii c.2.2.2.2.2]),(7,.box 24 [.ii (specs.getD 1 (0,0,[],[])).1,.ii (specs.getD 1 (0,0,[],[])).2.1,.sl (.sl .i) (specs.getD 1 (0,0,[],[])).2.2.1,.sl (.sl .i) (specs.getD 1 (0,0,[],[])).2.2.2]),(1000,.box 172 [.ii s.1.1,.ii s.1.2,.int .u64 s.2])] gt ?_
    as_aux_lemma =>
     have hj:=hk_history_states_answer_k1 _ h;exact AW.weaken (zL [] [] []) hj
theorem a24 (specs:ZS) (c:Int×Int×Int×Int×Int×Int) (s:(Int×Int)×Int) {r:Bool×Int×Int} (h:G0 specs c s=some r):HC Tryz.prog 91 [(1000,.box 172 [.ii s.1.1,.ii s.1.2,.int .u64 s.2])] [.bp 1000 0,.sl Y3 specs,.agg [.ii c.1,.ii c.2.1,.ii c.2.2.1,.ii c.2.2.2.1,.ii c.2.2.2.2.1,.ii c.2.2.2.2.2]] [(1000,.box 172 [.ii r.2.1,.ii r.2.2,.int .u64 s.2])] (.bool r.1):=by
 unfold G0 at h;refine zH Tryz.func91 [.tmp 6] 21 ?_;refine zo ?_;refine zB [(0,.bp 1000 0),(1,.sl Y3 specs),(5,.bp 5 0)] [(5,.box 62 [.ii c.1,.ii c.2.1,.ii c.2.2.1,.ii c.2.2.2.1,.ii c.2.2.2.2.1,.ii c.2.2.2.2.2]),(1000,.box 172 [.ii s.1.1,.ii s.1.2,.int .u64 s.2])] ?_;refine zo ?_;refine zS 3 [(5,.bp 5 0),(8,.bp 1000 0),(9,.sl Y3 specs),(10,.agg [.ii c.1,.ii c.2.1,.ii c.2.2.1,.ii c.2.2.2.1,.ii c.2.2.2.2.1,.ii c.2.2.2.2.2])] [(5,.box 62 [.ii c.1,.ii c.2.1,.ii c.2.2.1,.ii c.2.2.2.1,.ii c.2.2.2.2.1,.ii c.2.2.2.2.2]),(1000,.box 172 [.ii s.1.1,.ii s.1.2,.int .u64 s.2])] ?_;obtain ⟨v0,hv1,h⟩:=zw h;refine zC [] [(1000,1000)] (a2H specs c s hv1) [(5,.bp 5 0),(11,.ii v0.1)] [(5,.box 62 [.ii c.1,.ii c.2.1,.ii c.2.2.1,.ii c.2.2.2.1,.ii c.2.2.2.2.1,.ii c.2.2.2.2.2]),(1000,.box 172 [.ii v0.2.1,.ii v0.2.2,.int .u64 s.2])] ?_;refine zB [(5,.bp 5 0),(7,.ii v0.1)] [(5,.box 62 [.ii c.1,.ii c.2.1,.ii c.2.2.1,.ii c.2.2.2.1,.ii c.2.2.2.2.1,.ii c.2.2.2.2.2]),(1000,.box 172 [.ii v0.2.1,.ii v0.2.2,.int .u64 s.2])] ?_;refine zo ?_;refine zS 4 [(5,.bp 5 0),(7,.ii v0.1),(15,.bool (decide (c.2.2.2.2.2=0)))] [(5,.box 62 [.ii c.1,.ii c.2.1,.ii c.2.2.1,.ii c.2.2.2.1,.ii c.2.2.2.2.1,.ii c.2.2.2.2.2]),(1000,.box 172 [.ii v0.2.1,.ii v0.2.2,.int .u64 s.2])] ?_;rcases zI h with ⟨hb2,h⟩|⟨hb2,h⟩
 ·refine zS 4 [(15,.bool true),(19,.cv (undef))] [(1000,.box 172 [.ii v0.2.1,.ii v0.2.2,.int .u64 s.2])] ?_;refine zB [(6,.bool true)] [(1000,.box 172 [.ii v0.2.1,.ii v0.2.2,.int .u64 s.2])] ?_;refine AW.ret ?_;obtain rfl:=zj h;exact zR [] [] []
 refine zS 5 [(20,.bool (decide (v0.1=c.2.2.2.1)))] [(1000,.box 172 [.ii v0.2.1,.ii v0.2.2,.int .u64 s.2])] ?_;refine zB [(6,.bool (decide (v0.1=c.2.2.2.1)))] [(1000,.box 172 [.ii v0.2.1,.ii v0.2.2,.int .u64 s.2])] ?_;refine AW.ret ?_;obtain rfl:=zj h;exact zR [] [] []
theorem X2 {S R:Type} (a1:ZS) (a1_2:ZH) (a2:(Int×Int)×Int) (yl:Int×((Int×Int)×Int)→S→Option (Step S R)) (s0:S) {r:Sum S R} (h:D0 S R a1 a1_2 a2 yl s0=some r):IC Tryz.prog 168 [(1000,.box 168 [.sl Y3 a1,.sl Y0 a1_2,.fn (.func 55) [] [],.one]),(1001,.box 172 [.ii a2.1.1,.ii a2.1.2,.int .u64 a2.2])] [] [.bp 1000 0,.bp 1001 0] (fun (y:Int×((Int×Int)×Int))=>[.ii y.1,.agg [.ii y.2.1.1,.ii y.2.1.2,.int .u64 y.2.2]]) yl s0 r:=by
 unfold D0 at h;refine IC.of_body Tryz.func168 rfl (by kernel_rfl) rfl (nt:=41) rfl (by decide) (by simp) ?_;intro Γ Γx lp hΓ hΓx hY;refine zo ?_;refine zB [(0,.fn (.yield lp) [] []),(1,.bp 1000 0),(2,.bp 1001 0),(8,.sl Y0 a1_2),(9,.ii (a1_2.length:Int)),(10,.ii 0)] [(1000,.box 168 [.sl Y3 a1,.sl Y0 a1_2,.fn (.func 55) [] [],.one]),(1001,.box 172 [.ii a2.1.1,.ii a2.1.2,.int .u64 a2.2])] ?_;refine AW.block ?_;obtain ⟨rv5,hw1,ho2⟩:=zw h;refine AW.loopO (s4 S R a1 a1_2 a2 yl) (fun st1=>⟨fr [(0,.fn (.yield lp) [] []),(1,.bp 1000 0),(2,.bp 1001 0),(8,.sl Y0 a1_2),(9,.ii (a1_2.length:Int)),(10,.ii st1.1)],b6 [(1000,.box 168 [.sl Y3 a1,.sl Y0 a1_2,.fn (.func 55) [] [],.one]),(1001,.box 172 [.ii a2.1.1,.ii a2.1.2,.int .u64 a2.2])],(Γ st1.2)⟩) (0,s0) hw1 (zL [] [] []) ?_
 as_aux_lemma =>
  intro st1 x4 h hd3;unfold s4 at h;refine zo ?_;refine zB [(0,.fn (.yield lp) [] []),(1,.bp 1000 0),(2,.bp 1001 0),(8,.sl Y0 a1_2),(9,.ii (a1_2.length:Int)),(10,.ii st1.1),(11,.bool (decide (st1.1<(a1_2.length:Int))))] [(1000,.box 168 [.sl Y3 a1,.sl Y0 a1_2,.fn (.func 55) [] [],.one]),(1001,.box 172 [.ii a2.1.1,.ii a2.1.2,.int .u64 a2.2])] ?_;refine AW.seq ?_;refine zQ h (fun hb6 h=>?_) (fun hb6 h=>?_)
  ·refine zk ?_;refine AW.seq ?_;refine AW.block ?_;refine zo ?_;obtain ⟨c7,h⟩:=b4.1 h;obtain ⟨c8,h⟩:=b4.1 h;refine zS 5 [(0,.fn (.yield lp) [] []),(1,.bp 1000 0),(2,.bp 1001 0),(4,.ii st1.1),(5,.bp 5 0),(8,.sl Y0 a1_2),(9,.ii (a1_2.length:Int)),(10,.ii st1.1),(14,.agg [.ii (a1_2.getD st1.1.toNat (0,0,0,0,0,0)).1,.ii (a1_2.getD st1.1.toNat (0,0,0,0,0,0)).2.1,.ii (a1_2.getD st1.1.toNat (0,0,0,0,0,0)).2.2.1,.ii (a1_2.getD st1.1.toNat (0,0,0,0,0,0)).2.2.2.1,.ii (a1_2.getD st1.1.toNat (0,0,0,0,0,0)).2.2.2.2.1,.ii (a1_2.getD st1.1.toNat (0,0,0,0,0,0)).2.2.2.2.2])] [(5,.box 62 [.ii 0,.ii 0,.ii 0,.ii 0,.ii 0,.ii 0]),(1000,.box 168 [.sl Y3 a1,.sl Y0 a1_2,.fn (.func 55) [] [],.one]),(1001,.box 172 [.ii a2.1.1,.ii a2.1.2,.int .u64 a2.2])] ?_;refine zB [(0,.fn (.yield lp) [] []),(1,.bp 1000 0),(2,.bp 1001 0),(4,.ii st1.1),(5,.bp 5 0),(8,.sl Y0 a1_2),(9,.ii (a1_2.length:Int)),(10,.ii st1.1)] [(5,.box 62 [.ii (a1_2.getD st1.1.toNat (0,0,0,0,0,0)).1,.ii (a1_2.getD st1.1.toNat (0,0,0,0,0,0)).2.1,.ii (a1_2.getD st1.1.toNat (0,0,0,0,0,0)).2.2.1,.ii (a1_2.getD st1.1.toNat (0,0,0,0,0,0)).2.2.2.1,.ii (a1_2.getD st1.1.toNat (0,0,0,0,0,0)).2.2.2.2.1,.ii (a1_2.getD st1.1.toNat (0,0,0,0,0,0)).2.2.2.2.2]),(1000,.box 168 [.sl Y3 a1,.sl Y0 a1_2,.fn (.func 55) [] [],.one]),(1001,.box 172 [.ii a2.1.1,.ii a2.1.2,.int .u64 a2.2])] ?_;refine zo ?_;refine zB [(0,.fn (.yield lp) [] []),(1,.bp 1000 0),(2,.bp 1001 0),(4,.ii st1.1),(5,.bp 5 0),(6,.bp 6 0),(8,.sl Y0 a1_2),(9,.ii (a1_2.length:Int)),(10,.ii st1.1)] [(5,.box 62 [.ii (a1_2.getD st1.1.toNat (0,0,0,0,0,0)).1,.ii (a1_2.getD st1.1.toNat (0,0,0,0,0,0)).2.1,.ii (a1_2.getD st1.1.toNat (0,0,0,0,0,0)).2.2.1,.ii (a1_2.getD st1.1.toNat (0,0,0,0,0,0)).2.2.2.1,.ii (a1_2.getD st1.1.toNat (0,0,0,0,0,0)).2.2.2.2.1,.ii (a1_2.getD st1.1.toNat (0,0,0,0,0,0)).2.2.2.2.2]),(6,.box 172 [.ii a2.1.1,.ii a2.1.2,.int .u64 a2.2]),(1000,.box 168 [.sl Y3 a1,.sl Y0 a1_2,.fn (.func 55) [] [],.one]),(1001,.box 172 [.ii a2.1.1,.ii a2.1.2,.int .u64 a2.2])] ?_;refine AW.seq ?_;refine zo ?_;refine zS 3 [(0,.fn (.yield lp) [] []),(1,.bp 1000 0),(2,.bp 1001 0),(4,.ii st1.1),(5,.bp 5 0),(6,.bp 6 0),(8,.sl Y0 a1_2),(9,.ii (a1_2.length:Int)),(10,.ii st1.1),(16,.agg [.sl Y3 a1,.sl Y0 a1_2,.fn (.func 55) [] [],.one]),(17,.agg [.ii a2.1.1,.ii a2.1.2,.int .u64 a2.2]),(18,.ii st1.1)] [(5,.box 62 [.ii (a1_2.getD st1.1.toNat (0,0,0,0,0,0)).1,.ii (a1_2.getD st1.1.toNat (0,0,0,0,0,0)).2.1,.ii (a1_2.getD st1.1.toNat (0,0,0,0,0,0)).2.2.1,.ii (a1_2.getD st1.1.toNat (0,0,0,0,0,0)).2.2.2.1,.ii (a1_2.getD st1.1.toNat (0,0,0,0,0,0)).2.2.2.2.1,.ii (a1_2.getD st1.1.toNat (0,0,0,0,0,0)).2.2.2.2.2]),(6,.box 172 [.ii a2.1.1,.ii a2.1.2,.int .u64 a2.2]),(1000,.box 168 [.sl Y3 a1,.sl Y0 a1_2,.fn (.func 55) [] [],.one]),(1001,.box 172 [.ii a2.1.1,.ii a2.1.2,.int .u64 a2.2])] ?_;obtain ⟨v0,hv9,h⟩:=zw h;refine zC [] [] (a26 a1 a1_2 a2 st1.1 hv9) [(0,.fn (.yield lp) [] []),(1,.bp 1000 0),(2,.bp 1001 0),(4,.ii st1.1),(5,.bp 5 0),(6,.bp 6 0),(8,.sl Y0 a1_2),(9,.ii (a1_2.length:Int)),(10,.ii st1.1),(19,.bool v0)] [(5,.box 62 [.ii (a1_2.getD st1.1.toNat (0,0,0,0,0,0)).1,.ii (a1_2.getD st1.1.toNat (0,0,0,0,0,0)).2.1,.ii (a1_2.getD st1.1.toNat (0,0,0,0,0,0)).2.2.1,.ii (a1_2.getD st1.1.toNat (0,0,0,0,0,0)).2.2.2.1,.ii (a1_2.getD st1.1.toNat (0,0,0,0,0,0)).2.2.2.2.1,.ii (a1_2.getD st1.1.toNat (0,0,0,0,0,0)).2.2.2.2.2]),(6,.box 172 [.ii a2.1.1,.ii a2.1.2,.int .u64 a2.2]),(1000,.box 168 [.sl Y3 a1,.sl Y0 a1_2,.fn (.func 55) [] [],.one]),(1001,.box 172 [.ii a2.1.1,.ii a2.1.2,.int .u64 a2.2])] ?_;refine zS 2 [(0,.fn (.yield lp) [] []),(1,.bp 1000 0),(2,.bp 1001 0),(4,.ii st1.1),(5,.bp 5 0),(6,.bp 6 0),(8,.sl Y0 a1_2),(9,.ii (a1_2.length:Int)),(10,.ii st1.1),(21,.bool (!v0))] [(5,.box 62 [.ii (a1_2.getD st1.1.toNat (0,0,0,0,0,0)).1,.ii (a1_2.getD st1.1.toNat (0,0,0,0,0,0)).2.1,.ii (a1_2.getD st1.1.toNat (0,0,0,0,0,0)).2.2.1,.ii (a1_2.getD st1.1.toNat (0,0,0,0,0,0)).2.2.2.1,.ii (a1_2.getD st1.1.toNat (0,0,0,0,0,0)).2.2.2.2.1,.ii (a1_2.getD st1.1.toNat (0,0,0,0,0,0)).2.2.2.2.2]),(6,.box 172 [.ii a2.1.1,.ii a2.1.2,.int .u64 a2.2]),(1000,.box 168 [.sl Y3 a1,.sl Y0 a1_2,.fn (.func 55) [] [],.one]),(1001,.box 172 [.ii a2.1.1,.ii a2.1.2,.int .u64 a2.2])] ?_;rcases zI h with ⟨hb10,h⟩|⟨hb10,h⟩
   ·refine zS 4 [(0,.fn (.yield lp) [] []),(1,.bp 1000 0),(2,.bp 1001 0),(4,.ii st1.1),(6,.bp 6 0),(8,.sl Y0 a1_2),(9,.ii (a1_2.length:Int)),(10,.ii st1.1),(21,.bool true),(22,.cv (undef)),(24,.cv (undef)),(25,.cv (undef))] [(6,.box 172 [.ii a2.1.1,.ii a2.1.2,.int .u64 a2.2]),(1000,.box 168 [.sl Y3 a1,.sl Y0 a1_2,.fn (.func 55) [] [],.one]),(1001,.box 172 [.ii a2.1.1,.ii a2.1.2,.int .u64 a2.2])] ?_;refine zB [(0,.fn (.yield lp) [] []),(1,.bp 1000 0),(2,.bp 1001 0),(4,.ii st1.1),(6,.bp 6 0),(8,.sl Y0 a1_2),(9,.ii (a1_2.length:Int)),(10,.ii st1.1),(28,.bool true)] [(6,.box 172 [.ii a2.1.1,.ii a2.1.2,.int .u64 a2.2]),(1000,.box 168 [.sl Y3 a1,.sl Y0 a1_2,.fn (.func 55) [] [],.one]),(1001,.box 172 [.ii a2.1.1,.ii a2.1.2,.int .u64 a2.2])] ?_;refine AW.cond (b:=true) rfl (fun _=>?_) (fun hb11=>by cases hb11);refine AW.exit ?_;refine g4 ?_;refine j5 ?_;refine f7 ?_;refine AW.ops ?_;obtain ⟨c12,h⟩:=b4.1 h;refine zA [(0,.fn (.yield lp) [] []),(1,.bp 1000 0),(2,.bp 1001 0),(8,.sl Y0 a1_2),(9,.ii (a1_2.length:Int)),(10,.ii (st1.1+1))] [(1000,.box 168 [.sl Y3 a1,.sl Y0 a1_2,.fn (.func 55) [] [],.one]),(1001,.box 172 [.ii a2.1.1,.ii a2.1.2,.int .u64 a2.2])] ?_;obtain rfl:=zj h;exact ⟨_,rfl,zL [] [] []⟩
   refine zS 4 [(0,.fn (.yield lp) [] []),(1,.bp 1000 0),(2,.bp 1001 0),(4,.ii st1.1),(6,.bp 6 0),(8,.sl Y0 a1_2),(9,.ii (a1_2.length:Int)),(10,.ii st1.1),(21,.bool false),(22,.bp 6 0),(24,.sl Y3 a1),(25,.agg [.ii (a1_2.getD st1.1.toNat (0,0,0,0,0,0)).1,.ii (a1_2.getD st1.1.toNat (0,0,0,0,0,0)).2.1,.ii (a1_2.getD st1.1.toNat (0,0,0,0,0,0)).2.2.1,.ii (a1_2.getD st1.1.toNat (0,0,0,0,0,0)).2.2.2.1,.ii (a1_2.getD st1.1.toNat (0,0,0,0,0,0)).2.2.2.2.1,.ii (a1_2.getD st1.1.toNat (0,0,0,0,0,0)).2.2.2.2.2])] [(6,.box 172 [.ii a2.1.1,.ii a2.1.2,.int .u64 a2.2]),(1000,.box 168 [.sl Y3 a1,.sl Y0 a1_2,.fn (.func 55) [] [],.one]),(1001,.box 172 [.ii a2.1.1,.ii a2.1.2,.int .u64 a2.2])] ?_;obtain ⟨v0_2,hv13,h⟩:=zw h;refine zG [] [(1000,6)] (a24 a1 (a1_2.getD st1.1.toNat (0,0,0,0,0,0)) a2 hv13) [(0,.fn (.yield lp) [] []),(1,.bp 1000 0),(2,.bp 1001 0),(4,.ii st1.1),(6,.bp 6 0),(8,.sl Y0 a1_2),(9,.ii (a1_2.length:Int)),(10,.ii st1.1),(21,.bool false),(26,.bool v0_2.1)] [(6,.box 172 [.ii v0_2.2.1,.ii v0_2.2.2,.int .u64 a2.2]),(1000,.box 168 [.sl Y3 a1,.sl Y0 a1_2,.fn (.func 55) [] [],.one]),(1001,.box 172 [.ii a2.1.1,.ii a2.1.2,.int .u64 a2.2])] ?_;refine zB [(0,.fn (.yield lp) [] []),(1,.bp 1000 0),(2,.bp 1001 0),(4,.ii st1.1),(6,.bp 6 0),(8,.sl Y0 a1_2),(9,.ii (a1_2.length:Int)),(10,.ii st1.1),(28,.bool (!v0_2.1))] [(6,.box 172 [.ii v0_2.2.1,.ii v0_2.2.2,.int .u64 a2.2]),(1000,.box 168 [.sl Y3 a1,.sl Y0 a1_2,.fn (.func 55) [] [],.one]),(1001,.box 172 [.ii a2.1.1,.ii a2.1.2,.int .u64 a2.2])] ?_;refine zQ h (fun hb14 h=>?_) (fun hb14 h=>?_)
   ·refine AW.exit ?_;refine g4 ?_;refine j5 ?_;refine f7 ?_;refine AW.ops ?_;obtain ⟨c15,h⟩:=b4.1 h;refine zA [(0,.fn (.yield lp) [] []),(1,.bp 1000 0),(2,.bp 1001 0),(8,.sl Y0 a1_2),(9,.ii (a1_2.length:Int)),(10,.ii (st1.1+1))] [(1000,.box 168 [.sl Y3 a1,.sl Y0 a1_2,.fn (.func 55) [] [],.one]),(1001,.box 172 [.ii a2.1.1,.ii a2.1.2,.int .u64 a2.2])] ?_;obtain rfl:=zj h;exact ⟨_,rfl,zL [] [] []⟩
   refine zk ?_;refine AW.seq ?_;refine AW.draw m7 l7 [(6,[6])] [] (by decide) (by kernel_rfl) ?_
   as_aux_lemma =>
    obtain ⟨c17,h⟩:=b4.1 h;refine d7 6 (fun K' hK16=>?_)
    try dsimp only [y1,y2,y3,y4]
    simp only [go_sem,hb6,hb10,hb14]
    repeat with_reducible refine zN ?_
    refine hK16 _ ?_
    as_aux_lemma =>
     refine d7 1 (fun K' hK18=>?_)
     try dsimp only [y1,y2,y3,y4]
     simp only [go_sem,hb6,hb10,hb14]
     repeat with_reducible refine zN ?_
     refine hK18 _ ?_;refine g8 ?_;refine f7 ?_;refine zV [(0,.fn (.yield lp) [] []),(1,.bp 1000 0),(2,.bp 1001 0),(4,.ii st1.1),(6,.bp 6 0),(8,.sl Y0 a1_2),(9,.ii (a1_2.length:Int)),(10,.ii st1.1)] [(6,.box 172 [.ii v0_2.2.1,.ii v0_2.2.2,.int .u64 (ior .u64 a2.2 (a2C .u64 1 st1.1))]),(1000,.box 168 [.sl Y3 a1,.sl Y0 a1_2,.fn (.func 55) [] [],.one]),(1001,.box 172 [.ii a2.1.1,.ii a2.1.2,.int .u64 a2.2])] (Γ st1.2) ?_
     as_aux_lemma =>
      refine zo ?_;refine zS 3 [(0,.fn (.yield lp) [] []),(1,.bp 1000 0),(2,.bp 1001 0),(8,.sl Y0 a1_2),(9,.ii (a1_2.length:Int)),(10,.ii st1.1),(35,.fn (.yield lp) [] []),(36,.ii st1.1),(37,.agg [.ii v0_2.2.1,.ii v0_2.2.2,.int .u64 (ior .u64 a2.2 (a2C .u64 1 st1.1))])] [(1000,.box 168 [.sl Y3 a1,.sl Y0 a1_2,.fn (.func 55) [] [],.one]),(1001,.box 172 [.ii a2.1.1,.ii a2.1.2,.int .u64 a2.2])] ?_;obtain ⟨x19,hx20,h⟩:=zw h;refine a30 rfl rfl rfl (by decide) _ rfl hY hΓ hΓx (st1.1,v0_2.2,(ior .u64 a2.2 (a2C .u64 1 st1.1))) [] (by (simp only [go_sem,hb6,hb10,hb14])<;>(with_reducible and_intros)<;>first|assumption|rfl|omega|(unfold maxLen; omega)) hx20 ?_
      cases x19 with
      | next s =>
       try simp only at h
       refine zT [(0,.fn (.yield lp) [] []),(1,.bp 1000 0),(2,.bp 1001 0),(8,.sl Y0 a1_2),(9,.ii (a1_2.length:Int)),(10,.ii st1.1),(38,.bool true)] [(1000,.box 168 [.sl Y3 a1,.sl Y0 a1_2,.fn (.func 55) [] [],.one]),(1001,.box 172 [.ii a2.1.1,.ii a2.1.2,.int .u64 a2.2])] (Γ s) ?_;refine zB [(0,.fn (.yield lp) [] []),(1,.bp 1000 0),(2,.bp 1001 0),(8,.sl Y0 a1_2),(9,.ii (a1_2.length:Int)),(10,.ii st1.1),(39,.bool false)] [(1000,.box 168 [.sl Y3 a1,.sl Y0 a1_2,.fn (.func 55) [] [],.one]),(1001,.box 172 [.ii a2.1.1,.ii a2.1.2,.int .u64 a2.2])] ?_;refine AW.cond (b:=false) rfl (fun hb21=>by cases hb21) (fun _=>?_);refine zm ?_;refine f7 ?_;refine AW.ops ?_;obtain ⟨c22,h⟩:=b4.1 h;refine zA [(0,.fn (.yield lp) [] []),(1,.bp 1000 0),(2,.bp 1001 0),(8,.sl Y0 a1_2),(9,.ii (a1_2.length:Int)),(10,.ii (st1.1+1))] [(1000,.box 168 [.sl Y3 a1,.sl Y0 a1_2,.fn (.func 55) [] [],.one]),(1001,.box 172 [.ii a2.1.1,.ii a2.1.2,.int .u64 a2.2])] ?_;obtain rfl:=zj h;exact ⟨_,rfl,zL [] [] []⟩
      | done e =>
       try simp only at h
       refine zT [(0,.fn (.yield lp) [] []),(1,.bp 1000 0),(2,.bp 1001 0),(8,.sl Y0 a1_2),(9,.ii (a1_2.length:Int)),(10,.ii st1.1),(38,.bool false)] [(1000,.box 168 [.sl Y3 a1,.sl Y0 a1_2,.fn (.func 55) [] [],.one]),(1001,.box 172 [.ii a2.1.1,.ii a2.1.2,.int .u64 a2.2])] (Γx e) ?_;refine zB [(0,.fn (.yield lp) [] []),(1,.bp 1000 0),(2,.bp 1001 0),(8,.sl Y0 a1_2),(9,.ii (a1_2.length:Int)),(10,.ii st1.1),(39,.bool true)] [(1000,.box 168 [.sl Y3 a1,.sl Y0 a1_2,.fn (.func 55) [] [],.one]),(1001,.box 172 [.ii a2.1.1,.ii a2.1.2,.int .u64 a2.2])] ?_;refine AW.cond (b:=true) rfl (fun _=>?_) (fun hb23=>by cases hb23);refine AW.ret ?_;refine d5 ?_;refine b9 ?_;obtain rfl:=zj h;rw [← hd3 _ rfl] at ho2;have h:=ho2
       try simp only at h
       refine b9 ?_;refine d5 ?_;obtain rfl:=zj h;exact rfl
  refine AW.exit ?_;refine g4 ?_;obtain rfl:=zj h;rw [← hd3 _ rfl] at ho2;have h:=ho2
  try simp only at h
  refine g4 ?_;refine j5 ?_;obtain rfl:=zj h;exact rfl
end Go.Proofs.YtanaeefeggokkaaGreat
