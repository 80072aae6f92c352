import Derived.Test.YtenchhmcjmjlbaaCkp
import Derived.Test.YtenchhmcjmjlbaaShk
import Derived.Test.YtenchhmcjmjlbaaAvd
import Derived.Test.YtenchhmcjmjlbaaCec1
import Derived.Test.YtenchhmcjmjlbaaCec2
import Derived.Test.YtenchhmcjmjlbaaCec7
import Derived.Test.YtenchhmcjmjlbaaCec8
import Derived.Test.YtenchhmcjmjlbaaCec9
namespace Go.Proofs.Ytenchhmcjmjlbaa
open Go.RowKit
set_option linter.unusedSimpArgs false
set_option linter.unusedVariables false
set_option linter.constructorNameAsVariable false
set_option maxRecDepth 100000
set_option maxHeartbeats 40000000
theorem a3y (c:List (List (Int×Int×Int×Int))) (use:List (List Int)) (steps:Int) {r:Sum Int Unit} (h:T1 c use steps=some r):HC Try.prog 60 [] [.sl (.sl Y4) c,.sl (.sl .i) use,.ii steps] (match r with|.inl r=>[]|.inr r=>[(2000,.box 77 [.sl (.sl Y4) c,.sl (.sl .i) use]),(2001,.box 3 [.ii steps])]) ((match r with|.inl r=>.tup [.cv (.nilFunc),.ii r]|.inr r=>.tup [.fn (.func 133) [] [.bp 2000 0,.bp 2001 0],.ii 0])):=by
 unfold T1 at h
 refine zH Try.func60 [.tmp 6,.tmp 7] 23 ?_
 refine zo ?_
 refine zB [(0,.sl (.sl Y4) c),(1,.sl (.sl .i) use),(2,.ii steps)] [] ?_
 refine AW.seq ?_
 refine zo ?_
 refine zS 2 [(0,.sl (.sl Y4) c),(1,.sl (.sl .i) use),(2,.ii steps),(9,.sl (.sl Y4) c),(10,.sl (.sl .i) use)] [] ?_
 obtain ⟨v0,hv1,h⟩:=zw h
 refine zC [] [] (a2o c use hv1) [(0,.sl (.sl Y4) c),(1,.sl (.sl .i) use),(2,.ii steps),(11,.ii v0)] [] ?_
 refine zB [(0,.sl (.sl Y4) c),(1,.sl (.sl .i) use),(2,.ii steps),(8,.ii v0)] [] ?_
 refine zo ?_
 refine zB [(0,.sl (.sl Y4) c),(1,.sl (.sl .i) use),(2,.ii steps),(8,.ii v0),(13,.bool (!(decide (v0=0))))] [] ?_
 refine zQ h (fun hb2 h=>?_) (fun hb2 h=>?_)
 ·refine zo ?_
  refine zB [(6,.cv (.nilFunc)),(7,.ii v0)] [] ?_
  refine zr ?_
  obtain rfl:=zj h
  exact zR [] [] []
 refine zk ?_
 refine AW.seq ?_
 refine zo ?_
 refine zS 1 [(0,.sl (.sl Y4) c),(1,.sl (.sl .i) use),(2,.ii steps),(15,.ii steps)] [] ?_
 obtain ⟨v0_2,hv3,h⟩:=zw h
 refine zC [] [] (H3 steps 13 hv3) [(0,.sl (.sl Y4) c),(1,.sl (.sl .i) use),(2,.ii steps),(16,.bool v0_2)] [] ?_
 refine zB [(0,.sl (.sl Y4) c),(1,.sl (.sl .i) use),(2,.ii steps),(17,.bool (!v0_2))] [] ?_
 refine zQ h (fun hb4 h=>?_) (fun hb4 h=>?_)
 ·refine zo ?_
  refine zB [(6,.cv (.nilFunc)),(7,.ii 2)] [] ?_
  refine zr ?_
  obtain rfl:=zj h
  exact zR [] [] []
 refine zk ?_
 refine zo ?_
 refine zS 4 [(20,.agg [.sl (.sl Y4) c,.sl (.sl .i) use]),(21,.ii steps)] [] ?_
 obtain ⟨v0_3,hv5,h⟩:=zw h
 refine zC [] [] (a3z (c,use) steps hv5) [(22,.fn (.func 133) [] [.bp 32000 0,.bp 32001 0])] [(32000,.box 77 [.sl (.sl Y4) c,.sl (.sl .i) use]),(32001,.box 3 [.ii steps])] ?_
 refine zB [(6,.fn (.func 133) [] [.bp 32000 0,.bp 32001 0]),(7,.ii 0)] [(32000,.box 77 [.sl (.sl Y4) c,.sl (.sl .i) use]),(32001,.box 3 [.ii steps])] ?_
 refine AW.ret ?_
 obtain rfl:=zj h
 exact zR [] [] [(2000,32000),(2001,32001)]
theorem a49 (c:List (List (Int×Int×Int×Int))) (use:List (List Int)) (steps:Int) {r:Int} (h:T1 c use steps=some (Sum.inl r)):HC Try.prog 60 [] [.sl (.sl Y4) c,.sl (.sl .i) use,.ii steps] [] (.tup [.cv (.nilFunc),.ii r]):=a3y c use steps h
theorem a48 (c:List (List (Int×Int×Int×Int))) (use:List (List Int)) (steps:Int) {r:Unit} (h:T1 c use steps=some (Sum.inr r)):HC Try.prog 60 [] [.sl (.sl Y4) c,.sl (.sl .i) use,.ii steps] [(2000,.box 77 [.sl (.sl Y4) c,.sl (.sl .i) use]),(2001,.box 3 [.ii steps])] (.tup [.fn (.func 133) [] [.bp 2000 0,.bp 2001 0],.ii 0]):=a3y c use steps h
theorem a27 (specs:ZS) {r:Int} (h:K6 specs=some r):HC Try.prog 138 [] [.sl Y3 specs] [] (.ii r):=by
 unfold K6 at h
 refine zH Try.func138 [.tmp 2] 19 ?_
 refine zo ?_
 refine zB [(0,.sl Y3 specs)] [] ?_
 refine AW.seq ?_
 refine zo ?_
 refine zS 2 [(0,.sl Y3 specs),(6,.ii (specs.length:Int))] [] ?_
 obtain ⟨v0,hv1,h⟩:=zw h
 refine zC [] [] (G9 (specs.length:Int) 1 2 hv1) [(0,.sl Y3 specs),(7,.bool v0)] [] ?_
 refine zB [(0,.sl Y3 specs),(8,.bool (!v0))] [] ?_
 refine zQ h (fun hb2 h=>?_) (fun hb2 h=>?_)
 ·refine zo ?_
  refine zB [(2,.ii 10)] [] ?_
  refine zr ?_
  obtain rfl:=zj h
  exact zR [] [] []
 refine zk ?_
 refine AW.have1 (fun _:Unit=>R5=some r) (fun _=>⟨fr [],b6 [],gt⟩) (fun _ h=>?_) (fun hk_history_checkSpecs_k1=>?_)
 ·as_aux_lemma =>
   unfold R5 at h
   refine zo ?_
   refine zB [(2,.ii 0)] [] ?_
   refine AW.ret ?_
   obtain rfl:=zj h
   exact zR [] [] []
 refine AW.seq ?_
 refine zo ?_
 refine zB [(9,.sl Y3 specs),(10,.ii (specs.length:Int)),(11,.ii 0)] [] ?_
 refine AW.block ?_
 obtain ⟨rv7,hw3,ho4⟩:=zw h
 refine AW.loopO (y6 specs) (fun st1=>⟨fr [(9,.sl Y3 specs),(10,.ii (specs.length:Int)),(11,.ii st1)],b6 [],gt⟩) 0 hw3 (zL [] [] []) ?_
 as_aux_lemma =>
  intro st1 x6 h hd5
  unfold y6 at h
  refine zo ?_
  refine zB [(9,.sl Y3 specs),(10,.ii (specs.length:Int)),(11,.ii st1),(12,.bool (decide (st1<(specs.length:Int))))] [] ?_
  refine AW.seq ?_
  refine zQ h (fun hb8 h=>?_) (fun hb8 h=>?_)
  ·refine zk ?_
   refine AW.seq ?_
   refine AW.block ?_
   refine zo ?_
   obtain ⟨c9,h⟩:=b5.1 h
   obtain ⟨c10,h⟩:=b5.1 h
   refine zB [(4,.bp 4 0),(9,.sl Y3 specs),(10,.ii (specs.length:Int)),(11,.ii st1)] [(4,.box 24 [.ii (specs.getD st1.toNat (0,0,[],[])).1,.ii (specs.getD st1.toNat (0,0,[],[])).2.1,.sl (.sl .i) (specs.getD st1.toNat (0,0,[],[])).2.2.1,.sl (.sl .i) (specs.getD st1.toNat (0,0,[],[])).2.2.2])] ?_
   refine zo ?_
   refine zS 1 [(9,.sl Y3 specs),(10,.ii (specs.length:Int)),(11,.ii st1),(15,.agg [.ii (specs.getD st1.toNat (0,0,[],[])).1,.ii (specs.getD st1.toNat (0,0,[],[])).2.1,.sl (.sl .i) (specs.getD st1.toNat (0,0,[],[])).2.2.1,.sl (.sl .i) (specs.getD st1.toNat (0,0,[],[])).2.2.2])] [] ?_
   obtain ⟨v0_2,hv11,h⟩:=zw h
   refine zC [] [] (a4c (specs.getD st1.toNat (0,0,[],[])) hv11) [(9,.sl Y3 specs),(10,.ii (specs.length:Int)),(11,.ii st1),(16,.bool v0_2)] [] ?_
   refine zB [(9,.sl Y3 specs),(10,.ii (specs.length:Int)),(11,.ii st1),(17,.bool (!v0_2))] [] ?_
   refine zQ h (fun hb12 h=>?_) (fun hb12 h=>?_)
   ·refine zo ?_
    refine zB [(2,.ii 10)] [] ?_
    refine AW.ret ?_
    refine d7 ?_
    refine b9 ?_
    obtain rfl:=zj h
    try rw [← hd5 _ rfl] at ho4
    have h:=ho4
    try simp only at h
    refine b9 ?_
    refine d7 ?_
    refine b9 ?_
    obtain rfl:=zj h
    exact zR [] [] []
   refine zm ?_
   refine g5 ?_
   refine AW.ops ?_
   obtain ⟨c13,h⟩:=b5.1 h
   refine zA [(9,.sl Y3 specs),(10,.ii (specs.length:Int)),(11,.ii (st1+1))] [] ?_
   obtain rfl:=zj h
   exact ⟨_,rfl,zL [] [] []⟩
  refine AW.exit ?_
  refine i6 ?_
  obtain rfl:=zj h
  try rw [← hd5 _ rfl] at ho4
  have h:=ho4
  try simp only at h
  refine i6 ?_
  refine m7 ?_
  refine g5 ?_
  exact AW.weaken (zL [] [] []) (hk_history_checkSpecs_k1 () h)
theorem a6A (specs:ZS) (h0:ZH) {r:Bool} (h:Y9 specs h0=some r):HC Try.prog 140 [] [.sl Y3 specs,.sl Y0 h0] [] (.bool r):=by
 unfold Y9 at h
 refine zH Try.func140 [.tmp 4] 30 ?_
 refine zo ?_
 refine zB [(0,.sl Y3 specs),(1,.sl Y0 h0)] [] ?_
 refine AW.have1 (fun _:Unit=>a0N=some r) (fun _=>⟨fr [],b6 [],gt⟩) (fun _ h=>?_) (fun hk_history_fits_k1=>?_)
 ·as_aux_lemma =>
   unfold a0N at h
   refine zo ?_
   refine zB [(4,.bool true)] [] ?_
   refine AW.ret ?_
   obtain rfl:=zj h
   exact zR [] [] []
 refine AW.seq ?_
 refine zo ?_
 refine zB [(0,.sl Y3 specs),(7,.sl Y0 h0),(8,.ii (h0.length:Int)),(9,.ii 0)] [] ?_
 refine AW.block ?_
 obtain ⟨rv5,hw1,ho2⟩:=zw h
 refine AW.loopO (M0 specs h0) (fun st1=>⟨fr [(0,.sl Y3 specs),(7,.sl Y0 h0),(8,.ii (h0.length:Int)),(9,.ii st1)],b6 [],gt⟩) 0 hw1 (zL [] [] []) ?_
 as_aux_lemma =>
  intro st1 x4 h hd3
  unfold M0 at h
  refine zo ?_
  refine zB [(0,.sl Y3 specs),(7,.sl Y0 h0),(8,.ii (h0.length:Int)),(9,.ii st1),(10,.bool (decide (st1<(h0.length:Int))))] [] ?_
  refine AW.seq ?_
  refine zQ h (fun hb6 h=>?_) (fun hb6 h=>?_)
  ·refine zk ?_
   refine AW.seq ?_
   refine AW.block ?_
   refine zo ?_
   obtain ⟨c7,h⟩:=b5.1 h
   obtain ⟨c8,h⟩:=b5.1 h
   refine zB [(0,.sl Y3 specs),(6,.bp 6 0),(7,.sl Y0 h0),(8,.ii (h0.length:Int)),(9,.ii st1)] [(6,.box 68 [.ii (h0.getD st1.toNat (0,0,0,0,0,0)).1,.ii (h0.getD st1.toNat (0,0,0,0,0,0)).2.1,.ii (h0.getD st1.toNat (0,0,0,0,0,0)).2.2.1,.ii (h0.getD st1.toNat (0,0,0,0,0,0)).2.2.2.1,.ii (h0.getD st1.toNat (0,0,0,0,0,0)).2.2.2.2.1,.ii (h0.getD st1.toNat (0,0,0,0,0,0)).2.2.2.2.2])] ?_
   refine AW.seq ?_
   refine AW.draw r4 p5 [] [] (by decide) (v9 (by kernel_rfl)) ?_
   as_aux_lemma =>
    refine f8 6 (fun K' hK9=>?_)
    try dsimp only [y1,y2,y3,y4]
    simp only [go_sem,hb6]
    repeat with_reducible refine zN ?_
    refine hK9 _ ?_
    as_aux_lemma =>
     rcases zI h with ⟨hb10,h⟩|⟨hb10,h⟩
     ·simp only [hb10]
      as_aux_lemma =>
       refine f8 4 (fun K' hK11=>?_)
       try dsimp only [y1,y2,y3,y4]
       simp only [go_sem,hb6,hb10]
       repeat with_reducible refine zN ?_
       refine hK11 _ ?_
       as_aux_lemma =>
        refine f8 4 (fun K' hK12=>?_)
        try dsimp only [y1,y2,y3,y4]
        simp only [go_sem,hb6,hb10]
        repeat with_reducible refine zN ?_
        refine hK12 _ ?_
        as_aux_lemma =>
         refine f8 2 (fun K' hK13=>?_)
         try dsimp only [y1,y2,y3,y4]
         simp only [go_sem,hb6,hb10]
         repeat with_reducible refine zN ?_
         refine hK13 _ ?_
         refine j8 ?_
         refine g5 ?_
         refine zV [(0,.sl Y3 specs),(7,.sl Y0 h0),(8,.ii (h0.length:Int)),(9,.ii st1),(28,.bool true)] [] gt ?_
         as_aux_lemma =>
          refine AW.cond (b:=true) rfl (fun _=>?_) (fun hb14=>by cases hb14)
          refine zo ?_
          refine zB [(4,.bool false)] [] ?_
          refine AW.ret ?_
          refine d7 ?_
          refine b9 ?_
          obtain rfl:=zj h
          try rw [← hd3 _ rfl] at ho2
          have h:=ho2
          try simp only at h
          refine b9 ?_
          refine d7 ?_
          refine b9 ?_
          obtain rfl:=zj h
          exact zR [] [] []
     simp only [hb10]
     as_aux_lemma =>
      obtain ⟨c16,h⟩:=b5.1 h
      obtain ⟨c17,h⟩:=b5.1 h
      refine f8 6 (fun K' hK15=>?_)
      try dsimp only [y1,y2,y3,y4]
      simp only [go_sem,hb6,hb10]
      repeat with_reducible refine zN ?_
      refine hK15 _ ?_
      as_aux_lemma =>
       refine f8 4 (fun K' hK18=>?_)
       try dsimp only [y1,y2,y3,y4]
       simp only [go_sem,hb6,hb10]
       repeat with_reducible refine zN ?_
       refine hK18 _ ?_
       refine j8 ?_
       refine g5 ?_
       refine zV [(0,.sl Y3 specs),(7,.sl Y0 h0),(8,.ii (h0.length:Int)),(9,.ii st1),(28,.bool (decide ((specs.getD (h0.getD st1.toNat (0,0,0,0,0,0)).2.1.toNat (0,0,[],[])).2.1≤(h0.getD st1.toNat (0,0,0,0,0,0)).2.2.1)))] [] gt ?_
       as_aux_lemma =>
        refine zQ h (fun hb19 h=>?_) (fun hb19 h=>?_)
        ·refine zo ?_
         refine zB [(4,.bool false)] [] ?_
         refine AW.ret ?_
         refine d7 ?_
         refine b9 ?_
         obtain rfl:=zj h
         try rw [← hd3 _ rfl] at ho2
         have h:=ho2
         try simp only at h
         refine b9 ?_
         refine d7 ?_
         refine b9 ?_
         obtain rfl:=zj h
         exact zR [] [] []
        refine zm ?_
        refine g5 ?_
        refine AW.ops ?_
        obtain ⟨c20,h⟩:=b5.1 h
        refine zA [(0,.sl Y3 specs),(7,.sl Y0 h0),(8,.ii (h0.length:Int)),(9,.ii (st1+1))] [] ?_
        obtain rfl:=zj h
        exact ⟨_,rfl,zL [] [] []⟩
  refine AW.exit ?_
  refine i6 ?_
  obtain rfl:=zj h
  try rw [← hd3 _ rfl] at ho2
  have h:=ho2
  try simp only at h
  refine i6 ?_
  refine m7 ?_
  refine g5 ?_
  exact AW.weaken (zL [] [] []) (hk_history_fits_k1 () h)
theorem a33 (specs:ZS) (h0:ZH) {r:Int} (h:P6 specs h0=some r):HC Try.prog 92 [] [.sl Y3 specs,.sl Y0 h0] [] (.ii r):=by
 unfold P6 at h
 refine zH Try.func92 [.tmp 4] 20 ?_
 refine zo ?_
 refine zB [(0,.sl Y3 specs),(1,.sl Y0 h0)] [] ?_
 refine AW.seq ?_
 refine zo ?_
 refine zS 1 [(0,.sl Y3 specs),(1,.sl Y0 h0),(6,.sl Y3 specs)] [] ?_
 obtain ⟨v0,hv1,h⟩:=zw h
 refine zC [] [] (a27 specs hv1) [(0,.sl Y3 specs),(1,.sl Y0 h0),(7,.ii v0)] [] ?_
 refine zB [(0,.sl Y3 specs),(1,.sl Y0 h0),(5,.ii v0)] [] ?_
 refine zo ?_
 refine zB [(0,.sl Y3 specs),(1,.sl Y0 h0),(5,.ii v0),(9,.bool (!(decide (v0=0))))] [] ?_
 refine zQ h (fun hb2 h=>?_) (fun hb2 h=>?_)
 ·refine zo ?_
  refine zB [(4,.ii v0)] [] ?_
  refine zr ?_
  obtain rfl:=zj h
  exact zR [] [] []
 refine zk ?_
 refine AW.seq ?_
 refine zo ?_
 refine zS 1 [(0,.sl Y3 specs),(1,.sl Y0 h0),(11,.sl Y0 h0)] [] ?_
 obtain ⟨v0_2,hv3,h⟩:=zw h
 refine zC [] [] (a5P h0 hv3) [(0,.sl Y3 specs),(1,.sl Y0 h0),(12,.bool v0_2)] [] ?_
 refine zS 2 [(0,.sl Y3 specs),(1,.sl Y0 h0),(14,.bool (!v0_2))] [] ?_
 rcases zI h with ⟨hb4,h⟩|⟨hb4,h⟩
 ·refine zS 4 [(14,.bool true),(18,.cv (undef))] [] ?_
  refine zB [(19,.bool true)] [] ?_
  refine AW.cond (b:=true) rfl (fun _=>?_) (fun hb5=>by cases hb5)
  refine zo ?_
  refine zB [(4,.ii 20)] [] ?_
  refine zr ?_
  obtain rfl:=zj h
  exact zR [] [] []
 refine zS 2 [(14,.bool false),(15,.sl Y3 specs),(16,.sl Y0 h0)] [] ?_
 obtain ⟨v0_3,hv6,h⟩:=zw h
 refine zG [] [] (a6A specs h0 hv6) [(14,.bool false),(17,.bool v0_3)] [] ?_
 refine zB [(19,.bool (!v0_3))] [] ?_
 refine zQ h (fun hb7 h=>?_) (fun hb7 h=>?_)
 ·refine zo ?_
  refine zB [(4,.ii 20)] [] ?_
  refine zr ?_
  obtain rfl:=zj h
  exact zR [] [] []
 refine zk ?_
 refine zo ?_
 refine zB [(4,.ii 0)] [] ?_
 refine AW.ret ?_
 obtain rfl:=zj h
 exact zR [] [] []
theorem a3x (specs:ZS) (h0:ZH) {r:Unit} (h:R8 specs h0=some r):HC Try.prog 94 [] [.sl Y3 specs,.sl Y0 h0,.fn (.func 95) [] []] [(2000,.map true false Y6 .i [])] (.agg [.sl Y3 specs,.sl Y0 h0,.fn (.func 95) [] [],.own 2000]):=by
 unfold R8 at h
 refine zH Try.func94 [.cell 6 140] 12 ?_
 refine zo ?_
 refine zB [(0,.sl Y3 specs),(1,.sl Y0 h0),(2,.fn (.func 95) [] []),(6,.bp 6 0)] [(6,.box 140 [.cv (.slice none 0 0),.cv (.slice none 0 0),.cv (.nilFunc),.cv (.map none)])] ?_
 refine zo ?_
 refine zS 3 [(6,.bp 6 0),(7,.sl Y3 specs),(8,.sl Y0 h0),(9,.fn (.func 95) [] [])] [(6,.box 140 [.cv (.slice none 0 0),.cv (.slice none 0 0),.cv (.nilFunc),.cv (.map none)])] ?_
 refine AO.makeMap (ak:=true) (ae:=false) (kt:=Y6) (vt:=.i) (by decide) (by decide) rfl rfl ?_
 refine zT [(6,.bp 6 0),(7,.sl Y3 specs),(8,.sl Y0 h0),(9,.fn (.func 95) [] []),(10,.own 10)] [(6,.box 140 [.cv (.slice none 0 0),.cv (.slice none 0 0),.cv (.nilFunc),.cv (.map none)]),(10,.map true false Y6 .i [])] gt ?_
 refine zB [(6,.bp 6 0)] [(6,.box 140 [.sl Y3 specs,.sl Y0 h0,.fn (.func 95) [] [],.own 10]),(10,.map true false Y6 .i [])] ?_
 refine AW.ret ?_
 obtain rfl:=zj h
 exact zR [] [] [(2000,10)]
theorem S8 (p:(Int×Int)×Int) (call:Int) {r:Unit} (h:C5 p call=some r):HC Try.prog 178 [] [.agg [.ii p.1.1,.ii p.1.2,.int .u64 p.2],.ii call] [] (.bool (!(decide ((a4v .u64 p.2 (a1O .u64 1 call))=0)))):=by
 unfold C5 at h
 refine zH Try.func178 [.tmp 4] 11 ?_
 refine zo ?_
 refine zB [(1,.ii call),(2,.bp 2 0)] [(2,.box 146 [.ii p.1.1,.ii p.1.2,.int .u64 p.2])] ?_
 refine AW.seq ?_
 refine AW.draw r4 p5 [] [] (by decide) (by kernel_rfl) ?_
 as_aux_lemma =>
  obtain ⟨c2,h⟩:=b5.1 h
  refine f8 6 (fun K' hK1=>?_)
  try dsimp only [y1,y2,y3,y4]
  simp only [go_sem]
  repeat with_reducible refine zN ?_
  refine hK1 _ ?_
  as_aux_lemma =>
   refine f8 1 (fun K' hK3=>?_)
   try dsimp only [y1,y2,y3,y4]
   simp only [go_sem]
   repeat with_reducible refine zN ?_
   refine hK3 _ ?_
   refine j8 ?_
   refine g5 ?_
   refine zV [(4,.bool (!(decide ((a4v .u64 p.2 (a1O .u64 1 call))=0))))] [] gt ?_
   as_aux_lemma =>
    refine AW.ret ?_
    obtain rfl:=zj h
    exact zR [] [] []
theorem a2N (s:ZS) (s_2:ZH) (at0:(Int×Int)×Int) {r:Bool} (h:H5 s s_2 at0=some r):HC Try.prog 142 [] [.agg [.sl Y3 s,.sl Y0 s_2,.fn (.func 95) [] [],.one],.agg [.ii at0.1.1,.ii at0.1.2,.int .u64 at0.2]] [] (.bool r):=by
 unfold H5 at h
 refine zH Try.func142 [.tmp 4] 25 ?_
 refine zo ?_
 refine zB [(2,.bp 2 0),(3,.bp 3 0)] [(2,.box 140 [.sl Y3 s,.sl Y0 s_2,.fn (.func 95) [] [],.one]),(3,.box 146 [.ii at0.1.1,.ii at0.1.2,.int .u64 at0.2])] ?_
 refine AW.have1 (fun _:Unit=>Q6=some r) (fun _=>⟨fr [],b6 [],gt⟩) (fun _ h=>?_) (fun hk_history_search_full_k1=>?_)
 ·as_aux_lemma =>
   unfold Q6 at h
   refine zo ?_
   refine zB [(4,.bool true)] [] ?_
   refine AW.ret ?_
   obtain rfl:=zj h
   exact zR [] [] []
 refine AW.seq ?_
 refine zo ?_
 refine zB [(3,.bp 3 0),(8,.sl Y0 s_2),(9,.ii (s_2.length:Int)),(10,.ii 0)] [(3,.box 146 [.ii at0.1.1,.ii at0.1.2,.int .u64 at0.2])] ?_
 refine AW.block ?_
 obtain ⟨rv5,hw1,ho2⟩:=zw h
 refine AW.loopO (v6 s_2 at0) (fun st1=>⟨fr [(3,.bp 3 0),(8,.sl Y0 s_2),(9,.ii (s_2.length:Int)),(10,.ii st1)],b6 [(3,.box 146 [.ii at0.1.1,.ii at0.1.2,.int .u64 at0.2])],gt⟩) 0 hw1 (zL [] [] []) ?_
 as_aux_lemma =>
  intro st1 x4 h hd3
  unfold v6 at h
  refine zo ?_
  refine zB [(3,.bp 3 0),(8,.sl Y0 s_2),(9,.ii (s_2.length:Int)),(10,.ii st1),(11,.bool (decide (st1<(s_2.length:Int))))] [(3,.box 146 [.ii at0.1.1,.ii at0.1.2,.int .u64 at0.2])] ?_
  refine AW.seq ?_
  refine zQ h (fun hb6 h=>?_) (fun hb6 h=>?_)
  ·refine zk ?_
   refine AW.seq ?_
   refine AW.block ?_
   refine zo ?_
   obtain ⟨c7,h⟩:=b5.1 h
   obtain ⟨c8,h⟩:=b5.1 h
   refine zS 5 [(3,.bp 3 0),(5,.ii st1),(6,.bp 6 0),(8,.sl Y0 s_2),(9,.ii (s_2.length:Int)),(10,.ii st1),(14,.agg [.ii (s_2.getD st1.toNat (0,0,0,0,0,0)).1,.ii (s_2.getD st1.toNat (0,0,0,0,0,0)).2.1,.ii (s_2.getD st1.toNat (0,0,0,0,0,0)).2.2.1,.ii (s_2.getD st1.toNat (0,0,0,0,0,0)).2.2.2.1,.ii (s_2.getD st1.toNat (0,0,0,0,0,0)).2.2.2.2.1,.ii (s_2.getD st1.toNat (0,0,0,0,0,0)).2.2.2.2.2])] [(3,.box 146 [.ii at0.1.1,.ii at0.1.2,.int .u64 at0.2]),(6,.box 68 [.ii 0,.ii 0,.ii 0,.ii 0,.ii 0,.ii 0])] ?_
   refine zB [(3,.bp 3 0),(5,.ii st1),(6,.bp 6 0),(8,.sl Y0 s_2),(9,.ii (s_2.length:Int)),(10,.ii st1)] [(3,.box 146 [.ii at0.1.1,.ii at0.1.2,.int .u64 at0.2]),(6,.box 68 [.ii (s_2.getD st1.toNat (0,0,0,0,0,0)).1,.ii (s_2.getD st1.toNat (0,0,0,0,0,0)).2.1,.ii (s_2.getD st1.toNat (0,0,0,0,0,0)).2.2.1,.ii (s_2.getD st1.toNat (0,0,0,0,0,0)).2.2.2.1,.ii (s_2.getD st1.toNat (0,0,0,0,0,0)).2.2.2.2.1,.ii (s_2.getD st1.toNat (0,0,0,0,0,0)).2.2.2.2.2])] ?_
   refine zo ?_
   refine zS 4 [(3,.bp 3 0),(5,.ii st1),(8,.sl Y0 s_2),(9,.ii (s_2.length:Int)),(10,.ii st1),(18,.bool (!(decide ((s_2.getD st1.toNat (0,0,0,0,0,0)).2.2.2.2.2=0))))] [(3,.box 146 [.ii at0.1.1,.ii at0.1.2,.int .u64 at0.2])] ?_
   rcases zI h with ⟨hb9,h⟩|⟨hb9,h⟩
   ·refine zS 2 [(3,.bp 3 0),(8,.sl Y0 s_2),(9,.ii (s_2.length:Int)),(10,.ii st1),(18,.bool true),(19,.agg [.ii at0.1.1,.ii at0.1.2,.int .u64 at0.2]),(20,.ii st1)] [(3,.box 146 [.ii at0.1.1,.ii at0.1.2,.int .u64 at0.2])] ?_
    obtain ⟨v0,hv10,h⟩:=zw h
    refine zG [] [] (S8 at0 st1 hv10) [(3,.bp 3 0),(8,.sl Y0 s_2),(9,.ii (s_2.length:Int)),(10,.ii st1),(18,.bool true),(21,.bool (!(decide ((a4v .u64 at0.2 (a1O .u64 1 st1))=0))))] [(3,.box 146 [.ii at0.1.1,.ii at0.1.2,.int .u64 at0.2])] ?_
    refine zB [(3,.bp 3 0),(8,.sl Y0 s_2),(9,.ii (s_2.length:Int)),(10,.ii st1),(23,.bool (!(!(decide ((a4v .u64 at0.2 (a1O .u64 1 st1))=0)))))] [(3,.box 146 [.ii at0.1.1,.ii at0.1.2,.int .u64 at0.2])] ?_
    refine zQ h (fun hb11 h=>?_) (fun hb11 h=>?_)
    ·refine zo ?_
     refine zB [(4,.bool false)] [] ?_
     refine AW.ret ?_
     refine d7 ?_
     refine b9 ?_
     obtain rfl:=zj h
     try rw [← hd3 _ rfl] at ho2
     have h:=ho2
     try simp only at h
     refine b9 ?_
     refine d7 ?_
     refine b9 ?_
     obtain rfl:=zj h
     exact zR [] [] []
    refine zm ?_
    refine g5 ?_
    refine AW.ops ?_
    obtain ⟨c12,h⟩:=b5.1 h
    refine zA [(3,.bp 3 0),(8,.sl Y0 s_2),(9,.ii (s_2.length:Int)),(10,.ii (st1+1))] [(3,.box 146 [.ii at0.1.1,.ii at0.1.2,.int .u64 at0.2])] ?_
    obtain rfl:=zj h
    exact ⟨_,rfl,zL [] [] []⟩
   refine zS 4 [(3,.bp 3 0),(8,.sl Y0 s_2),(9,.ii (s_2.length:Int)),(10,.ii st1),(18,.bool false),(22,.cv (undef))] [(3,.box 146 [.ii at0.1.1,.ii at0.1.2,.int .u64 at0.2])] ?_
   refine zB [(3,.bp 3 0),(8,.sl Y0 s_2),(9,.ii (s_2.length:Int)),(10,.ii st1),(23,.bool false)] [(3,.box 146 [.ii at0.1.1,.ii at0.1.2,.int .u64 at0.2])] ?_
   refine AW.cond (b:=false) rfl (fun hb13=>by cases hb13) (fun _=>?_)
   refine zm ?_
   refine g5 ?_
   refine AW.ops ?_
   obtain ⟨c14,h⟩:=b5.1 h
   refine zA [(3,.bp 3 0),(8,.sl Y0 s_2),(9,.ii (s_2.length:Int)),(10,.ii (st1+1))] [(3,.box 146 [.ii at0.1.1,.ii at0.1.2,.int .u64 at0.2])] ?_
   obtain rfl:=zj h
   exact ⟨_,rfl,zL [] [] []⟩
  refine AW.exit ?_
  refine i6 ?_
  obtain rfl:=zj h
  try rw [← hd3 _ rfl] at ho2
  have h:=ho2
  try simp only at h
  refine i6 ?_
  refine m7 ?_
  refine g5 ?_
  exact AW.weaken (zL [] [] []) (hk_history_search_full_k1 () h)
theorem a2j (s:ZS) (s_2:ZH) (at0:(Int×Int)×Int) {r:Unit} (h:N5 s s_2 at0=some r):HC Try.prog 143 [] [.agg [.sl Y3 s,.sl Y0 s_2,.fn (.func 95) [] [],.one],.agg [.ii at0.1.1,.ii at0.1.2,.int .u64 at0.2]] [(2000,.box 140 [.sl Y3 s,.sl Y0 s_2,.fn (.func 95) [] [],.one]),(2001,.box 146 [.ii at0.1.1,.ii at0.1.2,.int .u64 at0.2])] (.fn (.func 179) [] [.bp 2000 0,.bp 2001 0]):=by
 unfold N5 at h
 refine zH Try.func143 [.tmp 4] 6 ?_
 refine zo ?_
 refine zB [(2,.bp 2 0),(3,.bp 3 0)] [(2,.box 140 [.sl Y3 s,.sl Y0 s_2,.fn (.func 95) [] [],.one]),(3,.box 146 [.ii at0.1.1,.ii at0.1.2,.int .u64 at0.2])] ?_
 refine zo ?_
 refine zB [(4,.fn (.func 179) [] [.bp 2 0,.bp 3 0])] [(2,.box 140 [.sl Y3 s,.sl Y0 s_2,.fn (.func 95) [] [],.one]),(3,.box 146 [.ii at0.1.1,.ii at0.1.2,.int .u64 at0.2])] ?_
 refine AW.ret ?_
 obtain rfl:=zj h
 exact zR [] [] [(2000,2),(2001,3)]
theorem a46 (a:Int×Int×Int×Int×Int×Int) (b:Int×Int×Int×Int×Int×Int) {r:Bool} (h:S7 a b=some r):HC Try.prog 95 [] [.agg [.ii a.1,.ii a.2.1,.ii a.2.2.1,.ii a.2.2.2.1,.ii a.2.2.2.2.1,.ii a.2.2.2.2.2],.agg [.ii b.1,.ii b.2.1,.ii b.2.2.1,.ii b.2.2.2.1,.ii b.2.2.2.2.1,.ii b.2.2.2.2.2]] [] (.bool r):=by
 unfold S7 at h
 refine zH Try.func95 [.tmp 4] 8 ?_
 refine zo ?_
 refine zB [(2,.bp 2 0),(3,.bp 3 0)] [(2,.box 68 [.ii a.1,.ii a.2.1,.ii a.2.2.1,.ii a.2.2.2.1,.ii a.2.2.2.2.1,.ii a.2.2.2.2.2]),(3,.box 68 [.ii b.1,.ii b.2.1,.ii b.2.2.1,.ii b.2.2.2.1,.ii b.2.2.2.2.1,.ii b.2.2.2.2.2])] ?_
 refine zo ?_
 refine zS 2 [(5,.agg [.ii b.1,.ii b.2.1,.ii b.2.2.1,.ii b.2.2.2.1,.ii b.2.2.2.2.1,.ii b.2.2.2.2.2]),(6,.agg [.ii a.1,.ii a.2.1,.ii a.2.2.1,.ii a.2.2.2.1,.ii a.2.2.2.2.1,.ii a.2.2.2.2.2])] [] ?_
 obtain ⟨v0,hv1,h⟩:=zw h
 refine zC [] [] (Z1 b a hv1) [(7,.bool v0)] [] ?_
 refine zB [(4,.bool v0)] [] ?_
 refine AW.ret ?_
 obtain rfl:=zj h
 exact zR [] [] []
theorem a2k (s:ZS) (s_2:ZH) (at0:(Int×Int)×Int) (call:Int) {r:Bool} (h:F4 s s_2 at0 call=some r):HC Try.prog 180 [] [.agg [.sl Y3 s,.sl Y0 s_2,.fn (.func 95) [] [],.one],.agg [.ii at0.1.1,.ii at0.1.2,.int .u64 at0.2],.ii call] [] (.bool r):=by
 unfold F4 at h
 refine zH Try.func180 [.tmp 6] 36 ?_
 refine zo ?_
 refine zB [(2,.ii call),(3,.bp 3 0),(4,.bp 4 0)] [(3,.box 140 [.sl Y3 s,.sl Y0 s_2,.fn (.func 95) [] [],.one]),(4,.box 146 [.ii at0.1.1,.ii at0.1.2,.int .u64 at0.2])] ?_
 refine AW.seq ?_
 refine zo ?_
 refine zS 2 [(2,.ii call),(3,.bp 3 0),(4,.bp 4 0),(9,.agg [.ii at0.1.1,.ii at0.1.2,.int .u64 at0.2]),(10,.ii call)] [(3,.box 140 [.sl Y3 s,.sl Y0 s_2,.fn (.func 95) [] [],.one]),(4,.box 146 [.ii at0.1.1,.ii at0.1.2,.int .u64 at0.2])] ?_
 obtain ⟨v0,hv1,h⟩:=zw h
 refine zC [] [] (S8 at0 call hv1) [(2,.ii call),(3,.bp 3 0),(4,.bp 4 0),(11,.bool (!(decide ((a4v .u64 at0.2 (a1O .u64 1 call))=0))))] [(3,.box 140 [.sl Y3 s,.sl Y0 s_2,.fn (.func 95) [] [],.one]),(4,.box 146 [.ii at0.1.1,.ii at0.1.2,.int .u64 at0.2])] ?_
 refine zB [(2,.ii call),(3,.bp 3 0),(4,.bp 4 0),(11,.bool (!(decide ((a4v .u64 at0.2 (a1O .u64 1 call))=0))))] [(3,.box 140 [.sl Y3 s,.sl Y0 s_2,.fn (.func 95) [] [],.one]),(4,.box 146 [.ii at0.1.1,.ii at0.1.2,.int .u64 at0.2])] ?_
 refine zQ h (fun hb2 h=>?_) (fun hb2 h=>?_)
 ·refine zo ?_
  refine zB [(6,.bool false)] [] ?_
  refine zr ?_
  obtain rfl:=zj h
  exact zR [] [] []
 refine zk ?_
 refine AW.have1 (fun _:Unit=>P5=some r) (fun _=>⟨fr [],b6 [],gt⟩) (fun _ h=>?_) (fun hk_history_search_ready_k1=>?_)
 ·as_aux_lemma =>
   unfold P5 at h
   refine zo ?_
   refine zB [(6,.bool true)] [] ?_
   refine AW.ret ?_
   obtain rfl:=zj h
   exact zR [] [] []
 refine AW.seq ?_
 refine zo ?_
 refine zB [(2,.ii call),(3,.bp 3 0),(4,.bp 4 0),(13,.sl Y0 s_2),(14,.ii (s_2.length:Int)),(15,.ii 0)] [(3,.box 140 [.sl Y3 s,.sl Y0 s_2,.fn (.func 95) [] [],.one]),(4,.box 146 [.ii at0.1.1,.ii at0.1.2,.int .u64 at0.2])] ?_
 refine AW.block ?_
 obtain ⟨rv7,hw3,ho4⟩:=zw h
 refine AW.loopO (u9 s_2 at0 call) (fun st1=>⟨fr [(2,.ii call),(3,.bp 3 0),(4,.bp 4 0),(13,.sl Y0 s_2),(14,.ii (s_2.length:Int)),(15,.ii st1)],b6 [(3,.box 140 [.sl Y3 s,.sl Y0 s_2,.fn (.func 95) [] [],.one]),(4,.box 146 [.ii at0.1.1,.ii at0.1.2,.int .u64 at0.2])],gt⟩) 0 hw3 (zL [] [] []) ?_
 as_aux_lemma =>
  intro st1 x6 h hd5
  unfold u9 at h
  refine zo ?_
  refine zB [(2,.ii call),(3,.bp 3 0),(4,.bp 4 0),(13,.sl Y0 s_2),(14,.ii (s_2.length:Int)),(15,.ii st1),(16,.bool (decide (st1<(s_2.length:Int))))] [(3,.box 140 [.sl Y3 s,.sl Y0 s_2,.fn (.func 95) [] [],.one]),(4,.box 146 [.ii at0.1.1,.ii at0.1.2,.int .u64 at0.2])] ?_
  refine AW.seq ?_
  refine zQ h (fun hb8 h=>?_) (fun hb8 h=>?_)
  ·refine zk ?_
   refine AW.seq ?_
   refine AW.block ?_
   refine zo ?_
   obtain ⟨c9,h⟩:=b5.1 h
   obtain ⟨c10,h⟩:=b5.1 h
   refine zS 5 [(2,.ii call),(3,.bp 3 0),(4,.bp 4 0),(7,.ii st1),(8,.bp 8 0),(13,.sl Y0 s_2),(14,.ii (s_2.length:Int)),(15,.ii st1),(19,.agg [.ii (s_2.getD st1.toNat (0,0,0,0,0,0)).1,.ii (s_2.getD st1.toNat (0,0,0,0,0,0)).2.1,.ii (s_2.getD st1.toNat (0,0,0,0,0,0)).2.2.1,.ii (s_2.getD st1.toNat (0,0,0,0,0,0)).2.2.2.1,.ii (s_2.getD st1.toNat (0,0,0,0,0,0)).2.2.2.2.1,.ii (s_2.getD st1.toNat (0,0,0,0,0,0)).2.2.2.2.2])] [(3,.box 140 [.sl Y3 s,.sl Y0 s_2,.fn (.func 95) [] [],.one]),(4,.box 146 [.ii at0.1.1,.ii at0.1.2,.int .u64 at0.2]),(8,.box 68 [.ii 0,.ii 0,.ii 0,.ii 0,.ii 0,.ii 0])] ?_
   refine zB [(2,.ii call),(3,.bp 3 0),(4,.bp 4 0),(7,.ii st1),(8,.bp 8 0),(13,.sl Y0 s_2),(14,.ii (s_2.length:Int)),(15,.ii st1)] [(3,.box 140 [.sl Y3 s,.sl Y0 s_2,.fn (.func 95) [] [],.one]),(4,.box 146 [.ii at0.1.1,.ii at0.1.2,.int .u64 at0.2]),(8,.box 68 [.ii (s_2.getD st1.toNat (0,0,0,0,0,0)).1,.ii (s_2.getD st1.toNat (0,0,0,0,0,0)).2.1,.ii (s_2.getD st1.toNat (0,0,0,0,0,0)).2.2.1,.ii (s_2.getD st1.toNat (0,0,0,0,0,0)).2.2.2.1,.ii (s_2.getD st1.toNat (0,0,0,0,0,0)).2.2.2.2.1,.ii (s_2.getD st1.toNat (0,0,0,0,0,0)).2.2.2.2.2])] ?_
   refine AW.seq ?_
   refine AW.draw r4 p5 [] [] (by decide) (v9 (by kernel_rfl)) ?_
   as_aux_lemma =>
    obtain ⟨c12,h⟩:=b5.1 h
    obtain ⟨c13,h⟩:=b5.1 h
    refine f8 6 (fun K' hK11=>?_)
    try dsimp only [y1,y2,y3,y4]
    simp only [go_sem,hb2,hb8]
    repeat with_reducible refine zN ?_
    refine hK11 _ ?_
    as_aux_lemma =>
     refine f8 2 (fun K' hK14=>?_)
     try dsimp only [y1,y2,y3,y4]
     simp only [go_sem,hb2,hb8]
     repeat with_reducible refine zN ?_
     refine hK14 _ ?_
     as_aux_lemma =>
      obtain ⟨v0_2,hv15,h⟩:=zw h
      refine N7.call (by first|trivial|rfl) rfl rfl rfl (fun _ h=>h) [] [] (a46 (s_2.getD call.toNat (0,0,0,0,0,0)) (s_2.getD st1.toNat (0,0,0,0,0,0)) hv15) rfl (by (simp only [go_sem,hb2,hb8])<;>(with_reducible and_intros)<;>first|assumption|rfl|omega|(unfold maxLen; omega)) (by (simp only [go_sem,hb2,hb8])<;>(with_reducible and_intros)<;>first|assumption|rfl|omega|(unfold maxLen; omega)) rfl ?_
      refine f8 1 (fun K' hK16=>?_)
      try dsimp only [y1,y2,y3,y4]
      simp only [go_sem,hb2,hb8]
      repeat with_reducible refine zN ?_
      refine hK16 _ ?_
      as_aux_lemma =>
       rcases zI h with ⟨hb17,h⟩|⟨hb17,h⟩
       ·simp only [hb17]
        as_aux_lemma =>
         refine f8 2 (fun K' hK18=>?_)
         try dsimp only [y1,y2,y3,y4]
         simp only [go_sem,hb2,hb8,hb17]
         repeat with_reducible refine zN ?_
         refine hK18 _ ?_
         as_aux_lemma =>
          obtain ⟨v0_3,hv19,h⟩:=zw h
          refine N7.call (by first|trivial|rfl) rfl rfl rfl (fun _ h=>⟨fun _=>h,fun hn=>absurd rfl hn⟩) [] [] (S8 at0 st1 hv19) rfl (by (simp only [go_sem,hb2,hb8,hb17])<;>(with_reducible and_intros)<;>first|assumption|rfl|omega|(unfold maxLen; omega)) (by (simp only [go_sem,hb2,hb8,hb17])<;>(with_reducible and_intros)<;>first|assumption|rfl|omega|(unfold maxLen; omega)) rfl ?_
          refine f8 2 (fun K' hK20=>?_)
          try dsimp only [y1,y2,y3,y4]
          simp only [go_sem,hb2,hb8,hb17]
          repeat with_reducible refine zN ?_
          refine hK20 _ ?_
          refine j8 ?_
          refine g5 ?_
          refine zV [(2,.ii call),(3,.bp 3 0),(4,.bp 4 0),(13,.sl Y0 s_2),(14,.ii (s_2.length:Int)),(15,.ii st1),(34,.bool (!(!(decide ((a4v .u64 at0.2 (a1O .u64 1 st1))=0)))))] [(3,.box 140 [.sl Y3 s,.sl Y0 s_2,.fn (.func 95) [] [],.one]),(4,.box 146 [.ii at0.1.1,.ii at0.1.2,.int .u64 at0.2])] gt ?_
          as_aux_lemma =>
           refine zQ h (fun hb21 h=>?_) (fun hb21 h=>?_)
           ·refine zo ?_
            refine zB [(6,.bool false)] [] ?_
            refine AW.ret ?_
            refine d7 ?_
            refine b9 ?_
            obtain rfl:=zj h
            try rw [← hd5 _ rfl] at ho4
            have h:=ho4
            try simp only at h
            refine b9 ?_
            refine d7 ?_
            refine b9 ?_
            obtain rfl:=zj h
            exact zR [] [] []
           refine zm ?_
           refine g5 ?_
           refine AW.ops ?_
           obtain ⟨c22,h⟩:=b5.1 h
           refine zA [(2,.ii call),(3,.bp 3 0),(4,.bp 4 0),(13,.sl Y0 s_2),(14,.ii (s_2.length:Int)),(15,.ii (st1+1))] [(3,.box 140 [.sl Y3 s,.sl Y0 s_2,.fn (.func 95) [] [],.one]),(4,.box 146 [.ii at0.1.1,.ii at0.1.2,.int .u64 at0.2])] ?_
           obtain rfl:=zj h
           exact ⟨_,rfl,zL [] [] []⟩
       simp only [hb17]
       as_aux_lemma =>
        refine f8 4 (fun K' hK23=>?_)
        try dsimp only [y1,y2,y3,y4]
        simp only [go_sem,hb2,hb8,hb17]
        repeat with_reducible refine zN ?_
        refine hK23 _ ?_
        as_aux_lemma =>
         refine f8 1 (fun K' hK24=>?_)
         try dsimp only [y1,y2,y3,y4]
         simp only [go_sem,hb2,hb8,hb17]
         repeat with_reducible refine zN ?_
         refine hK24 _ ?_
         refine j8 ?_
         refine g5 ?_
         refine zV [(2,.ii call),(3,.bp 3 0),(4,.bp 4 0),(13,.sl Y0 s_2),(14,.ii (s_2.length:Int)),(15,.ii st1),(34,.bool false)] [(3,.box 140 [.sl Y3 s,.sl Y0 s_2,.fn (.func 95) [] [],.one]),(4,.box 146 [.ii at0.1.1,.ii at0.1.2,.int .u64 at0.2])] gt ?_
         as_aux_lemma =>
          refine AW.cond (b:=false) rfl (fun hb25=>by cases hb25) (fun _=>?_)
          refine zm ?_
          refine g5 ?_
          refine AW.ops ?_
          obtain ⟨c26,h⟩:=b5.1 h
          refine zA [(2,.ii call),(3,.bp 3 0),(4,.bp 4 0),(13,.sl Y0 s_2),(14,.ii (s_2.length:Int)),(15,.ii (st1+1))] [(3,.box 140 [.sl Y3 s,.sl Y0 s_2,.fn (.func 95) [] [],.one]),(4,.box 146 [.ii at0.1.1,.ii at0.1.2,.int .u64 at0.2])] ?_
          obtain rfl:=zj h
          exact ⟨_,rfl,zL [] [] []⟩
  refine AW.exit ?_
  refine i6 ?_
  obtain rfl:=zj h
  try rw [← hd5 _ rfl] at ho4
  have h:=ho4
  try simp only at h
  refine i6 ?_
  refine m7 ?_
  refine g5 ?_
  exact AW.weaken (zL [] [] []) (hk_history_search_ready_k1 () h)
end Go.Proofs.Ytenchhmcjmjlbaa
