import Derived.Test.YtenchhmcjmjlbaaCkp
import Derived.Test.YtenchhmcjmjlbaaShk
import Derived.Test.YtenchhmcjmjlbaaAvd
import Derived.Test.YtenchhmcjmjlbaaCec10
import Derived.Test.YtenchhmcjmjlbaaCec11
import Derived.Test.YtenchhmcjmjlbaaCec12
import Derived.Test.YtenchhmcjmjlbaaCec5
import Derived.Test.YtenchhmcjmjlbaaCec9
namespace Go.Proofs.Ytenchhmcjmjlbaa
open Go.RowKit
set_option linter.unusedSimpArgs false
set_option linter.unusedVariables false
set_option linter.constructorNameAsVariable false
set_option maxRecDepth 100000
set_option maxHeartbeats 40000000
theorem a44 (c0:ZS) (c1:ZH) {r:Bool} (h:Y8 c0 c1=some r):HC Try.prog 91 [(1000,.box 64 [.sl Y3 c0]),(1001,.box 34 [.sl Y0 c1])] [.ii 0,.fn (.func 93) [] [.bp 1000 0,.bp 1001 0]] [(1000,.box 64 [.sl Y3 c0]),(1001,.box 34 [.sl Y0 c1])] (.tup [.bool r,.ii 0]):=by
 unfold Y8 at h
 refine zH Try.func91 [.tmp 4,.tmp 5] 13 ?_
 refine zo ?_
 refine zB [(0,.ii 0),(1,.fn (.func 93) [] [.bp 1000 0,.bp 1001 0])] [(1000,.box 64 [.sl Y3 c0]),(1001,.box 34 [.sl Y0 c1])] ?_
 refine AW.seq ?_
 refine zo ?_
 have hx1:(!decide ((0:Int)=0))=false:=rfl
 refine zB [(0,.ii 0),(1,.fn (.func 93) [] [.bp 1000 0,.bp 1001 0]),(8,.bool false)] [(1000,.box 64 [.sl Y3 c0]),(1001,.box 34 [.sl Y0 c1])] ?_
 refine AW.cond (b:=false) rfl (fun hb2=>by cases hb2) (fun _=>?_)
 refine zk ?_
 refine zo ?_
 refine zS 1 [(11,.fn (.func 93) [] [.bp 1000 0,.bp 1001 0])] [(1000,.box 64 [.sl Y3 c0]),(1001,.box 34 [.sl Y0 c1])] ?_
 obtain ⟨v0,hv3,h⟩:=zw h
 refine zC [] [(1000,1000),(1001,1001)] (a34 c0 c1 hv3) [(12,.bool v0)] [(1000,.box 64 [.sl Y3 c0]),(1001,.box 34 [.sl Y0 c1])] ?_
 refine zB [(4,.bool v0),(5,.ii 0)] [(1000,.box 64 [.sl Y3 c0]),(1001,.box 34 [.sl Y0 c1])] ?_
 refine AW.ret ?_
 obtain rfl:=zj h
 exact zR [] [] []
theorem a43 (err:Int) (c0:ZS) (c1:ZH) (hnz_err:decide (err=0)=false) {r:Unit} (h:a1c err c0 c1=some r):HC Try.prog 91 [(1000,.box 64 [.sl Y3 c0]),(1001,.box 34 [.sl Y0 c1])] [.ii err,.fn (.func 93) [] [.bp 1000 0,.bp 1001 0]] [(1000,.box 64 [.sl Y3 c0]),(1001,.box 34 [.sl Y0 c1])] (.tup [.bool false,.ii err]):=by
 unfold a1c at h
 refine zH Try.func91 [.tmp 4,.tmp 5] 13 ?_
 refine zo ?_
 refine zB [(0,.ii err),(1,.fn (.func 93) [] [.bp 1000 0,.bp 1001 0])] [(1000,.box 64 [.sl Y3 c0]),(1001,.box 34 [.sl Y0 c1])] ?_
 refine AW.seq ?_
 refine zo ?_
 refine zB [(0,.ii err),(1,.fn (.func 93) [] [.bp 1000 0,.bp 1001 0]),(8,.bool true)] [(1000,.box 64 [.sl Y3 c0]),(1001,.box 34 [.sl Y0 c1])] ?_
 refine AW.cond (b:=true) rfl (fun _=>?_) (fun hb1=>by cases hb1)
 refine zo ?_
 refine zB [(0,.ii err),(6,.bool false)] [(1000,.box 64 [.sl Y3 c0]),(1001,.box 34 [.sl Y0 c1])] ?_
 refine zo ?_
 refine zB [(4,.bool false),(5,.ii err)] [(1000,.box 64 [.sl Y3 c0]),(1001,.box 34 [.sl Y0 c1])] ?_
 refine zr ?_
 obtain rfl:=zj h
 exact zR [] [] []
theorem a1E (specs:ZS) (h0:ZH) {r:Bool×Int} (h:K8 specs h0=some r):HC Try.prog 43 [] [.sl Y3 specs,.sl Y0 h0] [] (.tup [.bool r.1,.ii r.2]):=by
 unfold K8 at h
 refine zH Try.func43 [.tmp 4,.tmp 5] 13 ?_
 refine zo ?_
 refine zB [(2,.bp 2 0),(3,.bp 3 0)] [(2,.box 64 [.sl Y3 specs]),(3,.box 34 [.sl Y0 h0])] ?_
 refine zo ?_
 refine zS 2 [(2,.bp 2 0),(3,.bp 3 0),(6,.sl Y3 specs),(7,.sl Y0 h0)] [(2,.box 64 [.sl Y3 specs]),(3,.box 34 [.sl Y0 h0])] ?_
 obtain ⟨v0,hv1,h⟩:=zw h
 refine zC [] [] (a33 specs h0 hv1) [(2,.bp 2 0),(3,.bp 3 0),(8,.ii v0)] [(2,.box 64 [.sl Y3 specs]),(3,.box 34 [.sl Y0 h0])] ?_
 refine zS 1 [(8,.ii v0),(9,.fn (.func 93) [] [.bp 2 0,.bp 3 0])] [(2,.box 64 [.sl Y3 specs]),(3,.box 34 [.sl Y0 h0])] ?_
 rcases Bool.eq_false_or_eq_true (decide (v0=0)) with hb2|hb2
 ·rw [if_pos hb2] at h
  have hz3:v0=0:=by simpa using hb2
  refine zT [(8,.ii 0),(9,.fn (.func 93) [] [.bp 2 0,.bp 3 0])] [(2,.box 64 [.sl Y3 specs]),(3,.box 34 [.sl Y0 h0])] gt ?_
  obtain ⟨v0_2,hv4,h⟩:=zw h
  refine zC [] [(1000,2),(1001,3)] (a44 specs h0 hv4) [(10,.tup [.bool v0_2,.ii 0])] [] ?_
  refine zB [(4,.bool v0_2),(5,.ii 0)] [] ?_
  refine AW.ret ?_
  obtain rfl:=zj h
  exact zR [] [] []
 rw [if_neg (Bool.eq_false_iff.1 hb2)] at h
 refine zT [(8,.ii v0),(9,.fn (.func 93) [] [.bp 2 0,.bp 3 0])] [(2,.box 64 [.sl Y3 specs]),(3,.box 34 [.sl Y0 h0])] gt ?_
 obtain ⟨v0_3,hv5,h⟩:=zw h
 refine zC [] [(1000,2),(1001,3)] (a43 v0 specs h0 hb2 hv5) [(10,.tup [.bool false,.ii v0])] [] ?_
 refine zB [(4,.bool false),(5,.ii v0)] [] ?_
 refine AW.ret ?_
 obtain rfl:=zj h
 exact zR [] [] []
theorem a1d (r0:((List (List (Int×Int×Int×Int)))×(List (List Int)))×(List Int)×(El T80)×(Int×Int×Int)×(El T85)×(El T86)×Int) (s:Int×Int×(List (List Int))×(List (List Int))) {r:Bool} (h:M1 r0 s=some r):HC Try.prog 90 [] [.agg (.sl (.sl Y4) r0.1.1::(.sl (.sl .i) r0.1.2::(.sl .i r0.2.1::(b3 T80 r0.2.2.1++(.ii r0.2.2.2.1.1::(.ii r0.2.2.2.1.2.1::(.ii r0.2.2.2.1.2.2::(b3 T85 r0.2.2.2.2.1++(b3 T86 r0.2.2.2.2.2.1++(.ii r0.2.2.2.2.2.2::[])))))))))),.agg [.ii s.1,.ii s.2.1,.sl (.sl .i) s.2.2.1,.sl (.sl .i) s.2.2.2]] [] (.bool r):=by
 unfold M1 at h
 refine zH Try.func90 [.tmp 4] 17 ?_
 refine zo ?_
 refine zB [(2,.bp 2 0),(3,.bp 3 0)] [(2,.box 88 (.sl (.sl Y4) r0.1.1::(.sl (.sl .i) r0.1.2::(.sl .i r0.2.1::(b3 T80 r0.2.2.1++(.ii r0.2.2.2.1.1::(.ii r0.2.2.2.1.2.1::(.ii r0.2.2.2.1.2.2::(b3 T85 r0.2.2.2.2.1++(b3 T86 r0.2.2.2.2.2.1++(.ii r0.2.2.2.2.2.2::[]))))))))))),(3,.box 24 [.ii s.1,.ii s.2.1,.sl (.sl .i) s.2.2.1,.sl (.sl .i) s.2.2.2])] ?_
 refine AW.seq ?_
 refine AW.draw r4 p5 [(1,[9]),(3,[21000])] [(0,[3]),(1,[9]),(2,[2]),(3,[21000])] (by decide) (v9 (by kernel_rfl)) ?_
 as_aux_lemma =>
  refine f8 3 (fun K' hK1=>?_)
  try dsimp only [y1,y2,y3,y4]
  simp only [go_sem]
  repeat with_reducible refine zN ?_
  refine hK1 _ ?_
  as_aux_lemma =>
   obtain ⟨v0,hv2,h⟩:=zw h
   refine N7.call (by first|trivial|rfl) rfl rfl rfl (fun _ h=>h) [] [] (a0R r0 hv2) rfl (by (simp only [go_sem])<;>(with_reducible and_intros)<;>first|assumption|rfl|omega|(unfold maxLen; omega)) (by (simp only [go_sem])<;>(with_reducible and_intros)<;>first|assumption|rfl|omega|(unfold maxLen; omega)) rfl ?_
   obtain ⟨v0_2,hv3,h⟩:=zw h
   refine N7.call (by first|trivial|rfl) rfl rfl rfl (fun _ h=>h) [9,21000] [] (a1E [s] v0 hv3) rfl (by (simp only [go_sem])<;>(with_reducible and_intros)<;>first|assumption|rfl|omega|(unfold maxLen; omega)) (by (simp only [go_sem])<;>(with_reducible and_intros)<;>first|assumption|rfl|omega|(unfold maxLen; omega)) rfl ?_
   refine f8 5 (fun K' hK4=>?_)
   try dsimp only [y1,y2,y3,y4]
   simp only [go_sem]
   repeat with_reducible refine zN ?_
   refine hK4 _ ?_
   refine j8 ?_
   refine g5 ?_
   refine zV [(5,.bool v0_2.1)] [] gt ?_
   as_aux_lemma =>
    refine zo ?_
    refine zB [(4,.bool (!v0_2.1))] [] ?_
    refine AW.ret ?_
    obtain rfl:=zj h
    exact zR [] [] []
theorem a4f (s:Int×Int×(List (List Int))×(List (List Int))) (c:List (List (Int×Int×Int×Int))) (use:List (List Int)) (steps:Int) {r:(List Int)×Int} (h:a0g s c use steps=some r):HC Try.prog 40 [] [.agg [.ii s.1,.ii s.2.1,.sl (.sl .i) s.2.2.1,.sl (.sl .i) s.2.2.2],.sl (.sl Y4) c,.sl (.sl .i) use,.ii steps] [] (.tup [.sl .i r.1,.ii r.2]):=by
 unfold a0g at h
 refine zH Try.func40 [.cell 8 28,.cell 9 31] 37 ?_
 refine zo ?_
 refine zB [(1,.sl (.sl Y4) c),(2,.sl (.sl .i) use),(3,.ii steps),(4,.bp 4 0),(8,.bp 8 0),(9,.bp 9 0)] [(4,.box 24 [.ii s.1,.ii s.2.1,.sl (.sl .i) s.2.2.1,.sl (.sl .i) s.2.2.2]),(8,.box 28 [.cv (.slice none 0 0)]),(9,.box 31 [.ii 0])] ?_
 refine AW.seq ?_
 refine zo ?_
 refine zS 2 [(1,.sl (.sl Y4) c),(2,.sl (.sl .i) use),(3,.ii steps),(4,.bp 4 0),(8,.bp 8 0),(9,.bp 9 0),(14,.agg [.ii s.1,.ii s.2.1,.sl (.sl .i) s.2.2.1,.sl (.sl .i) s.2.2.2]),(15,.sl (.sl Y4) c)] [(4,.box 24 [.ii s.1,.ii s.2.1,.sl (.sl .i) s.2.2.1,.sl (.sl .i) s.2.2.2]),(8,.box 28 [.cv (.slice none 0 0)]),(9,.box 31 [.ii 0])] ?_
 obtain ⟨v0,hv1,h⟩:=zw h
 refine zC [] [] (a1F s c hv1) [(1,.sl (.sl Y4) c),(2,.sl (.sl .i) use),(3,.ii steps),(4,.bp 4 0),(8,.bp 8 0),(9,.bp 9 0),(16,.ii v0)] [(4,.box 24 [.ii s.1,.ii s.2.1,.sl (.sl .i) s.2.2.1,.sl (.sl .i) s.2.2.2]),(8,.box 28 [.cv (.slice none 0 0)]),(9,.box 31 [.ii 0])] ?_
 refine zB [(1,.sl (.sl Y4) c),(2,.sl (.sl .i) use),(3,.ii steps),(4,.bp 4 0),(8,.bp 8 0),(9,.bp 9 0),(10,.ii v0)] [(4,.box 24 [.ii s.1,.ii s.2.1,.sl (.sl .i) s.2.2.1,.sl (.sl .i) s.2.2.2]),(8,.box 28 [.cv (.slice none 0 0)]),(9,.box 31 [.ii 0])] ?_
 refine zo ?_
 refine zB [(1,.sl (.sl Y4) c),(2,.sl (.sl .i) use),(3,.ii steps),(4,.bp 4 0),(8,.bp 8 0),(9,.bp 9 0),(10,.ii v0),(18,.bool (!(decide (v0=0))))] [(4,.box 24 [.ii s.1,.ii s.2.1,.sl (.sl .i) s.2.2.1,.sl (.sl .i) s.2.2.2]),(8,.box 28 [.cv (.slice none 0 0)]),(9,.box 31 [.ii 0])] ?_
 refine zQ h (fun hb2 h=>?_) (fun hb2 h=>?_)
 ·refine zo ?_
  refine zB [(8,.bp 8 0),(9,.bp 9 0)] [(8,.box 28 [.cv (.slice none 0 0)]),(9,.box 31 [.ii v0])] ?_
  refine zr ?_
  obtain rfl:=zj h
  exact zR [] [] []
 refine zk ?_
 refine zo ?_
 refine zS 3 [(4,.bp 4 0),(8,.bp 8 0),(9,.bp 9 0),(21,.sl (.sl Y4) c),(22,.sl (.sl .i) use),(23,.ii steps)] [(4,.box 24 [.ii s.1,.ii s.2.1,.sl (.sl .i) s.2.2.1,.sl (.sl .i) s.2.2.2]),(8,.box 28 [.cv (.slice none 0 0)]),(9,.box 31 [.ii 0])] ?_
 obtain ⟨v0_2,hv3,h⟩:=zw h
 rcases v0_2 with v0_3|v0_4
 ·try simp only at h
  refine zC [] [] (a49 c use steps hv3) [(4,.bp 4 0),(8,.bp 8 0),(9,.bp 9 0),(24,.tup [.cv (.nilFunc),.ii v0_3])] [(4,.box 24 [.ii s.1,.ii s.2.1,.sl (.sl .i) s.2.2.1,.sl (.sl .i) s.2.2.2]),(8,.box 28 [.cv (.slice none 0 0)]),(9,.box 31 [.ii 0])] ?_
  refine zB [(4,.bp 4 0),(8,.bp 8 0),(9,.bp 9 0),(11,.cv (.nilFunc)),(12,.ii v0_3)] [(4,.box 24 [.ii s.1,.ii s.2.1,.sl (.sl .i) s.2.2.1,.sl (.sl .i) s.2.2.2]),(8,.box 28 [.cv (.slice none 0 0)]),(9,.box 31 [.ii 0])] ?_
  refine AW.seq ?_
  refine zo ?_
  refine zB [(4,.bp 4 0),(8,.bp 8 0),(9,.bp 9 0),(11,.cv (.nilFunc)),(12,.ii v0_3),(28,.bool (!(decide (v0_3=0))))] [(4,.box 24 [.ii s.1,.ii s.2.1,.sl (.sl .i) s.2.2.1,.sl (.sl .i) s.2.2.2]),(8,.box 28 [.cv (.slice none 0 0)]),(9,.box 31 [.ii 0])] ?_
  refine zQ h (fun hb4 h=>?_) (fun hb4 h=>?_)
  ·refine zo ?_
   refine zB [(8,.bp 8 0),(9,.bp 9 0)] [(8,.box 28 [.cv (.slice none 0 0)]),(9,.box 31 [.ii v0_3])] ?_
   refine zr ?_
   obtain rfl:=zj h
   exact zR [] [] []
  refine zk ?_
  refine AW.seq ?_
  refine zo ?_
  refine zB [(4,.bp 4 0),(8,.bp 8 0),(9,.bp 9 0),(30,.cv (.nilFunc))] [(4,.box 24 [.ii s.1,.ii s.2.1,.sl (.sl .i) s.2.2.1,.sl (.sl .i) s.2.2.2]),(8,.box 28 [.cv (.slice none 0 0)]),(9,.box 31 [.ii 0])] ?_
  refine AW.block ?_
  cases h
 try simp only at h
 refine zC [] [] (a48 c use steps hv3) [(4,.bp 4 0),(8,.bp 8 0),(9,.bp 9 0),(24,.tup [.fn (.func 133) [] [.bp 34000 0,.bp 34001 0],.ii 0])] [(4,.box 24 [.ii s.1,.ii s.2.1,.sl (.sl .i) s.2.2.1,.sl (.sl .i) s.2.2.2]),(8,.box 28 [.cv (.slice none 0 0)]),(9,.box 31 [.ii 0]),(34000,.box 77 [.sl (.sl Y4) c,.sl (.sl .i) use]),(34001,.box 3 [.ii steps])] ?_
 refine zB [(4,.bp 4 0),(8,.bp 8 0),(9,.bp 9 0),(11,.fn (.func 133) [] [.bp 34000 0,.bp 34001 0]),(12,.ii 0)] [(4,.box 24 [.ii s.1,.ii s.2.1,.sl (.sl .i) s.2.2.1,.sl (.sl .i) s.2.2.2]),(8,.box 28 [.cv (.slice none 0 0)]),(9,.box 31 [.ii 0]),(34000,.box 77 [.sl (.sl Y4) c,.sl (.sl .i) use]),(34001,.box 3 [.ii steps])] ?_
 refine AW.seq ?_
 refine zo ?_
 have hx5:(!decide ((0:Int)=0))=false:=rfl
 refine zB [(4,.bp 4 0),(8,.bp 8 0),(9,.bp 9 0),(11,.fn (.func 133) [] [.bp 34000 0,.bp 34001 0]),(12,.ii 0),(28,.bool false)] [(4,.box 24 [.ii s.1,.ii s.2.1,.sl (.sl .i) s.2.2.1,.sl (.sl .i) s.2.2.2]),(8,.box 28 [.cv (.slice none 0 0)]),(9,.box 31 [.ii 0]),(34000,.box 77 [.sl (.sl Y4) c,.sl (.sl .i) use]),(34001,.box 3 [.ii steps])] ?_
 refine AW.cond (b:=false) rfl (fun hb6=>by cases hb6) (fun _=>?_)
 refine zk ?_
 refine AW.have1 (fun _:Unit=>a1W=some r) (fun _=>⟨fr [(8,.bp 8 0),(9,.bp 9 0)],b6 [(8,.box 28 [.cv (.slice none 0 0)]),(9,.box 31 [.ii 0])],gt⟩) (fun _ h=>?_) (fun hk_code_Break_k2=>?_)
 ·as_aux_lemma =>
   unfold a1W at h
   refine zo ?_
   refine zB [(8,.bp 8 0),(9,.bp 9 0)] [(8,.box 28 [.cv (.slice none 0 0)]),(9,.box 31 [.ii 5])] ?_
   refine AW.ret ?_
   obtain rfl:=zj h
   exact zR [] [] []
 refine AW.seq ?_
 refine zo ?_
 refine zB [(4,.bp 4 0),(8,.bp 8 0),(9,.bp 9 0),(30,.fn (.func 133) [] [.bp 34000 0,.bp 34001 0])] [(4,.box 24 [.ii s.1,.ii s.2.1,.sl (.sl .i) s.2.2.1,.sl (.sl .i) s.2.2.2]),(8,.box 28 [.cv (.slice none 0 0)]),(9,.box 31 [.ii 0]),(34000,.box 77 [.sl (.sl Y4) c,.sl (.sl .i) use]),(34001,.box 3 [.ii steps])] ?_
 refine AW.block ?_
 obtain ⟨x7,hx8,h⟩:=zw h
 refine AW.weaken (s':=⟨fr [(4,.bp 4 0),(8,.bp 8 0),(9,.bp 9 0),(30,.fn (.func 133) [] [.bp 34000 0,.bp 34001 0])],b6 ([(34000,.box 77 [.sl (.sl Y4) c,.sl (.sl .i) use]),(34001,.box 3 [.ii steps])]++[(4,.box 24 [.ii s.1,.ii s.2.1,.sl (.sl .i) s.2.2.1,.sl (.sl .i) s.2.2.2]),(8,.box 28 [.cv (.slice none 0 0)]),(9,.box 31 [.ii 0])]),gt⟩) (zL [] [] []) ?_
 refine AW.rangeF (R:=(List Int)) (r:=x7) (gf:=133) (prev:=[]) (capv:=[.bp 34000 0,.bp 34001 0]) (enc:=(fun (y:(((List (List (Int×Int×Int×Int)))×(List (List Int)))×(List Int)×(El T80)×(Int×Int×Int)×(El T85)×(El T86)×Int))=>[.agg (.sl (.sl Y4) y.1.1::(.sl (.sl .i) y.1.2::(.sl .i y.2.1::(b3 T80 y.2.2.1++(.ii y.2.2.2.1.1::(.ii y.2.2.2.1.2.1::(.ii y.2.2.2.1.2.2::(b3 T85 y.2.2.2.2.1++(b3 T86 y.2.2.2.2.2.1++(.ii y.2.2.2.2.2.2::[]))))))))))])) (bodyP:=O1 s) (l0:=[(4,.bp 4 0),(8,.bp 8 0),(9,.bp 9 0)]) (hI:=[(34000,.box 77 [.sl (.sl Y4) c,.sl (.sl .i) use]),(34001,.box 3 [.ii steps])]) (h0:=fun (st1:Unit)=>[(4,.box 24 [.ii s.1,.ii s.2.1,.sl (.sl .i) s.2.2.1,.sl (.sl .i) s.2.2.2]),(8,.box 28 [.cv (.slice none 0 0)]),(9,.box 31 [.ii 0])]) (gg:=fun (st1:Unit)=>gt) (hx0:=(fun (r1:(List Int))=>[(4,.box 24 [.ii s.1,.ii s.2.1,.sl (.sl .i) s.2.2.1,.sl (.sl .i) s.2.2.2]),(8,.box 28 [.sl .i r1]),(9,.box 31 [.ii 0])])) (gx:=(fun (r1:(List Int))=>gt)) (ex:=(fun (r1:(List Int))=>Exit.ret)) () [(34000,1000),(34001,1001)] [(1000,34000),(1001,34001)] [(4,1900),(8,1901),(9,1902)] [(1900,4),(1901,8),(1902,9)] ?_ ?_ ?_ ?_ ?_ ?_ ?_ ?_ ?_ ?_ ?_ ?_ ?_ ?_ ?_ ?_ ?_ ?_ ?_ ?_
 ·decide
 ·rfl
 ·first|exact (Y7 (c,use) steps (O1 s) () hx8)|simpa only [go_sem] using (Y7 (c,use) steps (O1 s) () hx8)
 ·(simp only [go_sem,hb2,hx5])<;>(with_reducible and_intros)<;>first|assumption|rfl|omega|(unfold maxLen; omega)
 ·rfl
 ·rfl
 ·rfl
 ·exact (fun _=>rfl)
 ·rfl
 ·exact (fun _=>rfl)
 ·rfl
 ·exact (fun _=>rfl)
 ·exact (fun _=>rfl)
 ·exact (fun _=>rfl)
 ·exact (fun _=>rfl)
 ·rfl
 ·exact (fun _ _=>by first|rfl|(exact (hΓ _).trans (hΓ _).symm)|(exact (hΓx _).trans (hΓ _).symm))
 ·exact (fun _ _=>by first|rfl|(exact (hΓ _).trans (hΓ _).symm)|(exact (hΓx _).trans (hΓ _).symm))
 ·intro lpy1 y1 st1 x9 h
  unfold O1 at h
  refine zV [(4,.bp 1900 0),(8,.bp 1901 0),(9,.bp 1902 0),(31,.agg (.sl (.sl Y4) y1.1.1::(.sl (.sl .i) y1.1.2::(.sl .i y1.2.1::(b3 T80 y1.2.2.1++(.ii y1.2.2.2.1.1::(.ii y1.2.2.2.1.2.1::(.ii y1.2.2.2.1.2.2::(b3 T85 y1.2.2.2.2.1++(b3 T86 y1.2.2.2.2.2.1++(.ii y1.2.2.2.2.2.2::[])))))))))))] [(1900,.box 24 [.ii s.1,.ii s.2.1,.sl (.sl .i) s.2.2.1,.sl (.sl .i) s.2.2.2]),(1901,.box 28 [.cv (.slice none 0 0)]),(1902,.box 31 [.ii 0])] gt ?_
  refine AW.ops ?_
  refine zA [(4,.bp 1900 0),(8,.bp 1901 0),(9,.bp 1902 0),(13,.bp 13 0)] [(13,.box 88 (.sl (.sl Y4) y1.1.1::(.sl (.sl .i) y1.1.2::(.sl .i y1.2.1::(b3 T80 y1.2.2.1++(.ii y1.2.2.2.1.1::(.ii y1.2.2.2.1.2.1::(.ii y1.2.2.2.1.2.2::(b3 T85 y1.2.2.2.2.1++(b3 T86 y1.2.2.2.2.2.1++(.ii y1.2.2.2.2.2.2::[]))))))))))),(1900,.box 24 [.ii s.1,.ii s.2.1,.sl (.sl .i) s.2.2.1,.sl (.sl .i) s.2.2.2]),(1901,.box 28 [.cv (.slice none 0 0)]),(1902,.box 31 [.ii 0])] ?_
  refine And.intro rfl ?_
  refine AW.block ?_
  refine zo ?_
  refine zS 2 [(4,.bp 1900 0),(8,.bp 1901 0),(9,.bp 1902 0),(13,.bp 13 0),(32,.agg (.sl (.sl Y4) y1.1.1::(.sl (.sl .i) y1.1.2::(.sl .i y1.2.1::(b3 T80 y1.2.2.1++(.ii y1.2.2.2.1.1::(.ii y1.2.2.2.1.2.1::(.ii y1.2.2.2.1.2.2::(b3 T85 y1.2.2.2.2.1++(b3 T86 y1.2.2.2.2.2.1++(.ii y1.2.2.2.2.2.2::[]))))))))))),(33,.agg [.ii s.1,.ii s.2.1,.sl (.sl .i) s.2.2.1,.sl (.sl .i) s.2.2.2])] [(13,.box 88 (.sl (.sl Y4) y1.1.1::(.sl (.sl .i) y1.1.2::(.sl .i y1.2.1::(b3 T80 y1.2.2.1++(.ii y1.2.2.2.1.1::(.ii y1.2.2.2.1.2.1::(.ii y1.2.2.2.1.2.2::(b3 T85 y1.2.2.2.2.1++(b3 T86 y1.2.2.2.2.2.1++(.ii y1.2.2.2.2.2.2::[]))))))))))),(1900,.box 24 [.ii s.1,.ii s.2.1,.sl (.sl .i) s.2.2.1,.sl (.sl .i) s.2.2.2]),(1901,.box 28 [.cv (.slice none 0 0)]),(1902,.box 31 [.ii 0])] ?_
  obtain ⟨v0_5,hv10,h⟩:=zw h
  refine zC [] [] (a1d y1 s hv10) [(4,.bp 1900 0),(8,.bp 1901 0),(9,.bp 1902 0),(13,.bp 13 0),(34,.bool v0_5)] [(13,.box 88 (.sl (.sl Y4) y1.1.1::(.sl (.sl .i) y1.1.2::(.sl .i y1.2.1::(b3 T80 y1.2.2.1++(.ii y1.2.2.2.1.1::(.ii y1.2.2.2.1.2.1::(.ii y1.2.2.2.1.2.2::(b3 T85 y1.2.2.2.2.1++(b3 T86 y1.2.2.2.2.2.1++(.ii y1.2.2.2.2.2.2::[]))))))))))),(1900,.box 24 [.ii s.1,.ii s.2.1,.sl (.sl .i) s.2.2.1,.sl (.sl .i) s.2.2.2]),(1901,.box 28 [.cv (.slice none 0 0)]),(1902,.box 31 [.ii 0])] ?_
  refine zB [(4,.bp 1900 0),(8,.bp 1901 0),(9,.bp 1902 0),(13,.bp 13 0),(34,.bool v0_5)] [(13,.box 88 (.sl (.sl Y4) y1.1.1::(.sl (.sl .i) y1.1.2::(.sl .i y1.2.1::(b3 T80 y1.2.2.1++(.ii y1.2.2.2.1.1::(.ii y1.2.2.2.1.2.1::(.ii y1.2.2.2.1.2.2::(b3 T85 y1.2.2.2.2.1++(b3 T86 y1.2.2.2.2.2.1++(.ii y1.2.2.2.2.2.2::[]))))))))))),(1900,.box 24 [.ii s.1,.ii s.2.1,.sl (.sl .i) s.2.2.1,.sl (.sl .i) s.2.2.2]),(1901,.box 28 [.cv (.slice none 0 0)]),(1902,.box 31 [.ii 0])] ?_
  refine zQ h (fun hb11 h=>?_) (fun hb11 h=>?_)
  ·refine zo ?_
   refine zB [(4,.bp 1900 0),(8,.bp 1901 0),(9,.bp 1902 0)] [(1900,.box 24 [.ii s.1,.ii s.2.1,.sl (.sl .i) s.2.2.1,.sl (.sl .i) s.2.2.2]),(1901,.box 28 [.sl .i y1.2.1]),(1902,.box 31 [.ii 0])] ?_
   refine AW.ret ?_
   refine d7 ?_
   obtain rfl:=zj h
   exact b2C rfl rfl [] [] [] rfl (by (simp only [go_sem,hb2,hx5,hb11])<;>(with_reducible and_intros)<;>first|assumption|rfl|omega|(unfold maxLen; omega))
  refine zm ?_
  obtain rfl:=zj h
  exact a4s rfl [] [] [] rfl (by (simp only [go_sem,hb2,hx5,hb11])<;>(with_reducible and_intros)<;>first|assumption|rfl|omega|(unfold maxLen; omega))
 cases x7 with
 | inl st1_2 =>
  try simp only at h
  refine p6 ?_
  refine g5 ?_
  exact AW.weaken (zL [] [] []) (hk_code_Break_k2 () h)
 | inr r1 =>
  try simp only at h
  refine d7 ?_
  refine b9 ?_
  obtain rfl:=zj h
  exact zR [] [] []
theorem a4e (s:Int×Int×(List (List Int))×(List (List Int))) (c:List (List (Int×Int×Int×Int))) (use:List (List Int)) (steps:Int) {r:Bool×Int} (h:a0f s c use steps=some r):HC Try.prog 39 [] [.agg [.ii s.1,.ii s.2.1,.sl (.sl .i) s.2.2.1,.sl (.sl .i) s.2.2.2],.sl (.sl Y4) c,.sl (.sl .i) use,.ii steps] [] (.tup [.bool r.1,.ii r.2]):=by
 unfold a0f at h
 refine zH Try.func39 [.tmp 8,.tmp 9] 23 ?_
 refine zo ?_
 refine zB [(1,.sl (.sl Y4) c),(2,.sl (.sl .i) use),(3,.ii steps),(4,.bp 4 0)] [(4,.box 24 [.ii s.1,.ii s.2.1,.sl (.sl .i) s.2.2.1,.sl (.sl .i) s.2.2.2])] ?_
 refine zo ?_
 refine zS 4 [(13,.agg [.ii s.1,.ii s.2.1,.sl (.sl .i) s.2.2.1,.sl (.sl .i) s.2.2.2]),(14,.sl (.sl Y4) c),(15,.sl (.sl .i) use),(16,.ii steps)] [] ?_
 obtain ⟨v0,hv1,h⟩:=zw h
 refine zC [] [] (a4f s c use steps hv1) [(17,.tup [.sl .i v0.1,.ii v0.2])] [] ?_
 refine zB [(11,.ii v0.2)] [] ?_
 refine AW.seq ?_
 refine zo ?_
 refine zB [(11,.ii v0.2),(21,.bool (decide (v0.2=5)))] [] ?_
 refine zQ h (fun hb2 h=>?_) (fun hb2 h=>?_)
 ·refine zo ?_
  refine zB [(8,.bool true),(9,.ii 0)] [] ?_
  refine zr ?_
  obtain rfl:=zj h
  exact zR [] [] []
 refine zk ?_
 refine zo ?_
 refine zB [(8,.bool false),(9,.ii v0.2)] [] ?_
 refine AW.ret ?_
 obtain rfl:=zj h
 exact zR [] [] []
theorem a3B (s:Int×Int×(List (List Int))×(List (List Int))) (c:List (List (Int×Int×Int×Int))) (use:List (List Int)) (schedule:List Int) {r:Bool×Int} (h:Q3 s c use schedule=some r):HC Try.prog 41 [] [.agg [.ii s.1,.ii s.2.1,.sl (.sl .i) s.2.2.1,.sl (.sl .i) s.2.2.2],.sl (.sl Y4) c,.sl (.sl .i) use,.sl .i schedule] [] (.tup [.bool r.1,.ii r.2]):=by
 unfold Q3 at h
 refine zH Try.func41 [.tmp 8,.tmp 9] 32 ?_
 refine zo ?_
 refine zB [(1,.sl (.sl Y4) c),(2,.sl (.sl .i) use),(3,.sl .i schedule),(4,.bp 4 0)] [(4,.box 24 [.ii s.1,.ii s.2.1,.sl (.sl .i) s.2.2.1,.sl (.sl .i) s.2.2.2])] ?_
 refine AW.seq ?_
 refine zo ?_
 refine zS 2 [(1,.sl (.sl Y4) c),(2,.sl (.sl .i) use),(3,.sl .i schedule),(4,.bp 4 0),(13,.agg [.ii s.1,.ii s.2.1,.sl (.sl .i) s.2.2.1,.sl (.sl .i) s.2.2.2]),(14,.sl (.sl Y4) c)] [(4,.box 24 [.ii s.1,.ii s.2.1,.sl (.sl .i) s.2.2.1,.sl (.sl .i) s.2.2.2])] ?_
 obtain ⟨v0,hv1,h⟩:=zw h
 refine zC [] [] (a1F s c hv1) [(1,.sl (.sl Y4) c),(2,.sl (.sl .i) use),(3,.sl .i schedule),(4,.bp 4 0),(15,.ii v0)] [(4,.box 24 [.ii s.1,.ii s.2.1,.sl (.sl .i) s.2.2.1,.sl (.sl .i) s.2.2.2])] ?_
 refine zB [(1,.sl (.sl Y4) c),(2,.sl (.sl .i) use),(3,.sl .i schedule),(4,.bp 4 0),(10,.ii v0)] [(4,.box 24 [.ii s.1,.ii s.2.1,.sl (.sl .i) s.2.2.1,.sl (.sl .i) s.2.2.2])] ?_
 refine zo ?_
 refine zB [(1,.sl (.sl Y4) c),(2,.sl (.sl .i) use),(3,.sl .i schedule),(4,.bp 4 0),(10,.ii v0),(17,.bool (!(decide (v0=0))))] [(4,.box 24 [.ii s.1,.ii s.2.1,.sl (.sl .i) s.2.2.1,.sl (.sl .i) s.2.2.2])] ?_
 refine zQ h (fun hb2 h=>?_) (fun hb2 h=>?_)
 ·refine zo ?_
  refine zB [(8,.bool false),(9,.ii v0)] [] ?_
  refine zr ?_
  obtain rfl:=zj h
  exact zR [] [] []
 refine zk ?_
 refine zo ?_
 refine zS 3 [(4,.bp 4 0),(20,.sl (.sl Y4) c),(21,.sl (.sl .i) use),(22,.sl .i schedule)] [(4,.box 24 [.ii s.1,.ii s.2.1,.sl (.sl .i) s.2.2.1,.sl (.sl .i) s.2.2.2])] ?_
 obtain ⟨v0_2,hv3,h⟩:=zw h
 refine zC [] [] (a1e c use schedule hv3) [(4,.bp 4 0),(23,.tup [.agg (.sl (.sl Y4) v0_2.1::(.sl (.sl .i) v0_2.2.1::(.own 33000::(b3 T80 v0_2.2.2.2.1++(.ii v0_2.2.2.2.2.1::(.ii v0_2.2.2.2.2.2.1::(.ii v0_2.2.2.2.2.2.2.1::(b3 T85 v0_2.2.2.2.2.2.2.2.1++(b3 T86 v0_2.2.2.2.2.2.2.2.2.1++(.ii v0_2.2.2.2.2.2.2.2.2.2.1::[])))))))))),.ii v0_2.2.2.2.2.2.2.2.2.2.2])] [(4,.box 24 [.ii s.1,.ii s.2.1,.sl (.sl .i) s.2.2.1,.sl (.sl .i) s.2.2.2]),(33000,.arr 3 .i v0_2.2.2.1)] ?_
 refine AO.weaken (s':=⟨fr [(4,.bp 4 0),(23,.tup [.agg (.sl (.sl Y4) v0_2.1::(.sl (.sl .i) v0_2.2.1::(.sl .i v0_2.2.2.1::(b3 T80 v0_2.2.2.2.1++(.ii v0_2.2.2.2.2.1::(.ii v0_2.2.2.2.2.2.1::(.ii v0_2.2.2.2.2.2.2.1::(b3 T85 v0_2.2.2.2.2.2.2.2.1++(b3 T86 v0_2.2.2.2.2.2.2.2.2.1++(.ii v0_2.2.2.2.2.2.2.2.2.2.1::[])))))))))),.ii v0_2.2.2.2.2.2.2.2.2.2.2])],b6 [(4,.box 24 [.ii s.1,.ii s.2.1,.sl (.sl .i) s.2.2.1,.sl (.sl .i) s.2.2.2])],gt⟩) (zL [33000] [] []) ?_
 refine zS 5 [(4,.bp 4 0),(11,.bp 11 0),(25,.ii v0_2.2.2.2.2.2.2.2.2.2.2)] [(4,.box 24 [.ii s.1,.ii s.2.1,.sl (.sl .i) s.2.2.1,.sl (.sl .i) s.2.2.2]),(11,.box 88 (.sl (.sl Y4) v0_2.1::(.sl (.sl .i) v0_2.2.1::(.sl .i v0_2.2.2.1::(b3 T80 v0_2.2.2.2.1++(.ii v0_2.2.2.2.2.1::(.ii v0_2.2.2.2.2.2.1::(.ii v0_2.2.2.2.2.2.2.1::(b3 T85 v0_2.2.2.2.2.2.2.2.1++(b3 T86 v0_2.2.2.2.2.2.2.2.2.1++(.ii v0_2.2.2.2.2.2.2.2.2.2.1::[])))))))))))] ?_
 refine zB [(4,.bp 4 0),(11,.bp 11 0),(12,.ii v0_2.2.2.2.2.2.2.2.2.2.2)] [(4,.box 24 [.ii s.1,.ii s.2.1,.sl (.sl .i) s.2.2.1,.sl (.sl .i) s.2.2.2]),(11,.box 88 (.sl (.sl Y4) v0_2.1::(.sl (.sl .i) v0_2.2.1::(.sl .i v0_2.2.2.1::(b3 T80 v0_2.2.2.2.1++(.ii v0_2.2.2.2.2.1::(.ii v0_2.2.2.2.2.2.1::(.ii v0_2.2.2.2.2.2.2.1::(b3 T85 v0_2.2.2.2.2.2.2.2.1++(b3 T86 v0_2.2.2.2.2.2.2.2.2.1++(.ii v0_2.2.2.2.2.2.2.2.2.2.1::[])))))))))))] ?_
 refine AW.seq ?_
 refine zo ?_
 refine zB [(4,.bp 4 0),(11,.bp 11 0),(12,.ii v0_2.2.2.2.2.2.2.2.2.2.2),(27,.bool (!(decide (v0_2.2.2.2.2.2.2.2.2.2.2=0))))] [(4,.box 24 [.ii s.1,.ii s.2.1,.sl (.sl .i) s.2.2.1,.sl (.sl .i) s.2.2.2]),(11,.box 88 (.sl (.sl Y4) v0_2.1::(.sl (.sl .i) v0_2.2.1::(.sl .i v0_2.2.2.1::(b3 T80 v0_2.2.2.2.1++(.ii v0_2.2.2.2.2.1::(.ii v0_2.2.2.2.2.2.1::(.ii v0_2.2.2.2.2.2.2.1::(b3 T85 v0_2.2.2.2.2.2.2.2.1++(b3 T86 v0_2.2.2.2.2.2.2.2.2.1++(.ii v0_2.2.2.2.2.2.2.2.2.2.1::[])))))))))))] ?_
 refine zQ h (fun hb4 h=>?_) (fun hb4 h=>?_)
 ·refine zo ?_
  refine zB [(8,.bool false),(9,.ii v0_2.2.2.2.2.2.2.2.2.2.2)] [] ?_
  refine zr ?_
  obtain rfl:=zj h
  exact zR [] [] []
 refine zk ?_
 refine zo ?_
 refine zS 2 [(29,.agg (.sl (.sl Y4) v0_2.1::(.sl (.sl .i) v0_2.2.1::(.sl .i v0_2.2.2.1::(b3 T80 v0_2.2.2.2.1++(.ii v0_2.2.2.2.2.1::(.ii v0_2.2.2.2.2.2.1::(.ii v0_2.2.2.2.2.2.2.1::(b3 T85 v0_2.2.2.2.2.2.2.2.1++(b3 T86 v0_2.2.2.2.2.2.2.2.2.1++(.ii v0_2.2.2.2.2.2.2.2.2.2.1::[]))))))))))),(30,.agg [.ii s.1,.ii s.2.1,.sl (.sl .i) s.2.2.1,.sl (.sl .i) s.2.2.2])] [] ?_
 obtain ⟨v0_3,hv5,h⟩:=zw h
 refine zC [] [] (a1d ((v0_2.1,v0_2.2.1),v0_2.2.2.1,v0_2.2.2.2.1,(v0_2.2.2.2.2.1,v0_2.2.2.2.2.2.1,v0_2.2.2.2.2.2.2.1),v0_2.2.2.2.2.2.2.2.1,v0_2.2.2.2.2.2.2.2.2.1,v0_2.2.2.2.2.2.2.2.2.2.1) s hv5) [(31,.bool v0_3)] [] ?_
 refine zB [(8,.bool v0_3),(9,.ii 0)] [] ?_
 refine AW.ret ?_
 obtain rfl:=zj h
 exact zR [] [] []
end Go.Proofs.Ytenchhmcjmjlbaa
