import Derived.Test.YtenchhmcjmjlbaaCkp
import Derived.Test.YtenchhmcjmjlbaaShk
import Derived.Test.YtenchhmcjmjlbaaCfc11
import Derived.Test.YtenchhmcjmjlbaaCfc2
import Derived.Test.YtenchhmcjmjlbaaCfc5
import Derived.Test.YtenchhmcjmjlbaaCfc6
import Derived.Test.YtenchhmcjmjlbaaCfc8
import Derived.Test.YtenchhmcjmjlbaaCfc9
namespace Go.Proofs.Ytenchhmcjmjlbaa
open Go.RowKit
set_option linter.unusedSimpArgs false
set_option linter.unusedVariables false
set_option linter.constructorNameAsVariable false
set_option maxRecDepth 100000
set_option maxHeartbeats 40000000
theorem a5t (s:Int×Int×(List (List Int))×(List (List Int))) (c:List (List (Int×Int×Int×Int))) (word:List Int) {r:Bool×Int} (h:W4 s c word=some r):HC Try.prog 33 [] [.agg [.ii s.1,.ii s.2.1,.sl (.sl .i) s.2.2.1,.sl (.sl .i) s.2.2.2],.sl (.sl Y4) c,.sl .i word] [] (.tup [.bool r.1,.ii r.2]):=by
 unfold W4 at h
 refine zH Try.func33 [.cell 6 4,.cell 7 31] 61 ?_
 refine zo ?_
 refine zB [(1,.sl (.sl Y4) c),(2,.sl .i word),(3,.bp 3 0),(6,.bp 6 0),(7,.bp 7 0)] [(3,.box 24 [.ii s.1,.ii s.2.1,.sl (.sl .i) s.2.2.1,.sl (.sl .i) s.2.2.2]),(6,.box 4 [.bool false]),(7,.box 31 [.ii 0])] ?_
 refine AW.seq ?_
 refine zo ?_
 refine zS 2 [(1,.sl (.sl Y4) c),(2,.sl .i word),(3,.bp 3 0),(6,.bp 6 0),(7,.bp 7 0),(16,.agg [.ii s.1,.ii s.2.1,.sl (.sl .i) s.2.2.1,.sl (.sl .i) s.2.2.2]),(17,.sl (.sl Y4) c)] [(3,.box 24 [.ii s.1,.ii s.2.1,.sl (.sl .i) s.2.2.1,.sl (.sl .i) s.2.2.2]),(6,.box 4 [.bool false]),(7,.box 31 [.ii 0])] ?_
 obtain ⟨v0,hv1,h⟩:=zw h
 refine zC [] [] (a37 s c hv1) [(1,.sl (.sl Y4) c),(2,.sl .i word),(3,.bp 3 0),(6,.bp 6 0),(7,.bp 7 0),(18,.ii v0)] [(3,.box 24 [.ii s.1,.ii s.2.1,.sl (.sl .i) s.2.2.1,.sl (.sl .i) s.2.2.2]),(6,.box 4 [.bool false]),(7,.box 31 [.ii 0])] ?_
 refine zB [(1,.sl (.sl Y4) c),(2,.sl .i word),(3,.bp 3 0),(6,.bp 6 0),(7,.bp 7 0),(8,.ii v0)] [(3,.box 24 [.ii s.1,.ii s.2.1,.sl (.sl .i) s.2.2.1,.sl (.sl .i) s.2.2.2]),(6,.box 4 [.bool false]),(7,.box 31 [.ii 0])] ?_
 refine zo ?_
 refine zB [(1,.sl (.sl Y4) c),(2,.sl .i word),(3,.bp 3 0),(6,.bp 6 0),(7,.bp 7 0),(8,.ii v0),(20,.bool (!(decide (v0=0))))] [(3,.box 24 [.ii s.1,.ii s.2.1,.sl (.sl .i) s.2.2.1,.sl (.sl .i) s.2.2.2]),(6,.box 4 [.bool false]),(7,.box 31 [.ii 0])] ?_
 refine zQ h (fun hb2 h=>?_) (fun hb2 h=>?_)
 ·refine zo ?_
  refine zB [(6,.bp 6 0),(7,.bp 7 0)] [(6,.box 4 [.bool false]),(7,.box 31 [.ii v0])] ?_
  refine zr ?_
  obtain rfl:=zj h
  exact zR [] [] []
 refine zk ?_
 refine AW.seq ?_
 refine zo ?_
 refine zS 2 [(1,.sl (.sl Y4) c),(2,.sl .i word),(3,.bp 3 0),(6,.bp 6 0),(7,.bp 7 0),(22,.sl (.sl Y4) c),(23,.sl .i word)] [(3,.box 24 [.ii s.1,.ii s.2.1,.sl (.sl .i) s.2.2.1,.sl (.sl .i) s.2.2.2]),(6,.box 4 [.bool false]),(7,.box 31 [.ii 0])] ?_
 obtain ⟨v0_2,hv3,h⟩:=zw h
 refine zC [] [] (a2M c word hv3) [(1,.sl (.sl Y4) c),(2,.sl .i word),(3,.bp 3 0),(6,.bp 6 0),(7,.bp 7 0),(24,.bool v0_2)] [(3,.box 24 [.ii s.1,.ii s.2.1,.sl (.sl .i) s.2.2.1,.sl (.sl .i) s.2.2.2]),(6,.box 4 [.bool false]),(7,.box 31 [.ii 0])] ?_
 refine zB [(1,.sl (.sl Y4) c),(2,.sl .i word),(3,.bp 3 0),(6,.bp 6 0),(7,.bp 7 0),(25,.bool (!v0_2))] [(3,.box 24 [.ii s.1,.ii s.2.1,.sl (.sl .i) s.2.2.1,.sl (.sl .i) s.2.2.2]),(6,.box 4 [.bool false]),(7,.box 31 [.ii 0])] ?_
 refine zQ h (fun hb4 h=>?_) (fun hb4 h=>?_)
 ·refine zo ?_
  refine zB [(6,.bp 6 0),(7,.bp 7 0)] [(6,.box 4 [.bool false]),(7,.box 31 [.ii 2])] ?_
  refine zr ?_
  obtain rfl:=zj h
  exact zR [] [] []
 refine zk ?_
 refine zo ?_
 refine zS 2 [(1,.sl (.sl Y4) c),(2,.sl .i word),(6,.bp 6 0),(7,.bp 7 0),(27,.agg [.ii s.1,.ii s.2.1,.sl (.sl .i) s.2.2.1,.sl (.sl .i) s.2.2.2]),(28,.sl .i word)] [(6,.box 4 [.bool false]),(7,.box 31 [.ii 0])] ?_
 obtain ⟨v0_3,hv5,h⟩:=zw h
 refine zC [] [] (a8S s 0 word hv5) [(1,.sl (.sl Y4) c),(2,.sl .i word),(6,.bp 6 0),(7,.bp 7 0),(29,.tup [.own 39000,.ii v0_3.2.1,.ii v0_3.2.2])] [(6,.box 4 [.bool false]),(7,.box 31 [.ii 0]),(39000,.arr 3 .i v0_3.1)] ?_
 refine zS 5 [(1,.sl (.sl Y4) c),(2,.sl .i word),(6,.bp 6 0),(7,.bp 7 0),(9,.bp 9 0),(30,.own 39000),(31,.ii v0_3.2.1),(32,.ii v0_3.2.2)] [(6,.box 4 [.bool false]),(7,.box 31 [.ii 0]),(9,.box 28 [.cv (.slice none 0 0)]),(39000,.arr 3 .i v0_3.1)] ?_
 refine zB [(1,.sl (.sl Y4) c),(2,.sl .i word),(6,.bp 6 0),(7,.bp 7 0),(9,.bp 9 0)] [(6,.box 4 [.bool false]),(7,.box 31 [.ii 0]),(9,.box 28 [.own 39000]),(39000,.arr 3 .i v0_3.1)] ?_
 refine AW.have1 (fun _:Unit=>a0j=some r) (fun _=>⟨fr [(6,.bp 6 0),(7,.bp 7 0)],b8 [(6,.box 4 [.bool false]),(7,.box 31 [.ii 0])],gt⟩) (fun _ h=>?_) (fun hk_code_Follows_k1=>?_)
 ·as_aux_lemma =>
   unfold a0j at h
   refine zo ?_
   refine zB [(6,.bp 6 0),(7,.bp 7 0)] [(6,.box 4 [.bool true]),(7,.box 31 [.ii 0])] ?_
   refine AW.ret ?_
   obtain rfl:=zj h
   exact zR [] [] []
 refine AW.seq ?_
 refine zo ?_
 refine zS 4 [(6,.bp 6 0),(7,.bp 7 0),(9,.bp 9 0),(36,.agg [.sl (.sl Y4) c,.own 35])] [(6,.box 4 [.bool false]),(7,.box 31 [.ii 0]),(9,.box 28 [.own 39000]),(35,.arr 28 (.sl .i) [word]),(39000,.arr 3 .i v0_3.1)] ?_
 obtain ⟨v0_4,hv6,h⟩:=zw h
 refine zC [35] [] (a2K (c,[word]) 12 hv6) [(6,.bp 6 0),(7,.bp 7 0),(9,.bp 9 0),(37,.fn (.func 133) [] [.bp 47000 0,.bp 47001 0])] [(6,.box 4 [.bool false]),(7,.box 31 [.ii 0]),(9,.box 28 [.own 39000]),(39000,.arr 3 .i v0_3.1),(47000,.box 77 [.sl (.sl Y4) c,.sl (.sl .i) [word]]),(47001,.box 3 [.ii 12])] ?_
 refine zB [(6,.bp 6 0),(7,.bp 7 0),(9,.bp 9 0),(37,.fn (.func 133) [] [.bp 47000 0,.bp 47001 0])] [(6,.box 4 [.bool false]),(7,.box 31 [.ii 0]),(9,.box 28 [.own 39000]),(39000,.arr 3 .i v0_3.1),(47000,.box 77 [.sl (.sl Y4) c,.sl (.sl .i) [word]]),(47001,.box 3 [.ii 12])] ?_
 refine AW.block ?_
 obtain ⟨x7,hx8,h⟩:=zw h
 refine AW.weaken (s':=⟨fr [(6,.bp 6 0),(7,.bp 7 0),(9,.bp 9 0),(37,.fn (.func 133) [] [.bp 47000 0,.bp 47001 0])],b8 ([(47000,.box 77 [.sl (.sl Y4) c,.sl (.sl .i) [word]]),(47001,.box 3 [.ii 12])]++[(6,.box 4 [.bool false]),(7,.box 31 [.ii 0]),(9,.box 28 [.own 39000]),(39000,.arr 3 .i v0_3.1)]),gt⟩) (zL [] [] []) ?_
 refine AW.rangeF (R:=Unit) (r:=x7) (gf:=133) (prev:=[]) (capv:=[.bp 47000 0,.bp 47001 0]) (enc:=(fun (y:(((List (List (Int×Int×Int×Int)))×(List (List Int)))×(List Int)×(El T80)×(Int×Int×Int)×(El T85)×(El T86)×Int))=>[.agg (.sl (.sl Y4) y.1.1::(.sl (.sl .i) y.1.2::(.sl .i y.2.1::(b4 T80 y.2.2.1++(.ii y.2.2.2.1.1::(.ii y.2.2.2.1.2.1::(.ii y.2.2.2.1.2.2::(b4 T85 y.2.2.2.2.1++(b4 T86 y.2.2.2.2.2.1++(.ii y.2.2.2.2.2.2::[]))))))))))])) (bodyP:=v8 v0_3) (l0:=[(6,.bp 6 0),(7,.bp 7 0),(9,.bp 9 0)]) (hI:=[(47000,.box 77 [.sl (.sl Y4) c,.sl (.sl .i) [word]]),(47001,.box 3 [.ii 12])]) (h0:=fun (st1:Unit)=>[(6,.box 4 [.bool false]),(7,.box 31 [.ii 0]),(9,.box 28 [.own 39000]),(39000,.arr 3 .i v0_3.1)]) (gg:=fun (st1:Unit)=>gt) (hx0:=(fun (_:Unit)=>[(6,.box 4 [.bool false]),(7,.box 31 [.ii 0]),(9,.box 28 [.own 39000]),(39000,.arr 3 .i v0_3.1)])) (gx:=(fun (_:Unit)=>gt)) (ex:=(fun (_:Unit)=>Exit.ret)) () [(47000,1000),(47001,1001)] [(1000,47000),(1001,47001)] [(6,1900),(7,1901),(9,1902)] [(1900,6),(1901,7),(1902,9)] ?_ ?_ ?_ ?_ ?_ ?_ ?_ ?_ ?_ ?_ ?_ ?_ ?_ ?_ ?_ ?_ ?_ ?_ ?_ ?_
 ·decide
 ·rfl
 ·first|exact (V8 (c,[word]) 12 (v8 v0_3) () hx8)|simpa only [go_sem] using (V8 (c,[word]) 12 (v8 v0_3) () hx8)
 ·(simp only [go_sem,hb2,hb4])<;>(with_reducible and_intros)<;>first|assumption|rfl|omega|(unfold maxLen; omega)
 ·rfl
 ·rfl
 ·rfl
 ·exact (fun _=>rfl)
 ·rfl
 ·exact (fun _=>rfl)
 ·rfl
 ·exact (fun _=>rfl)
 ·exact (fun _=>rfl)
 ·exact (fun _=>rfl)
 ·exact (fun _=>rfl)
 ·rfl
 ·exact (fun _ _=>by first|rfl|(exact (hΓ _).trans (hΓ _).symm)|(exact (hΓx _).trans (hΓ _).symm))
 ·exact (fun _ _=>by first|rfl|(exact (hΓ _).trans (hΓ _).symm)|(exact (hΓx _).trans (hΓ _).symm))
 ·intro lpy1 y1 st1 x9 h
  unfold v8 at h
  refine zV [(6,.bp 1900 0),(7,.bp 1901 0),(9,.bp 1902 0),(38,.agg (.sl (.sl Y4) y1.1.1::(.sl (.sl .i) y1.1.2::(.sl .i y1.2.1::(b4 T80 y1.2.2.1++(.ii y1.2.2.2.1.1::(.ii y1.2.2.2.1.2.1::(.ii y1.2.2.2.1.2.2::(b4 T85 y1.2.2.2.2.1++(b4 T86 y1.2.2.2.2.2.1++(.ii y1.2.2.2.2.2.2::[])))))))))))] [(1900,.box 4 [.bool false]),(1901,.box 31 [.ii 0]),(1902,.box 28 [.own 39000]),(39000,.arr 3 .i v0_3.1)] gt ?_
  refine AW.ops ?_
  refine zA [(6,.bp 1900 0),(7,.bp 1901 0),(9,.bp 1902 0),(12,.bp 12 0)] [(12,.box 88 (.sl (.sl Y4) y1.1.1::(.sl (.sl .i) y1.1.2::(.sl .i y1.2.1::(b4 T80 y1.2.2.1++(.ii y1.2.2.2.1.1::(.ii y1.2.2.2.1.2.1::(.ii y1.2.2.2.1.2.2::(b4 T85 y1.2.2.2.2.1++(b4 T86 y1.2.2.2.2.2.1++(.ii y1.2.2.2.2.2.2::[]))))))))))),(1900,.box 4 [.bool false]),(1901,.box 31 [.ii 0]),(1902,.box 28 [.own 39000]),(39000,.arr 3 .i v0_3.1)] ?_
  refine And.intro rfl ?_
  refine AW.block ?_
  refine zo ?_
  refine zB [(6,.bp 1900 0),(7,.bp 1901 0),(9,.bp 1902 0),(12,.bp 12 0),(13,.cv (.slice none 0 0))] [(12,.box 88 (.sl (.sl Y4) y1.1.1::(.sl (.sl .i) y1.1.2::(.sl .i y1.2.1::(b4 T80 y1.2.2.1++(.ii y1.2.2.2.1.1::(.ii y1.2.2.2.1.2.1::(.ii y1.2.2.2.1.2.2::(b4 T85 y1.2.2.2.2.1++(b4 T86 y1.2.2.2.2.2.1++(.ii y1.2.2.2.2.2.2::[]))))))))))),(1900,.box 4 [.bool false]),(1901,.box 31 [.ii 0]),(1902,.box 28 [.own 39000]),(39000,.arr 3 .i v0_3.1)] ?_
  refine AW.have1 (fun b2:(List Int)=>T7 v0_3 y1 b2=some x9) (fun b2=>⟨fr [(6,.bp 1900 0),(7,.bp 1901 0),(9,.bp 1902 0),(12,.bp 12 0),(13,.own 50)],b8 [(12,.box 88 (.sl (.sl Y4) y1.1.1::(.sl (.sl .i) y1.1.2::(.sl .i y1.2.1::(b4 T80 y1.2.2.1++(.ii y1.2.2.2.1.1::(.ii y1.2.2.2.1.2.1::(.ii y1.2.2.2.1.2.2::(b4 T85 y1.2.2.2.2.1++(b4 T86 y1.2.2.2.2.2.1++(.ii y1.2.2.2.2.2.2::[]))))))))))),(50,.arr 3 .i b2),(1900,.box 4 [.bool false]),(1901,.box 31 [.ii 0]),(1902,.box 28 [.own 39000]),(39000,.arr 3 .i v0_3.1)],gt⟩) (fun b2 h=>?_) (fun hk_code_Follows_k2=>?_)
  ·as_aux_lemma =>
    unfold T7 at h
    refine zo ?_
    refine zS 1 [(6,.bp 1900 0),(7,.bp 1901 0),(9,.bp 1902 0),(13,.own 50),(52,.agg (.sl (.sl Y4) y1.1.1::(.sl (.sl .i) y1.1.2::(.sl .i y1.2.1::(b4 T80 y1.2.2.1++(.ii y1.2.2.2.1.1::(.ii y1.2.2.2.1.2.1::(.ii y1.2.2.2.1.2.2::(b4 T85 y1.2.2.2.2.1++(b4 T86 y1.2.2.2.2.2.1++(.ii y1.2.2.2.2.2.2::[])))))))))))] [(50,.arr 3 .i b2),(1900,.box 4 [.bool false]),(1901,.box 31 [.ii 0]),(1902,.box 28 [.own 39000]),(39000,.arr 3 .i v0_3.1)] ?_
    obtain ⟨v0_6,hv10,h⟩:=zw h
    refine zC [] [] (a3E y1 hv10) [(6,.bp 1900 0),(7,.bp 1901 0),(9,.bp 1902 0),(13,.own 50),(53,.bool v0_6)] [(50,.arr 3 .i b2),(1900,.box 4 [.bool false]),(1901,.box 31 [.ii 0]),(1902,.box 28 [.own 39000]),(39000,.arr 3 .i v0_3.1)] ?_
    refine zS 2 [(6,.bp 1900 0),(7,.bp 1901 0),(9,.bp 1902 0),(13,.own 50),(55,.bool (!v0_6))] [(50,.arr 3 .i b2),(1900,.box 4 [.bool false]),(1901,.box 31 [.ii 0]),(1902,.box 28 [.own 39000]),(39000,.arr 3 .i v0_3.1)] ?_
    rcases zI h with ⟨hb11,h⟩|⟨hb11,h⟩
    ·refine zS 4 [(6,.bp 1900 0),(7,.bp 1901 0),(9,.bp 1902 0),(55,.bool true),(59,.cv (undef))] [(1900,.box 4 [.bool false]),(1901,.box 31 [.ii 0]),(1902,.box 28 [.own 39000]),(39000,.arr 3 .i v0_3.1)] ?_
     refine zB [(6,.bp 1900 0),(7,.bp 1901 0),(9,.bp 1902 0),(60,.bool true)] [(1900,.box 4 [.bool false]),(1901,.box 31 [.ii 0]),(1902,.box 28 [.own 39000]),(39000,.arr 3 .i v0_3.1)] ?_
     refine AW.cond (b:=true) rfl (fun _=>?_) (fun hb12=>by cases hb12)
     refine zo ?_
     refine zB [(6,.bp 1900 0),(7,.bp 1901 0),(9,.bp 1902 0)] [(1900,.box 4 [.bool false]),(1901,.box 31 [.ii 0]),(1902,.box 28 [.own 39000]),(39000,.arr 3 .i v0_3.1)] ?_
     refine AW.ret ?_
     refine d7 ?_
     obtain rfl:=zj h
     exact a6Y rfl rfl [] [] [] rfl (by (simp only [go_sem,hb2,hb4,hb11])<;>(with_reducible and_intros)<;>first|assumption|rfl|omega|(unfold maxLen; omega))
    refine zS 2 [(6,.bp 1900 0),(7,.bp 1901 0),(9,.bp 1902 0),(55,.bool false),(56,.own 50),(57,.own 39000)] [(50,.arr 3 .i b2),(1900,.box 4 [.bool false]),(1901,.box 31 [.ii 0]),(1902,.box 28 [.own 39000]),(39000,.arr 3 .i v0_3.1)] ?_
    obtain ⟨v0_7,hv13,h⟩:=zw h
    refine zG [50,39000] [] (a5o b2 v0_3.1 hv13) [(6,.bp 1900 0),(7,.bp 1901 0),(9,.bp 1902 0),(55,.bool false),(58,.bool v0_7)] [(1900,.box 4 [.bool false]),(1901,.box 31 [.ii 0]),(1902,.box 28 [.own 39000]),(39000,.arr 3 .i v0_3.1)] ?_
    refine zB [(6,.bp 1900 0),(7,.bp 1901 0),(9,.bp 1902 0),(60,.bool (!v0_7))] [(1900,.box 4 [.bool false]),(1901,.box 31 [.ii 0]),(1902,.box 28 [.own 39000]),(39000,.arr 3 .i v0_3.1)] ?_
    refine zQ h (fun hb14 h=>?_) (fun hb14 h=>?_)
    ·refine zo ?_
     refine zB [(6,.bp 1900 0),(7,.bp 1901 0),(9,.bp 1902 0)] [(1900,.box 4 [.bool false]),(1901,.box 31 [.ii 0]),(1902,.box 28 [.own 39000]),(39000,.arr 3 .i v0_3.1)] ?_
     refine AW.ret ?_
     refine d7 ?_
     obtain rfl:=zj h
     exact a6Y rfl rfl [] [] [] rfl (by (simp only [go_sem,hb2,hb4,hb11,hb14])<;>(with_reducible and_intros)<;>first|assumption|rfl|omega|(unfold maxLen; omega))
    refine zm ?_
    obtain rfl:=zj h
    exact a51 rfl [] [] [] rfl (by (simp only [go_sem,hb2,hb4,hb11,hb14])<;>(with_reducible and_intros)<;>first|assumption|rfl|omega|(unfold maxLen; omega))
  refine AW.seq ?_
  refine zo ?_
  refine zS 1 [(6,.bp 1900 0),(7,.bp 1901 0),(9,.bp 1902 0),(12,.bp 12 0),(13,.cv (.slice none 0 0)),(39,.agg (.sl (.sl Y4) y1.1.1::(.sl (.sl .i) y1.1.2::(.sl .i y1.2.1::(b4 T80 y1.2.2.1++(.ii y1.2.2.2.1.1::(.ii y1.2.2.2.1.2.1::(.ii y1.2.2.2.1.2.2::(b4 T85 y1.2.2.2.2.1++(b4 T86 y1.2.2.2.2.2.1++(.ii y1.2.2.2.2.2.2::[])))))))))))] [(12,.box 88 (.sl (.sl Y4) y1.1.1::(.sl (.sl .i) y1.1.2::(.sl .i y1.2.1::(b4 T80 y1.2.2.1++(.ii y1.2.2.2.1.1::(.ii y1.2.2.2.1.2.1::(.ii y1.2.2.2.1.2.2::(b4 T85 y1.2.2.2.2.1++(b4 T86 y1.2.2.2.2.2.1++(.ii y1.2.2.2.2.2.2::[]))))))))))),(1900,.box 4 [.bool false]),(1901,.box 31 [.ii 0]),(1902,.box 28 [.own 39000]),(39000,.arr 3 .i v0_3.1)] ?_
  obtain ⟨v0_5,hv15,h⟩:=zw h
  refine zC [] [] (a0l y1 hv15) [(6,.bp 1900 0),(7,.bp 1901 0),(9,.bp 1902 0),(12,.bp 12 0),(13,.cv (.slice none 0 0)),(40,.own 50000)] [(12,.box 88 (.sl (.sl Y4) y1.1.1::(.sl (.sl .i) y1.1.2::(.sl .i y1.2.1::(b4 T80 y1.2.2.1++(.ii y1.2.2.2.1.1::(.ii y1.2.2.2.1.2.1::(.ii y1.2.2.2.1.2.2::(b4 T85 y1.2.2.2.2.1++(b4 T86 y1.2.2.2.2.2.1++(.ii y1.2.2.2.2.2.2::[]))))))))))),(1900,.box 4 [.bool false]),(1901,.box 31 [.ii 0]),(1902,.box 28 [.own 39000]),(39000,.arr 3 .i v0_3.1),(50000,.arr 68 Y0 v0_5)] ?_
  refine zB [(6,.bp 1900 0),(7,.bp 1901 0),(9,.bp 1902 0),(12,.bp 12 0),(13,.cv (.slice none 0 0)),(40,.own 50000),(41,.ii (v0_5.length:Int)),(42,.ii 0)] [(12,.box 88 (.sl (.sl Y4) y1.1.1::(.sl (.sl .i) y1.1.2::(.sl .i y1.2.1::(b4 T80 y1.2.2.1++(.ii y1.2.2.2.1.1::(.ii y1.2.2.2.1.2.1::(.ii y1.2.2.2.1.2.2::(b4 T85 y1.2.2.2.2.1++(b4 T86 y1.2.2.2.2.2.1++(.ii y1.2.2.2.2.2.2::[]))))))))))),(1900,.box 4 [.bool false]),(1901,.box 31 [.ii 0]),(1902,.box 28 [.own 39000]),(39000,.arr 3 .i v0_3.1),(50000,.arr 68 Y0 v0_5)] ?_
  refine AW.block ?_
  obtain ⟨rv20,hw16,ho17⟩:=zw h
  refine AW.loopO (J5 v0_5) (fun st2=>⟨fr [(6,.bp 1900 0),(7,.bp 1901 0),(9,.bp 1902 0),(12,.bp 12 0),(13,.own 50),(40,.own 50000),(41,.ii (v0_5.length:Int)),(42,.ii st2.2)],b8 [(12,.box 88 (.sl (.sl Y4) y1.1.1::(.sl (.sl .i) y1.1.2::(.sl .i y1.2.1::(b4 T80 y1.2.2.1++(.ii y1.2.2.2.1.1::(.ii y1.2.2.2.1.2.1::(.ii y1.2.2.2.1.2.2::(b4 T85 y1.2.2.2.2.1++(b4 T86 y1.2.2.2.2.2.1++(.ii y1.2.2.2.2.2.2::[]))))))))))),(50,.arr 3 .i st2.1),(1900,.box 4 [.bool false]),(1901,.box 31 [.ii 0]),(1902,.box 28 [.own 39000]),(39000,.arr 3 .i v0_3.1),(50000,.arr 68 Y0 v0_5)],gt⟩) ([],0) hw16 (zL [] [50] []) ?_
  as_aux_lemma =>
   intro st2 x19 h hd18
   unfold J5 at h
   refine zo ?_
   refine zB [(6,.bp 1900 0),(7,.bp 1901 0),(9,.bp 1902 0),(12,.bp 12 0),(13,.own 50),(40,.own 50000),(41,.ii (v0_5.length:Int)),(42,.ii st2.2),(43,.bool (decide (st2.2<(v0_5.length:Int))))] [(12,.box 88 (.sl (.sl Y4) y1.1.1::(.sl (.sl .i) y1.1.2::(.sl .i y1.2.1::(b4 T80 y1.2.2.1++(.ii y1.2.2.2.1.1::(.ii y1.2.2.2.1.2.1::(.ii y1.2.2.2.1.2.2::(b4 T85 y1.2.2.2.2.1++(b4 T86 y1.2.2.2.2.2.1++(.ii y1.2.2.2.2.2.2::[]))))))))))),(50,.arr 3 .i st2.1),(1900,.box 4 [.bool false]),(1901,.box 31 [.ii 0]),(1902,.box 28 [.own 39000]),(39000,.arr 3 .i v0_3.1),(50000,.arr 68 Y0 v0_5)] ?_
   refine AW.seq ?_
   refine zQ h (fun hb21 h=>?_) (fun hb21 h=>?_)
   ·refine zk ?_
    refine AW.seq ?_
    refine AW.block ?_
    refine zo ?_
    obtain ⟨c22,h⟩:=b5.1 h
    obtain ⟨c23,h⟩:=b5.1 h
    refine zB [(6,.bp 1900 0),(7,.bp 1901 0),(9,.bp 1902 0),(12,.bp 12 0),(13,.own 50),(15,.bp 15 0),(40,.own 50000),(41,.ii (v0_5.length:Int)),(42,.ii st2.2)] [(12,.box 88 (.sl (.sl Y4) y1.1.1::(.sl (.sl .i) y1.1.2::(.sl .i y1.2.1::(b4 T80 y1.2.2.1++(.ii y1.2.2.2.1.1::(.ii y1.2.2.2.1.2.1::(.ii y1.2.2.2.1.2.2::(b4 T85 y1.2.2.2.2.1++(b4 T86 y1.2.2.2.2.2.1++(.ii y1.2.2.2.2.2.2::[]))))))))))),(15,.box 68 [.ii (v0_5.getD st2.2.toNat (0,0,0,0,0,0)).1,.ii (v0_5.getD st2.2.toNat (0,0,0,0,0,0)).2.1,.ii (v0_5.getD st2.2.toNat (0,0,0,0,0,0)).2.2.1,.ii (v0_5.getD st2.2.toNat (0,0,0,0,0,0)).2.2.2.1,.ii (v0_5.getD st2.2.toNat (0,0,0,0,0,0)).2.2.2.2.1,.ii (v0_5.getD st2.2.toNat (0,0,0,0,0,0)).2.2.2.2.2]),(50,.arr 3 .i st2.1),(1900,.box 4 [.bool false]),(1901,.box 31 [.ii 0]),(1902,.box 28 [.own 39000]),(39000,.arr 3 .i v0_3.1),(50000,.arr 68 Y0 v0_5)] ?_
    refine AW.ops ?_
    obtain ⟨c24,h⟩:=b5.1 h
    refine zS 5 [(6,.bp 1900 0),(7,.bp 1901 0),(9,.bp 1902 0),(12,.bp 12 0),(40,.own 50000),(41,.ii (v0_5.length:Int)),(42,.ii st2.2),(50,.own 50)] [(12,.box 88 (.sl (.sl Y4) y1.1.1::(.sl (.sl .i) y1.1.2::(.sl .i y1.2.1::(b4 T80 y1.2.2.1++(.ii y1.2.2.2.1.1::(.ii y1.2.2.2.1.2.1::(.ii y1.2.2.2.1.2.2::(b4 T85 y1.2.2.2.2.1++(b4 T86 y1.2.2.2.2.2.1++(.ii y1.2.2.2.2.2.2::[]))))))))))),(50,.arr 3 .i (st2.1++[(v0_5.getD st2.2.toNat (0,0,0,0,0,0)).2.2.2.1])),(1900,.box 4 [.bool false]),(1901,.box 31 [.ii 0]),(1902,.box 28 [.own 39000]),(39000,.arr 3 .i v0_3.1),(50000,.arr 68 Y0 v0_5)] ?_
    refine zA [(6,.bp 1900 0),(7,.bp 1901 0),(9,.bp 1902 0),(12,.bp 12 0),(13,.own 50),(40,.own 50000),(41,.ii (v0_5.length:Int)),(42,.ii st2.2)] [(12,.box 88 (.sl (.sl Y4) y1.1.1::(.sl (.sl .i) y1.1.2::(.sl .i y1.2.1::(b4 T80 y1.2.2.1++(.ii y1.2.2.2.1.1::(.ii y1.2.2.2.1.2.1::(.ii y1.2.2.2.1.2.2::(b4 T85 y1.2.2.2.2.1++(b4 T86 y1.2.2.2.2.2.1++(.ii y1.2.2.2.2.2.2::[]))))))))))),(50,.arr 3 .i (st2.1++[(v0_5.getD st2.2.toNat (0,0,0,0,0,0)).2.2.2.1])),(1900,.box 4 [.bool false]),(1901,.box 31 [.ii 0]),(1902,.box 28 [.own 39000]),(39000,.arr 3 .i v0_3.1),(50000,.arr 68 Y0 v0_5)] ?_
    refine i6 ?_
    refine f7 ?_
    refine AW.ops ?_
    obtain ⟨c25,h⟩:=b5.1 h
    refine zA [(6,.bp 1900 0),(7,.bp 1901 0),(9,.bp 1902 0),(12,.bp 12 0),(13,.own 50),(40,.own 50000),(41,.ii (v0_5.length:Int)),(42,.ii (st2.2+1))] [(12,.box 88 (.sl (.sl Y4) y1.1.1::(.sl (.sl .i) y1.1.2::(.sl .i y1.2.1::(b4 T80 y1.2.2.1++(.ii y1.2.2.2.1.1::(.ii y1.2.2.2.1.2.1::(.ii y1.2.2.2.1.2.2::(b4 T85 y1.2.2.2.2.1++(b4 T86 y1.2.2.2.2.2.1++(.ii y1.2.2.2.2.2.2::[]))))))))))),(50,.arr 3 .i (st2.1++[(v0_5.getD st2.2.toNat (0,0,0,0,0,0)).2.2.2.1])),(1900,.box 4 [.bool false]),(1901,.box 31 [.ii 0]),(1902,.box 28 [.own 39000]),(39000,.arr 3 .i v0_3.1),(50000,.arr 68 Y0 v0_5)] ?_
    obtain rfl:=zj h
    exact ⟨_,rfl,zL [] [] []⟩
   refine AW.exit ?_
   refine g7 ?_
   obtain rfl:=zj h
   rw [← hd18 _ rfl] at ho17
   have h:=ho17
   refine g7 ?_
   refine l9 ?_
   refine f7 ?_
   have hj:=hk_code_Follows_k2 _ h
   exact AW.weaken (zL [] [] []) hj
 cases x7 with
 | inl st1_2 =>
  try simp only at h
  refine i6 ?_
  refine f7 ?_
  exact AW.weaken (zL [] [] []) (hk_code_Follows_k1 () h)
 | inr _ =>
  try simp only at h
  refine d7 ?_
  refine d6 ?_
  obtain rfl:=zj h
  exact zR [] [] []
theorem a2o (s:Int×Int×(List (List Int))×(List (List Int))) (c:List (List (Int×Int×Int×Int))) {r:Bool} (h:H7 s c=some r):HC Try.prog 81 [] [.agg [.ii s.1,.ii s.2.1,.sl (.sl .i) s.2.2.1,.sl (.sl .i) s.2.2.2],.sl (.sl Y4) c] [] (.bool r):=by
 unfold H7 at h
 refine zH Try.func81 [.tmp 4] 14 ?_
 refine zo ?_
 refine zB [(1,.sl (.sl Y4) c),(2,.bp 2 0)] [(2,.box 24 [.ii s.1,.ii s.2.1,.sl (.sl .i) s.2.2.1,.sl (.sl .i) s.2.2.2])] ?_
 refine zo ?_
 refine zS 1 [(1,.sl (.sl Y4) c),(2,.bp 2 0),(5,.agg [.ii s.1,.ii s.2.1,.sl (.sl .i) s.2.2.1,.sl (.sl .i) s.2.2.2])] [(2,.box 24 [.ii s.1,.ii s.2.1,.sl (.sl .i) s.2.2.1,.sl (.sl .i) s.2.2.2])] ?_
 obtain ⟨v0,hv1,h⟩:=zw h
 refine zC [] [] (a2H s hv1) [(1,.sl (.sl Y4) c),(2,.bp 2 0),(6,.bool v0)] [(2,.box 24 [.ii s.1,.ii s.2.1,.sl (.sl .i) s.2.2.1,.sl (.sl .i) s.2.2.2])] ?_
 refine zS 1 [(1,.sl (.sl Y4) c),(2,.bp 2 0),(7,.bool v0)] [(2,.box 24 [.ii s.1,.ii s.2.1,.sl (.sl .i) s.2.2.1,.sl (.sl .i) s.2.2.2])] ?_
 rcases zI h with ⟨hb2,h⟩|⟨hb2,h⟩
 ·refine zS 5 [(7,.bool true),(12,.bool (decide (s.2.1=(c.length:Int))))] [] ?_
  refine zB [(4,.bool (decide (s.2.1=(c.length:Int))))] [] ?_
  refine AW.ret ?_
  obtain rfl:=zj h
  exact zR [] [] []
 refine zS 4 [(7,.bool false),(9,.cv (undef)),(11,.cv (undef))] [] ?_
 refine zB [(4,.bool false)] [] ?_
 refine AW.ret ?_
 obtain rfl:=zj h
 exact zR [] [] []
theorem Q2 (p:List (List (Int×Int×Int×Int))) (p_2:List (List Int)) (p_3:List Int) (p_4:Int) (p_5:Int) (p_6:Int) (p_7:Int) (p_8:List (Int×Int×Bool×Int×Int×Int×Int×Int)) (p_9:ZH) (p_10:List Int) {r:Bool} (h:r8 p p_2 p_3 p_4 p_5 p_6 p_7 p_8 p_9 p_10=some r):HC Try.prog 74 [(1000,.box 97 [.sl (.sl Y4) p,.sl (.sl .i) p_2,.sl .i p_3,.own 1001,.ii p_4,.ii p_5,.ii p_6,.ii p_7,.own 1002,.own 1003]),(1001,.arr 161 Y2 p_8),(1002,.arr 68 Y0 p_9),(1003,.arr 3 .i p_10)] [.bp 1000 0] [(1000,.box 97 [.sl (.sl Y4) p,.sl (.sl .i) p_2,.sl .i p_3,.own 1001,.ii p_4,.ii p_5,.ii p_6,.ii p_7,.own 1002,.own 1003]),(1001,.arr 161 Y2 p_8),(1002,.arr 68 Y0 p_9),(1003,.arr 3 .i p_10)] (.bool r):=by
 unfold r8 at h
 refine zH Try.func74 [.tmp 2] 16 ?_
 refine zo ?_
 refine zB [(0,.bp 1000 0)] [(1000,.box 97 [.sl (.sl Y4) p,.sl (.sl .i) p_2,.sl .i p_3,.own 1001,.ii p_4,.ii p_5,.ii p_6,.ii p_7,.own 1002,.own 1003]),(1001,.arr 161 Y2 p_8),(1002,.arr 68 Y0 p_9),(1003,.arr 3 .i p_10)] ?_
 refine AW.have1 (fun _:Unit=>H9=some r) (fun _=>⟨fr [],b8 [(1000,.box 97 [.sl (.sl Y4) p,.sl (.sl .i) p_2,.sl .i p_3,.own 1001,.ii p_4,.ii p_5,.ii p_6,.ii p_7,.own 1002,.own 1003]),(1001,.arr 161 Y2 p_8),(1002,.arr 68 Y0 p_9),(1003,.arr 3 .i p_10)],gt⟩) (fun _ h=>?_) (fun hk_linealref08_Play_Over_2_k1=>?_)
 ·as_aux_lemma =>
   unfold H9 at h
   refine zo ?_
   refine zB [(2,.bool true)] [(1000,.box 97 [.sl (.sl Y4) p,.sl (.sl .i) p_2,.sl .i p_3,.own 1001,.ii p_4,.ii p_5,.ii p_6,.ii p_7,.own 1002,.own 1003]),(1001,.arr 161 Y2 p_8),(1002,.arr 68 Y0 p_9),(1003,.arr 3 .i p_10)] ?_
   refine AW.ret ?_
   obtain rfl:=zj h
   exact zR [] [] []
 refine AW.seq ?_
 refine zo ?_
 refine zB [(0,.bp 1000 0),(3,.ii 0)] [(1000,.box 97 [.sl (.sl Y4) p,.sl (.sl .i) p_2,.sl .i p_3,.own 1001,.ii p_4,.ii p_5,.ii p_6,.ii p_7,.own 1002,.own 1003]),(1001,.arr 161 Y2 p_8),(1002,.arr 68 Y0 p_9),(1003,.arr 3 .i p_10)] ?_
 refine AW.block ?_
 obtain ⟨rv5,hw1,ho2⟩:=zw h
 refine AW.loopO (m9 p p_2 p_3 p_4 p_5 p_6 p_7 p_8 p_9 p_10) (fun st1=>⟨fr [(0,.bp 1000 0),(3,.ii st1)],b8 [(1000,.box 97 [.sl (.sl Y4) p,.sl (.sl .i) p_2,.sl .i p_3,.own 1001,.ii p_4,.ii p_5,.ii p_6,.ii p_7,.own 1002,.own 1003]),(1001,.arr 161 Y2 p_8),(1002,.arr 68 Y0 p_9),(1003,.arr 3 .i p_10)],gt⟩) 0 hw1 (zL [] [] []) ?_
 as_aux_lemma =>
  intro st1 x4 h hd3
  unfold m9 at h
  refine AW.seq ?_
  refine zo ?_
  refine zS 5 [(0,.bp 1000 0),(3,.ii st1),(4,.ii st1),(8,.sl (.sl .i) p_2)] [(1000,.box 97 [.sl (.sl Y4) p,.sl (.sl .i) p_2,.sl .i p_3,.own 1001,.ii p_4,.ii p_5,.ii p_6,.ii p_7,.own 1002,.own 1003]),(1001,.arr 161 Y2 p_8),(1002,.arr 68 Y0 p_9),(1003,.arr 3 .i p_10)] ?_
  refine zB [(0,.bp 1000 0),(3,.ii st1),(10,.bool (decide (st1<(p_2.length:Int))))] [(1000,.box 97 [.sl (.sl Y4) p,.sl (.sl .i) p_2,.sl .i p_3,.own 1001,.ii p_4,.ii p_5,.ii p_6,.ii p_7,.own 1002,.own 1003]),(1001,.arr 161 Y2 p_8),(1002,.arr 68 Y0 p_9),(1003,.arr 3 .i p_10)] ?_
  refine zQ h (fun hb6 h=>?_) (fun hb6 h=>?_)
  ·refine zk ?_
   refine AW.seq ?_
   refine AW.block ?_
   refine zo ?_
   refine zS 2 [(0,.bp 1000 0),(3,.ii st1),(13,.bp 1000 0),(14,.ii st1)] [(1000,.box 97 [.sl (.sl Y4) p,.sl (.sl .i) p_2,.sl .i p_3,.own 1001,.ii p_4,.ii p_5,.ii p_6,.ii p_7,.own 1002,.own 1003]),(1001,.arr 161 Y2 p_8),(1002,.arr 68 Y0 p_9),(1003,.arr 3 .i p_10)] ?_
   obtain ⟨v0,hv7,h⟩:=zw h
   refine zC [] [(1000,1000),(1001,1001),(1002,1002),(1003,1003)] (Z5 st1 p p_2 p_3 p_4 p_5 p_6 p_7 p_8 p_9 p_10 hv7) [(0,.bp 1000 0),(3,.ii st1),(15,.bool v0)] [(1000,.box 97 [.sl (.sl Y4) p,.sl (.sl .i) p_2,.sl .i p_3,.own 1001,.ii p_4,.ii p_5,.ii p_6,.ii p_7,.own 1002,.own 1003]),(1001,.arr 161 Y2 p_8),(1002,.arr 68 Y0 p_9),(1003,.arr 3 .i p_10)] ?_
   refine zB [(0,.bp 1000 0),(3,.ii st1),(15,.bool v0)] [(1000,.box 97 [.sl (.sl Y4) p,.sl (.sl .i) p_2,.sl .i p_3,.own 1001,.ii p_4,.ii p_5,.ii p_6,.ii p_7,.own 1002,.own 1003]),(1001,.arr 161 Y2 p_8),(1002,.arr 68 Y0 p_9),(1003,.arr 3 .i p_10)] ?_
   refine zQ h (fun hb8 h=>?_) (fun hb8 h=>?_)
   ·refine zo ?_
    refine zB [(2,.bool false)] [(1000,.box 97 [.sl (.sl Y4) p,.sl (.sl .i) p_2,.sl .i p_3,.own 1001,.ii p_4,.ii p_5,.ii p_6,.ii p_7,.own 1002,.own 1003]),(1001,.arr 161 Y2 p_8),(1002,.arr 68 Y0 p_9),(1003,.arr 3 .i p_10)] ?_
    refine AW.ret ?_
    refine d7 ?_
    refine d6 ?_
    obtain rfl:=zj h
    try rw [← hd3 _ rfl] at ho2
    have h:=ho2
    try simp only at h
    refine d6 ?_
    refine d7 ?_
    refine d6 ?_
    obtain rfl:=zj h
    exact zR [] [] []
   refine zm ?_
   refine f7 ?_
   refine AW.ops ?_
   obtain ⟨c9,h⟩:=b5.1 h
   refine zA [(0,.bp 1000 0),(3,.ii (st1+1))] [(1000,.box 97 [.sl (.sl Y4) p,.sl (.sl .i) p_2,.sl .i p_3,.own 1001,.ii p_4,.ii p_5,.ii p_6,.ii p_7,.own 1002,.own 1003]),(1001,.arr 161 Y2 p_8),(1002,.arr 68 Y0 p_9),(1003,.arr 3 .i p_10)] ?_
   obtain rfl:=zj h
   exact ⟨_,rfl,zL [] [] []⟩
  refine AW.exit ?_
  refine g7 ?_
  obtain rfl:=zj h
  try rw [← hd3 _ rfl] at ho2
  have h:=ho2
  try simp only at h
  refine g7 ?_
  refine l9 ?_
  refine f7 ?_
  exact AW.weaken (zL [] [] []) (hk_linealref08_Play_Over_2_k1 () h)
end Go.Proofs.Ytenchhmcjmjlbaa
