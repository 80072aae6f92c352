import Derived.Test.YtenchhmcjmjlbaaCkp
import Derived.Test.YtenchhmcjmjlbaaShk
import Derived.Test.YtenchhmcjmjlbaaAvd
import Derived.Test.YtenchhmcjmjlbaaCfc2
import Derived.Test.YtenchhmcjmjlbaaCfc8
namespace Go.Proofs.Ytenchhmcjmjlbaa
open Go.RowKit
set_option linter.unusedSimpArgs false
set_option linter.unusedVariables false
set_option linter.constructorNameAsVariable false
set_option maxRecDepth 100000
set_option maxHeartbeats 40000000
theorem a0T (m:Int×Int×(List (List Int))×(List (List Int))) (table:List (List Int)) {r:Bool} (h:z9 m table=some r):HC Try.prog 162 [] [.agg [.ii m.1,.ii m.2.1,.sl (.sl .i) m.2.2.1,.sl (.sl .i) m.2.2.2],.sl (.sl .i) table,.fn (.func 164) [] []] [] (.bool r):=by
 unfold z9 at h
 refine zH Try.func162 [.tmp 6] 32 ?_
 refine zo ?_
 refine zB [(1,.sl (.sl .i) table),(2,.fn (.func 164) [] []),(3,.bp 3 0)] [(3,.box 171 [.ii m.1,.ii m.2.1,.sl (.sl .i) m.2.2.1,.sl (.sl .i) m.2.2.2])] ?_
 refine AW.seq ?_
 refine zo ?_
 refine zB [(1,.sl (.sl .i) table),(2,.fn (.func 164) [] []),(3,.bp 3 0),(13,.bool (!(decide ((table.length:Int)=m.1))))] [(3,.box 171 [.ii m.1,.ii m.2.1,.sl (.sl .i) m.2.2.1,.sl (.sl .i) m.2.2.2])] ?_
 refine zQ h (fun hb1 h=>?_) (fun hb1 h=>?_)
 ·refine zo ?_
  refine zB [(6,.bool false)] [] ?_
  refine zr ?_
  obtain rfl:=zj h
  exact zR [] [] []
 refine zk ?_
 refine AW.have1 (fun _:Unit=>B8=some r) (fun _=>⟨fr [],b8 [],gt⟩) (fun _ h=>?_) (fun hk_spec_machine_isTable_2_k1=>?_)
 ·as_aux_lemma =>
   unfold B8 at h
   refine zo ?_
   refine zB [(6,.bool true)] [] ?_
   refine AW.ret ?_
   obtain rfl:=zj h
   exact zR [] [] []
 refine AW.seq ?_
 refine zo ?_
 refine zB [(2,.fn (.func 164) [] []),(3,.bp 3 0),(14,.sl (.sl .i) table),(15,.ii (table.length:Int)),(16,.ii 0)] [(3,.box 171 [.ii m.1,.ii m.2.1,.sl (.sl .i) m.2.2.1,.sl (.sl .i) m.2.2.2])] ?_
 refine AW.block ?_
 obtain ⟨rv6,hw2,ho3⟩:=zw h
 refine AW.loopO (s8 m table) (fun st1=>⟨fr [(2,.fn (.func 164) [] []),(3,.bp 3 0),(14,.sl (.sl .i) table),(15,.ii (table.length:Int)),(16,.ii st1)],b8 [(3,.box 171 [.ii m.1,.ii m.2.1,.sl (.sl .i) m.2.2.1,.sl (.sl .i) m.2.2.2])],gt⟩) 0 hw2 (zL [] [] []) ?_
 as_aux_lemma =>
  intro st1 x5 h hd4
  unfold s8 at h
  refine zo ?_
  refine zB [(2,.fn (.func 164) [] []),(3,.bp 3 0),(14,.sl (.sl .i) table),(15,.ii (table.length:Int)),(16,.ii st1),(17,.bool (decide (st1<(table.length:Int))))] [(3,.box 171 [.ii m.1,.ii m.2.1,.sl (.sl .i) m.2.2.1,.sl (.sl .i) m.2.2.2])] ?_
  refine AW.seq ?_
  refine zQ h (fun hb7 h=>?_) (fun hb7 h=>?_)
  ·refine zk ?_
   refine AW.seq ?_
   refine AW.block ?_
   refine zo ?_
   obtain ⟨c8,h⟩:=b5.1 h
   obtain ⟨c9,h⟩:=b5.1 h
   refine zB [(2,.fn (.func 164) [] []),(3,.bp 3 0),(8,.sl .i (table.getD st1.toNat [])),(14,.sl (.sl .i) table),(15,.ii (table.length:Int)),(16,.ii st1)] [(3,.box 171 [.ii m.1,.ii m.2.1,.sl (.sl .i) m.2.2.1,.sl (.sl .i) m.2.2.2])] ?_
   refine zo ?_
   refine zS 5 [(2,.fn (.func 164) [] []),(3,.bp 3 0),(8,.sl .i (table.getD st1.toNat [])),(14,.sl (.sl .i) table),(15,.ii (table.length:Int)),(16,.ii st1),(24,.bool (!(decide (((table.getD st1.toNat []).length:Int)=m.2.1))))] [(3,.box 171 [.ii m.1,.ii m.2.1,.sl (.sl .i) m.2.2.1,.sl (.sl .i) m.2.2.2])] ?_
   refine zS 1 [(2,.fn (.func 164) [] []),(3,.bp 3 0),(8,.sl .i (table.getD st1.toNat [])),(14,.sl (.sl .i) table),(15,.ii (table.length:Int)),(16,.ii st1),(25,.bool (!(decide (((table.getD st1.toNat []).length:Int)=m.2.1))))] [(3,.box 171 [.ii m.1,.ii m.2.1,.sl (.sl .i) m.2.2.1,.sl (.sl .i) m.2.2.2])] ?_
   rcases zI h with ⟨hb10,h⟩|⟨hb10,h⟩
   ·refine zS 4 [(2,.fn (.func 164) [] []),(3,.bp 3 0),(14,.sl (.sl .i) table),(15,.ii (table.length:Int)),(16,.ii st1),(25,.bool true),(29,.cv (undef))] [(3,.box 171 [.ii m.1,.ii m.2.1,.sl (.sl .i) m.2.2.1,.sl (.sl .i) m.2.2.2])] ?_
    refine zB [(2,.fn (.func 164) [] []),(3,.bp 3 0),(14,.sl (.sl .i) table),(15,.ii (table.length:Int)),(16,.ii st1),(30,.bool true)] [(3,.box 171 [.ii m.1,.ii m.2.1,.sl (.sl .i) m.2.2.1,.sl (.sl .i) m.2.2.2])] ?_
    refine AW.cond (b:=true) rfl (fun _=>?_) (fun hb11=>by cases hb11)
    refine zo ?_
    refine zB [(6,.bool false)] [] ?_
    refine AW.ret ?_
    refine d7 ?_
    refine d6 ?_
    obtain rfl:=zj h
    try rw [← hd4 _ rfl] at ho3
    have h:=ho3
    try simp only at h
    refine d6 ?_
    refine d7 ?_
    refine d6 ?_
    obtain rfl:=zj h
    exact zR [] [] []
   refine zS 2 [(2,.fn (.func 164) [] []),(3,.bp 3 0),(14,.sl (.sl .i) table),(15,.ii (table.length:Int)),(16,.ii st1),(25,.bool false),(26,.fn (.func 164) [] []),(27,.sl .i (table.getD st1.toNat []))] [(3,.box 171 [.ii m.1,.ii m.2.1,.sl (.sl .i) m.2.2.1,.sl (.sl .i) m.2.2.2])] ?_
   obtain ⟨v0,hv12,h⟩:=zw h
   refine zG [] [] (a6P (table.getD st1.toNat []) hv12) [(2,.fn (.func 164) [] []),(3,.bp 3 0),(14,.sl (.sl .i) table),(15,.ii (table.length:Int)),(16,.ii st1),(25,.bool false),(28,.bool v0)] [(3,.box 171 [.ii m.1,.ii m.2.1,.sl (.sl .i) m.2.2.1,.sl (.sl .i) m.2.2.2])] ?_
   refine zB [(2,.fn (.func 164) [] []),(3,.bp 3 0),(14,.sl (.sl .i) table),(15,.ii (table.length:Int)),(16,.ii st1),(30,.bool (!v0))] [(3,.box 171 [.ii m.1,.ii m.2.1,.sl (.sl .i) m.2.2.1,.sl (.sl .i) m.2.2.2])] ?_
   refine zQ h (fun hb13 h=>?_) (fun hb13 h=>?_)
   ·refine zo ?_
    refine zB [(6,.bool false)] [] ?_
    refine AW.ret ?_
    refine d7 ?_
    refine d6 ?_
    obtain rfl:=zj h
    try rw [← hd4 _ rfl] at ho3
    have h:=ho3
    try simp only at h
    refine d6 ?_
    refine d7 ?_
    refine d6 ?_
    obtain rfl:=zj h
    exact zR [] [] []
   refine zm ?_
   refine f7 ?_
   refine AW.ops ?_
   obtain ⟨c14,h⟩:=b5.1 h
   refine zA [(2,.fn (.func 164) [] []),(3,.bp 3 0),(14,.sl (.sl .i) table),(15,.ii (table.length:Int)),(16,.ii (st1+1))] [(3,.box 171 [.ii m.1,.ii m.2.1,.sl (.sl .i) m.2.2.1,.sl (.sl .i) m.2.2.2])] ?_
   obtain rfl:=zj h
   exact ⟨_,rfl,zL [] [] []⟩
  refine AW.exit ?_
  refine g7 ?_
  obtain rfl:=zj h
  try rw [← hd4 _ rfl] at ho3
  have h:=ho3
  try simp only at h
  refine g7 ?_
  refine l9 ?_
  refine f7 ?_
  exact AW.weaken (zL [] [] []) (hk_spec_machine_isTable_2_k1 () h)
theorem a3p (s:Int×Int×(List (List Int))×(List (List Int))) {r:Bool} (h:W8 s=some r):HC Try.prog 125 [] [.agg [.ii s.1,.ii s.2.1,.sl (.sl .i) s.2.2.1,.sl (.sl .i) s.2.2.2]] [] (.bool r):=by
 unfold W8 at h
 refine zH Try.func125 [.tmp 2] 35 ?_
 refine zo ?_
 refine zB [(1,.bp 1 0)] [(1,.box 24 [.ii s.1,.ii s.2.1,.sl (.sl .i) s.2.2.1,.sl (.sl .i) s.2.2.2])] ?_
 refine AW.seq ?_
 refine zo ?_
 refine zS 4 [(1,.bp 1 0),(7,.bool (decide (s.1<1)))] [(1,.box 24 [.ii s.1,.ii s.2.1,.sl (.sl .i) s.2.2.1,.sl (.sl .i) s.2.2.2])] ?_
 rcases zI h with ⟨hb1,h⟩|⟨hb1,h⟩
 ·refine zS 5 [(1,.bp 1 0),(12,.bool true)] [(1,.box 24 [.ii s.1,.ii s.2.1,.sl (.sl .i) s.2.2.1,.sl (.sl .i) s.2.2.2])] ?_
  refine zS 5 [(1,.bp 1 0),(17,.bool true)] [(1,.box 24 [.ii s.1,.ii s.2.1,.sl (.sl .i) s.2.2.1,.sl (.sl .i) s.2.2.2])] ?_
  refine zB [(1,.bp 1 0),(21,.bool true)] [(1,.box 24 [.ii s.1,.ii s.2.1,.sl (.sl .i) s.2.2.1,.sl (.sl .i) s.2.2.2])] ?_
  refine AW.cond (b:=true) rfl (fun _=>?_) (fun hb2=>by cases hb2)
  refine zo ?_
  refine zB [(2,.bool false)] [] ?_
  refine zr ?_
  obtain rfl:=zj h
  exact zR [] [] []
 refine zS 5 [(1,.bp 1 0),(12,.bool (decide (8<s.1)))] [(1,.box 24 [.ii s.1,.ii s.2.1,.sl (.sl .i) s.2.2.1,.sl (.sl .i) s.2.2.2])] ?_
 rcases zI h with ⟨hb3,h⟩|⟨hb3,h⟩
 ·refine zS 5 [(1,.bp 1 0),(17,.bool true)] [(1,.box 24 [.ii s.1,.ii s.2.1,.sl (.sl .i) s.2.2.1,.sl (.sl .i) s.2.2.2])] ?_
  refine zB [(1,.bp 1 0),(21,.bool true)] [(1,.box 24 [.ii s.1,.ii s.2.1,.sl (.sl .i) s.2.2.1,.sl (.sl .i) s.2.2.2])] ?_
  refine AW.cond (b:=true) rfl (fun _=>?_) (fun hb4=>by cases hb4)
  refine zo ?_
  refine zB [(2,.bool false)] [] ?_
  refine zr ?_
  obtain rfl:=zj h
  exact zR [] [] []
 refine zS 5 [(1,.bp 1 0),(17,.bool (decide (s.2.1<1)))] [(1,.box 24 [.ii s.1,.ii s.2.1,.sl (.sl .i) s.2.2.1,.sl (.sl .i) s.2.2.2])] ?_
 rcases zI h with ⟨hb5,h⟩|⟨hb5,h⟩
 ·refine zB [(1,.bp 1 0),(21,.bool true)] [(1,.box 24 [.ii s.1,.ii s.2.1,.sl (.sl .i) s.2.2.1,.sl (.sl .i) s.2.2.2])] ?_
  refine AW.cond (b:=true) rfl (fun _=>?_) (fun hb6=>by cases hb6)
  refine zo ?_
  refine zB [(2,.bool false)] [] ?_
  refine zr ?_
  obtain rfl:=zj h
  exact zR [] [] []
 refine zB [(1,.bp 1 0),(21,.bool (decide (4<s.2.1)))] [(1,.box 24 [.ii s.1,.ii s.2.1,.sl (.sl .i) s.2.2.1,.sl (.sl .i) s.2.2.2])] ?_
 refine zQ h (fun hb7 h=>?_) (fun hb7 h=>?_)
 ·refine zo ?_
  refine zB [(2,.bool false)] [] ?_
  refine zr ?_
  obtain rfl:=zj h
  exact zR [] [] []
 refine zk ?_
 refine zo ?_
 refine zB [(1,.bp 1 0),(3,.bp 3 0)] [(1,.box 24 [.ii s.1,.ii s.2.1,.sl (.sl .i) s.2.2.1,.sl (.sl .i) s.2.2.2]),(3,.box 171 [.ii s.1,.ii s.2.1,.sl (.sl .i) s.2.2.1,.sl (.sl .i) s.2.2.2])] ?_
 refine zo ?_
 refine zS 5 [(1,.bp 1 0),(3,.bp 3 0),(23,.agg [.ii s.1,.ii s.2.1,.sl (.sl .i) s.2.2.1,.sl (.sl .i) s.2.2.2]),(25,.sl (.sl .i) s.2.2.1),(27,.fn (.func 163) [.agg [.ii s.1,.ii s.2.1,.sl (.sl .i) s.2.2.1,.sl (.sl .i) s.2.2.2]] [])] [(1,.box 24 [.ii s.1,.ii s.2.1,.sl (.sl .i) s.2.2.1,.sl (.sl .i) s.2.2.2]),(3,.box 171 [.ii s.1,.ii s.2.1,.sl (.sl .i) s.2.2.1,.sl (.sl .i) s.2.2.2])] ?_
 obtain ⟨v0,hv8,h⟩:=zw h
 refine zC [] [] (a1s s s.2.2.1 s hv8) [(1,.bp 1 0),(3,.bp 3 0),(28,.bool v0)] [(1,.box 24 [.ii s.1,.ii s.2.1,.sl (.sl .i) s.2.2.1,.sl (.sl .i) s.2.2.2]),(3,.box 171 [.ii s.1,.ii s.2.1,.sl (.sl .i) s.2.2.1,.sl (.sl .i) s.2.2.2])] ?_
 refine zS 1 [(1,.bp 1 0),(3,.bp 3 0),(29,.bool v0)] [(1,.box 24 [.ii s.1,.ii s.2.1,.sl (.sl .i) s.2.2.1,.sl (.sl .i) s.2.2.2]),(3,.box 171 [.ii s.1,.ii s.2.1,.sl (.sl .i) s.2.2.1,.sl (.sl .i) s.2.2.2])] ?_
 rcases zI h with ⟨hb9,h⟩|⟨hb9,h⟩
 ·refine zS 3 [(29,.bool true),(30,.agg [.ii s.1,.ii s.2.1,.sl (.sl .i) s.2.2.1,.sl (.sl .i) s.2.2.2]),(32,.sl (.sl .i) s.2.2.2)] [] ?_
  obtain ⟨v0_2,hv10,h⟩:=zw h
  refine zG [] [] (a0T s s.2.2.2 hv10) [(29,.bool true),(33,.bool v0_2)] [] ?_
  refine zB [(2,.bool v0_2)] [] ?_
  refine AW.ret ?_
  obtain rfl:=zj h
  exact zR [] [] []
 refine zS 4 [(29,.bool false),(33,.cv (undef))] [] ?_
 refine zB [(2,.bool false)] [] ?_
 refine AW.ret ?_
 obtain rfl:=zj h
 exact zR [] [] []
theorem a37 (s:Int×Int×(List (List Int))×(List (List Int))) (c:List (List (Int×Int×Int×Int))) {r:Int} (h:Q9 s c=some r):HC Try.prog 68 [] [.agg [.ii s.1,.ii s.2.1,.sl (.sl .i) s.2.2.1,.sl (.sl .i) s.2.2.2],.sl (.sl Y4) c] [] (.ii r):=by
 unfold Q9 at h
 refine zH Try.func68 [.tmp 4] 18 ?_
 refine zo ?_
 refine zB [(1,.sl (.sl Y4) c),(2,.bp 2 0)] [(2,.box 24 [.ii s.1,.ii s.2.1,.sl (.sl .i) s.2.2.1,.sl (.sl .i) s.2.2.2])] ?_
 refine AW.seq ?_
 refine zo ?_
 refine zS 1 [(1,.sl (.sl Y4) c),(2,.bp 2 0),(5,.sl (.sl Y4) c)] [(2,.box 24 [.ii s.1,.ii s.2.1,.sl (.sl .i) s.2.2.1,.sl (.sl .i) s.2.2.2])] ?_
 obtain ⟨v0,hv1,h⟩:=zw h
 refine zC [] [] (a1e c hv1) [(1,.sl (.sl Y4) c),(2,.bp 2 0),(6,.bool v0)] [(2,.box 24 [.ii s.1,.ii s.2.1,.sl (.sl .i) s.2.2.1,.sl (.sl .i) s.2.2.2])] ?_
 refine zB [(1,.sl (.sl Y4) c),(2,.bp 2 0),(7,.bool (!v0))] [(2,.box 24 [.ii s.1,.ii s.2.1,.sl (.sl .i) s.2.2.1,.sl (.sl .i) s.2.2.2])] ?_
 refine zQ h (fun hb2 h=>?_) (fun hb2 h=>?_)
 ·refine zo ?_
  refine zB [(4,.ii 80)] [] ?_
  refine zr ?_
  obtain rfl:=zj h
  exact zR [] [] []
 refine zk ?_
 refine AW.seq ?_
 refine zo ?_
 refine zS 1 [(1,.sl (.sl Y4) c),(2,.bp 2 0),(8,.agg [.ii s.1,.ii s.2.1,.sl (.sl .i) s.2.2.1,.sl (.sl .i) s.2.2.2])] [(2,.box 24 [.ii s.1,.ii s.2.1,.sl (.sl .i) s.2.2.1,.sl (.sl .i) s.2.2.2])] ?_
 obtain ⟨v0_2,hv3,h⟩:=zw h
 refine zC [] [] (a3p s hv3) [(1,.sl (.sl Y4) c),(2,.bp 2 0),(9,.bool v0_2)] [(2,.box 24 [.ii s.1,.ii s.2.1,.sl (.sl .i) s.2.2.1,.sl (.sl .i) s.2.2.2])] ?_
 refine zS 2 [(1,.sl (.sl Y4) c),(2,.bp 2 0),(11,.bool (!v0_2))] [(2,.box 24 [.ii s.1,.ii s.2.1,.sl (.sl .i) s.2.2.1,.sl (.sl .i) s.2.2.2])] ?_
 rcases zI h with ⟨hb4,h⟩|⟨hb4,h⟩
 ·refine zS 4 [(11,.bool true),(13,.cv (undef)),(15,.cv (undef))] [] ?_
  refine zB [(17,.bool true)] [] ?_
  refine AW.cond (b:=true) rfl (fun _=>?_) (fun hb5=>by cases hb5)
  refine zo ?_
  refine zB [(4,.ii 10)] [] ?_
  refine zr ?_
  obtain rfl:=zj h
  exact zR [] [] []
 refine zS 5 [(11,.bool false),(16,.bool (!(decide (s.2.1=(c.length:Int)))))] [] ?_
 refine zB [(17,.bool (!(decide (s.2.1=(c.length:Int)))))] [] ?_
 refine zQ h (fun hb6 h=>?_) (fun hb6 h=>?_)
 ·refine zo ?_
  refine zB [(4,.ii 10)] [] ?_
  refine zr ?_
  obtain rfl:=zj h
  exact zR [] [] []
 refine zk ?_
 refine zo ?_
 refine zB [(4,.ii 0)] [] ?_
 refine AW.ret ?_
 obtain rfl:=zj h
 exact zR [] [] []
theorem a5n (s:Int×Int×(List (List Int))×(List (List Int))) (states:List Int) {r:Int×Int×(List (List Int))×(List (List Int))×Int} (h:a0p s states=some r):HC Try.prog 130 [] [.agg [.ii s.1,.ii s.2.1,.sl (.sl .i) s.2.2.1,.sl (.sl .i) s.2.2.2],.sl .i states] [] (.tup [.agg [.ii r.1,.ii r.2.1,.sl (.sl .i) r.2.2.1,.sl (.sl .i) r.2.2.2.1],.ii r.2.2.2.2]):=by
 unfold a0p at h
 refine zH Try.func130 [.cell 4 171,.tmp 5] 19 ?_
 refine zo ?_
 refine zB [(1,.sl .i states),(2,.bp 2 0),(4,.bp 4 0)] [(2,.box 24 [.ii s.1,.ii s.2.1,.sl (.sl .i) s.2.2.1,.sl (.sl .i) s.2.2.2]),(4,.box 171 [.ii 0,.ii 0,.cv (.slice none 0 0),.cv (.slice none 0 0)])] ?_
 refine AW.seq ?_
 refine zo ?_
 refine zS 1 [(1,.sl .i states),(2,.bp 2 0),(4,.bp 4 0),(7,.agg [.ii s.1,.ii s.2.1,.sl (.sl .i) s.2.2.1,.sl (.sl .i) s.2.2.2])] [(2,.box 24 [.ii s.1,.ii s.2.1,.sl (.sl .i) s.2.2.1,.sl (.sl .i) s.2.2.2]),(4,.box 171 [.ii 0,.ii 0,.cv (.slice none 0 0),.cv (.slice none 0 0)])] ?_
 obtain ⟨v0,hv1,h⟩:=zw h
 refine zC [] [] (a3p s hv1) [(1,.sl .i states),(2,.bp 2 0),(4,.bp 4 0),(8,.bool v0)] [(2,.box 24 [.ii s.1,.ii s.2.1,.sl (.sl .i) s.2.2.1,.sl (.sl .i) s.2.2.2]),(4,.box 171 [.ii 0,.ii 0,.cv (.slice none 0 0),.cv (.slice none 0 0)])] ?_
 refine zB [(1,.sl .i states),(2,.bp 2 0),(4,.bp 4 0),(9,.bool (!v0))] [(2,.box 24 [.ii s.1,.ii s.2.1,.sl (.sl .i) s.2.2.1,.sl (.sl .i) s.2.2.2]),(4,.box 171 [.ii 0,.ii 0,.cv (.slice none 0 0),.cv (.slice none 0 0)])] ?_
 refine zQ h (fun hb2 h=>?_) (fun hb2 h=>?_)
 ·refine zo ?_
  refine zB [(4,.bp 4 0),(5,.ii 10)] [(4,.box 171 [.ii 0,.ii 0,.cv (.slice none 0 0),.cv (.slice none 0 0)])] ?_
  refine zr ?_
  obtain rfl:=zj h
  exact zR [] [] []
 refine zk ?_
 refine zo ?_
 refine zB [(1,.sl .i states),(4,.bp 4 0),(6,.bp 6 0)] [(4,.box 171 [.ii 0,.ii 0,.cv (.slice none 0 0),.cv (.slice none 0 0)]),(6,.box 171 [.ii s.1,.ii s.2.1,.sl (.sl .i) s.2.2.1,.sl (.sl .i) s.2.2.2])] ?_
 refine AW.seq ?_
 refine zo ?_
 refine zS 3 [(4,.bp 4 0),(6,.bp 6 0),(13,.fn (.func 163) [.agg [.ii s.1,.ii s.2.1,.sl (.sl .i) s.2.2.1,.sl (.sl .i) s.2.2.2]] []),(14,.sl .i states)] [(4,.box 171 [.ii 0,.ii 0,.cv (.slice none 0 0),.cv (.slice none 0 0)]),(6,.box 171 [.ii s.1,.ii s.2.1,.sl (.sl .i) s.2.2.1,.sl (.sl .i) s.2.2.2])] ?_
 obtain ⟨v0_2,hv3,h⟩:=zw h
 refine zC [] [] (a49 s states hv3) [(4,.bp 4 0),(6,.bp 6 0),(15,.bool v0_2)] [(4,.box 171 [.ii 0,.ii 0,.cv (.slice none 0 0),.cv (.slice none 0 0)]),(6,.box 171 [.ii s.1,.ii s.2.1,.sl (.sl .i) s.2.2.1,.sl (.sl .i) s.2.2.2])] ?_
 refine zB [(4,.bp 4 0),(6,.bp 6 0),(16,.bool (!v0_2))] [(4,.box 171 [.ii 0,.ii 0,.cv (.slice none 0 0),.cv (.slice none 0 0)]),(6,.box 171 [.ii s.1,.ii s.2.1,.sl (.sl .i) s.2.2.1,.sl (.sl .i) s.2.2.2])] ?_
 refine zQ h (fun hb4 h=>?_) (fun hb4 h=>?_)
 ·refine zo ?_
  refine zB [(4,.bp 4 0),(5,.ii 2)] [(4,.box 171 [.ii 0,.ii 0,.cv (.slice none 0 0),.cv (.slice none 0 0)])] ?_
  refine zr ?_
  obtain rfl:=zj h
  exact zR [] [] []
 refine zk ?_
 refine zo ?_
 refine zB [(4,.bp 4 0),(5,.ii 0)] [(4,.box 171 [.ii s.1,.ii s.2.1,.sl (.sl .i) s.2.2.1,.sl (.sl .i) s.2.2.2])] ?_
 refine AW.ret ?_
 obtain rfl:=zj h
 exact zR [] [] []
theorem a1Y (m:Int×Int×(List (List Int))×(List (List Int))) (n:Int) {r:Bool} (h:M1 m n=some r):HC Try.prog 173 [] [.agg [.ii m.1,.ii m.2.1,.sl (.sl .i) m.2.2.1,.sl (.sl .i) m.2.2.2],.ii n] [] (.bool r):=by
 unfold M1 at h
 refine zH Try.func173 [.tmp 4] 13 ?_
 refine zo ?_
 refine zB [(1,.ii n),(2,.bp 2 0)] [(2,.box 171 [.ii m.1,.ii m.2.1,.sl (.sl .i) m.2.2.1,.sl (.sl .i) m.2.2.2])] ?_
 refine zo ?_
 refine zS 3 [(1,.ii n),(2,.bp 2 0),(7,.bool (decide (0≤n)))] [(2,.box 171 [.ii m.1,.ii m.2.1,.sl (.sl .i) m.2.2.1,.sl (.sl .i) m.2.2.2])] ?_
 rcases zI h with ⟨hb1,h⟩|⟨hb1,h⟩
 ·refine zS 5 [(12,.bool (decide (n<m.2.1)))] [] ?_
  refine zB [(4,.bool (decide (n<m.2.1)))] [] ?_
  refine AW.ret ?_
  obtain rfl:=zj h
  exact zR [] [] []
 refine zS 4 [(7,.bool false),(11,.cv (undef))] [] ?_
 refine zB [(4,.bool false)] [] ?_
 refine AW.ret ?_
 obtain rfl:=zj h
 exact zR [] [] []
theorem a6O (is0:Int×Int×(List (List Int))×(List (List Int))) (numbers:List Int) {r:Bool} (h:a0w is0 numbers=some r):HC Try.prog 172 [] [.fn (.func 173) [.agg [.ii is0.1,.ii is0.2.1,.sl (.sl .i) is0.2.2.1,.sl (.sl .i) is0.2.2.2]] [],.sl .i numbers] [] (.bool r):=by
 unfold a0w at h
 refine zH Try.func172 [.tmp 4] 18 ?_
 refine zo ?_
 refine zB [(0,.fn (.func 173) [.agg [.ii is0.1,.ii is0.2.1,.sl (.sl .i) is0.2.2.1,.sl (.sl .i) is0.2.2.2]] []),(1,.sl .i numbers)] [] ?_
 refine AW.have1 (fun _:Unit=>X6=some r) (fun _=>⟨fr [],b8 [],gt⟩) (fun _ h=>?_) (fun hk_spec_all_3_k1=>?_)
 ·as_aux_lemma =>
   unfold X6 at h
   refine zo ?_
   refine zB [(4,.bool true)] [] ?_
   refine AW.ret ?_
   obtain rfl:=zj h
   exact zR [] [] []
 refine AW.seq ?_
 refine zo ?_
 refine zB [(0,.fn (.func 173) [.agg [.ii is0.1,.ii is0.2.1,.sl (.sl .i) is0.2.2.1,.sl (.sl .i) is0.2.2.2]] []),(7,.sl .i numbers),(8,.ii (numbers.length:Int)),(9,.ii 0)] [] ?_
 refine AW.block ?_
 obtain ⟨rv5,hw1,ho2⟩:=zw h
 refine AW.loopO (O2 is0 numbers) (fun st1=>⟨fr [(0,.fn (.func 173) [.agg [.ii is0.1,.ii is0.2.1,.sl (.sl .i) is0.2.2.1,.sl (.sl .i) is0.2.2.2]] []),(7,.sl .i numbers),(8,.ii (numbers.length:Int)),(9,.ii st1)],b8 [],gt⟩) 0 hw1 (zL [] [] []) ?_
 as_aux_lemma =>
  intro st1 x4 h hd3
  unfold O2 at h
  refine zo ?_
  refine zB [(0,.fn (.func 173) [.agg [.ii is0.1,.ii is0.2.1,.sl (.sl .i) is0.2.2.1,.sl (.sl .i) is0.2.2.2]] []),(7,.sl .i numbers),(8,.ii (numbers.length:Int)),(9,.ii st1),(10,.bool (decide (st1<(numbers.length:Int))))] [] ?_
  refine AW.seq ?_
  refine zQ h (fun hb6 h=>?_) (fun hb6 h=>?_)
  ·refine zk ?_
   refine AW.seq ?_
   refine AW.block ?_
   refine zo ?_
   obtain ⟨c7,h⟩:=b5.1 h
   obtain ⟨c8,h⟩:=b5.1 h
   refine zB [(0,.fn (.func 173) [.agg [.ii is0.1,.ii is0.2.1,.sl (.sl .i) is0.2.2.1,.sl (.sl .i) is0.2.2.2]] []),(6,.ii (numbers.getD st1.toNat 0)),(7,.sl .i numbers),(8,.ii (numbers.length:Int)),(9,.ii st1)] [] ?_
   refine zo ?_
   refine zS 2 [(0,.fn (.func 173) [.agg [.ii is0.1,.ii is0.2.1,.sl (.sl .i) is0.2.2.1,.sl (.sl .i) is0.2.2.2]] []),(7,.sl .i numbers),(8,.ii (numbers.length:Int)),(9,.ii st1),(13,.fn (.func 173) [.agg [.ii is0.1,.ii is0.2.1,.sl (.sl .i) is0.2.2.1,.sl (.sl .i) is0.2.2.2]] []),(14,.ii (numbers.getD st1.toNat 0))] [] ?_
   obtain ⟨v0,hv9,h⟩:=zw h
   refine zC [] [] (a1Y is0 (numbers.getD st1.toNat 0) hv9) [(0,.fn (.func 173) [.agg [.ii is0.1,.ii is0.2.1,.sl (.sl .i) is0.2.2.1,.sl (.sl .i) is0.2.2.2]] []),(7,.sl .i numbers),(8,.ii (numbers.length:Int)),(9,.ii st1),(15,.bool v0)] [] ?_
   refine zB [(0,.fn (.func 173) [.agg [.ii is0.1,.ii is0.2.1,.sl (.sl .i) is0.2.2.1,.sl (.sl .i) is0.2.2.2]] []),(7,.sl .i numbers),(8,.ii (numbers.length:Int)),(9,.ii st1),(16,.bool (!v0))] [] ?_
   refine zQ h (fun hb10 h=>?_) (fun hb10 h=>?_)
   ·refine zo ?_
    refine zB [(4,.bool false)] [] ?_
    refine AW.ret ?_
    refine d7 ?_
    refine d6 ?_
    obtain rfl:=zj h
    try rw [← hd3 _ rfl] at ho2
    have h:=ho2
    try simp only at h
    refine d6 ?_
    refine d7 ?_
    refine d6 ?_
    obtain rfl:=zj h
    exact zR [] [] []
   refine zm ?_
   refine f7 ?_
   refine AW.ops ?_
   obtain ⟨c11,h⟩:=b5.1 h
   refine zA [(0,.fn (.func 173) [.agg [.ii is0.1,.ii is0.2.1,.sl (.sl .i) is0.2.2.1,.sl (.sl .i) is0.2.2.2]] []),(7,.sl .i numbers),(8,.ii (numbers.length:Int)),(9,.ii (st1+1))] [] ?_
   obtain rfl:=zj h
   exact ⟨_,rfl,zL [] [] []⟩
  refine AW.exit ?_
  refine g7 ?_
  obtain rfl:=zj h
  try rw [← hd3 _ rfl] at ho2
  have h:=ho2
  try simp only at h
  refine g7 ?_
  refine l9 ?_
  refine f7 ?_
  exact AW.weaken (zL [] [] []) (hk_spec_all_3_k1 () h)
theorem a1X (m:Int×Int×(List (List Int))×(List (List Int))) (word:List Int) {r:Bool} (h:M0 m word=some r):HC Try.prog 131 [] [.agg [.ii m.1,.ii m.2.1,.sl (.sl .i) m.2.2.1,.sl (.sl .i) m.2.2.2],.sl .i word] [] (.bool r):=by
 unfold M0 at h
 refine zH Try.func131 [.tmp 4] 14 ?_
 refine zo ?_
 refine zB [(1,.sl .i word),(2,.bp 2 0)] [(2,.box 171 [.ii m.1,.ii m.2.1,.sl (.sl .i) m.2.2.1,.sl (.sl .i) m.2.2.2])] ?_
 refine zo ?_
 refine zS 4 [(1,.sl .i word),(2,.bp 2 0),(8,.bool (decide ((word.length:Int)≤20)))] [(2,.box 171 [.ii m.1,.ii m.2.1,.sl (.sl .i) m.2.2.1,.sl (.sl .i) m.2.2.2])] ?_
 rcases zI h with ⟨hb1,h⟩|⟨hb1,h⟩
 ·refine zS 3 [(8,.bool true),(10,.fn (.func 173) [.agg [.ii m.1,.ii m.2.1,.sl (.sl .i) m.2.2.1,.sl (.sl .i) m.2.2.2]] []),(11,.sl .i word)] [] ?_
  obtain ⟨v0,hv2,h⟩:=zw h
  refine zG [] [] (a6O m word hv2) [(8,.bool true),(12,.bool v0)] [] ?_
  refine zB [(4,.bool v0)] [] ?_
  refine AW.ret ?_
  obtain rfl:=zj h
  exact zR [] [] []
 refine zS 4 [(8,.bool false),(12,.cv (undef))] [] ?_
 refine zB [(4,.bool false)] [] ?_
 refine AW.ret ?_
 obtain rfl:=zj h
 exact zR [] [] []
theorem a3h (m:Int×Int×(List (List Int))×(List (List Int))) (from0:Int) (word:List Int) {r:(List Int)×Int} (h:R6 m from0 word=some r):HC Try.prog 132 [] [.agg [.ii m.1,.ii m.2.1,.sl (.sl .i) m.2.2.1,.sl (.sl .i) m.2.2.2],.ii from0,.sl .i word] [(2000,.arr 3 .i r.1)] (.tup [.own 2000,.ii r.2]):=by
 unfold R6 at h
 refine zH Try.func132 [.tmp 6,.tmp 7] 39 ?_
 refine zo ?_
 refine zB [(1,.ii from0),(2,.sl .i word),(3,.bp 3 0),(6,.cv (.slice none 0 0))] [(3,.box 171 [.ii m.1,.ii m.2.1,.sl (.sl .i) m.2.2.1,.sl (.sl .i) m.2.2.2])] ?_
 refine zo ?_
 refine zB [(2,.sl .i word),(3,.bp 3 0),(6,.cv (.slice none 0 0)),(7,.ii from0)] [(3,.box 171 [.ii m.1,.ii m.2.1,.sl (.sl .i) m.2.2.1,.sl (.sl .i) m.2.2.2])] ?_
 refine AW.have1 (fun b1:(List Int)×Int=>L9 b1=some r) (fun b1=>⟨fr [(6,.own 27),(7,.ii b1.2)],b8 [(27,.arr 3 .i b1.1)],gt⟩) (fun b1 h=>?_) (fun hk_spec_machine_run_k1=>?_)
 ·as_aux_lemma =>
   unfold L9 at h
   refine zo ?_
   refine zB [(6,.own 27),(7,.ii b1.2)] [(27,.arr 3 .i b1.1)] ?_
   refine AW.ret ?_
   obtain rfl:=zj h
   exact zR [] [] [(2000,27)]
 refine AW.seq ?_
 refine zo ?_
 refine zB [(3,.bp 3 0),(6,.cv (.slice none 0 0)),(7,.ii from0),(11,.sl .i word),(12,.ii (word.length:Int)),(13,.ii 0)] [(3,.box 171 [.ii m.1,.ii m.2.1,.sl (.sl .i) m.2.2.1,.sl (.sl .i) m.2.2.2])] ?_
 refine AW.block ?_
 obtain ⟨rv5,hw1,ho2⟩:=zw h
 refine AW.loopO (q9 m word) (fun st1=>⟨fr [(3,.bp 3 0),(6,.own 27),(7,.ii st1.2.1),(11,.sl .i word),(12,.ii (word.length:Int)),(13,.ii st1.2.2)],b8 [(3,.box 171 [.ii m.1,.ii m.2.1,.sl (.sl .i) m.2.2.1,.sl (.sl .i) m.2.2.2]),(27,.arr 3 .i st1.1)],gt⟩) ([],from0,0) hw1 (zL [] [27] []) ?_
 as_aux_lemma =>
  intro st1 x4 h hd3
  unfold q9 at h
  refine zo ?_
  refine zB [(3,.bp 3 0),(6,.own 27),(7,.ii st1.2.1),(11,.sl .i word),(12,.ii (word.length:Int)),(13,.ii st1.2.2),(14,.bool (decide (st1.2.2<(word.length:Int))))] [(3,.box 171 [.ii m.1,.ii m.2.1,.sl (.sl .i) m.2.2.1,.sl (.sl .i) m.2.2.2]),(27,.arr 3 .i st1.1)] ?_
  refine AW.seq ?_
  refine zQ h (fun hb6 h=>?_) (fun hb6 h=>?_)
  ·refine zk ?_
   refine AW.seq ?_
   refine AW.block ?_
   refine zo ?_
   obtain ⟨c7,h⟩:=b5.1 h
   obtain ⟨c8,h⟩:=b5.1 h
   refine zB [(3,.bp 3 0),(6,.own 27),(7,.ii st1.2.1),(9,.ii (word.getD st1.2.2.toNat 0)),(11,.sl .i word),(12,.ii (word.length:Int)),(13,.ii st1.2.2)] [(3,.box 171 [.ii m.1,.ii m.2.1,.sl (.sl .i) m.2.2.1,.sl (.sl .i) m.2.2.2]),(27,.arr 3 .i st1.1)] ?_
   refine zo ?_
   obtain ⟨c9,h⟩:=b5.1 h
   obtain ⟨c10,h⟩:=b5.1 h
   refine zS 5 [(3,.bp 3 0),(7,.ii st1.2.1),(9,.ii (word.getD st1.2.2.toNat 0)),(11,.sl .i word),(12,.ii (word.length:Int)),(13,.ii st1.2.2),(17,.own 27),(21,.dp (.sl .i) (m.2.2.2.getD st1.2.1.toNat []) 0)] [(3,.box 171 [.ii m.1,.ii m.2.1,.sl (.sl .i) m.2.2.1,.sl (.sl .i) m.2.2.2]),(27,.arr 3 .i st1.1)] ?_
   obtain ⟨c11,h⟩:=b5.1 h
   obtain ⟨c12,h⟩:=b5.1 h
   refine zS 5 [(3,.bp 3 0),(7,.ii st1.2.1),(9,.ii (word.getD st1.2.2.toNat 0)),(11,.sl .i word),(12,.ii (word.length:Int)),(13,.ii st1.2.2),(17,.own 27),(26,.own 26)] [(3,.box 171 [.ii m.1,.ii m.2.1,.sl (.sl .i) m.2.2.1,.sl (.sl .i) m.2.2.2]),(26,.arr 3 .i [((m.2.2.2.getD st1.2.1.toNat []).getD (word.getD st1.2.2.toNat 0).toNat 0)]),(27,.arr 3 .i st1.1)] ?_
   obtain ⟨c13,h⟩:=b5.1 h
   refine zB [(3,.bp 3 0),(6,.own 27),(7,.ii st1.2.1),(9,.ii (word.getD st1.2.2.toNat 0)),(11,.sl .i word),(12,.ii (word.length:Int)),(13,.ii st1.2.2)] [(3,.box 171 [.ii m.1,.ii m.2.1,.sl (.sl .i) m.2.2.1,.sl (.sl .i) m.2.2.2]),(27,.arr 3 .i (st1.1++[((m.2.2.2.getD st1.2.1.toNat []).getD (word.getD st1.2.2.toNat 0).toNat 0)]))] ?_
   refine AW.ops ?_
   obtain ⟨c14,h⟩:=b5.1 h
   obtain ⟨c15,h⟩:=b5.1 h
   refine zS 5 [(3,.bp 3 0),(6,.own 27),(9,.ii (word.getD st1.2.2.toNat 0)),(11,.sl .i word),(12,.ii (word.length:Int)),(13,.ii st1.2.2),(32,.sl .i (m.2.2.1.getD st1.2.1.toNat []))] [(3,.box 171 [.ii m.1,.ii m.2.1,.sl (.sl .i) m.2.2.1,.sl (.sl .i) m.2.2.2]),(27,.arr 3 .i (st1.1++[((m.2.2.2.getD st1.2.1.toNat []).getD (word.getD st1.2.2.toNat 0).toNat 0)]))] ?_
   obtain ⟨c16,h⟩:=b5.1 h
   obtain ⟨c17,h⟩:=b5.1 h
   refine zA [(3,.bp 3 0),(6,.own 27),(7,.ii ((m.2.2.1.getD st1.2.1.toNat []).getD (word.getD st1.2.2.toNat 0).toNat 0)),(11,.sl .i word),(12,.ii (word.length:Int)),(13,.ii st1.2.2)] [(3,.box 171 [.ii m.1,.ii m.2.1,.sl (.sl .i) m.2.2.1,.sl (.sl .i) m.2.2.2]),(27,.arr 3 .i (st1.1++[((m.2.2.2.getD st1.2.1.toNat []).getD (word.getD st1.2.2.toNat 0).toNat 0)]))] ?_
   refine i6 ?_
   refine f7 ?_
   refine AW.ops ?_
   obtain ⟨c18,h⟩:=b5.1 h
   refine zA [(3,.bp 3 0),(6,.own 27),(7,.ii ((m.2.2.1.getD st1.2.1.toNat []).getD (word.getD st1.2.2.toNat 0).toNat 0)),(11,.sl .i word),(12,.ii (word.length:Int)),(13,.ii (st1.2.2+1))] [(3,.box 171 [.ii m.1,.ii m.2.1,.sl (.sl .i) m.2.2.1,.sl (.sl .i) m.2.2.2]),(27,.arr 3 .i (st1.1++[((m.2.2.2.getD st1.2.1.toNat []).getD (word.getD st1.2.2.toNat 0).toNat 0)]))] ?_
   obtain rfl:=zj h
   exact ⟨_,rfl,zL [] [] []⟩
  refine AW.exit ?_
  refine g7 ?_
  obtain rfl:=zj h
  rw [← hd3 _ rfl] at ho2
  have h:=ho2
  refine g7 ?_
  refine l9 ?_
  refine f7 ?_
  have hj:=hk_spec_machine_run_k1 _ h
  exact AW.weaken (zL [] [] []) hj
theorem a8S (s:Int×Int×(List (List Int))×(List (List Int))) (from0:Int) (word:List Int) {r:(List Int)×Int×Int} (h:a2w s from0 word=some r):HC Try.prog 78 [] [.agg [.ii s.1,.ii s.2.1,.sl (.sl .i) s.2.2.1,.sl (.sl .i) s.2.2.2],.ii from0,.sl .i word] [(2000,.arr 3 .i r.1)] (.tup [.own 2000,.ii r.2.1,.ii r.2.2]):=by
 unfold a2w at h
 refine zH Try.func78 [.tmp 6,.tmp 7,.tmp 8] 33 ?_
 refine zo ?_
 refine zB [(1,.ii from0),(2,.sl .i word),(3,.bp 3 0)] [(3,.box 24 [.ii s.1,.ii s.2.1,.sl (.sl .i) s.2.2.1,.sl (.sl .i) s.2.2.2])] ?_
 refine zo ?_
 refine zS 3 [(1,.ii from0),(2,.sl .i word),(11,.agg [.ii s.1,.ii s.2.1,.sl (.sl .i) s.2.2.1,.sl (.sl .i) s.2.2.2]),(13,.own 13)] [(13,.arr 3 .i [from0])] ?_
 obtain ⟨v0,hv1,h⟩:=zw h
 refine zC [13] [] (a5n s [from0] hv1) [(1,.ii from0),(2,.sl .i word),(14,.tup [.agg [.ii v0.1,.ii v0.2.1,.sl (.sl .i) v0.2.2.1,.sl (.sl .i) v0.2.2.2.1],.ii v0.2.2.2.2])] [] ?_
 refine zS 5 [(1,.ii from0),(2,.sl .i word),(9,.bp 9 0),(16,.ii v0.2.2.2.2)] [(9,.box 171 [.ii v0.1,.ii v0.2.1,.sl (.sl .i) v0.2.2.1,.sl (.sl .i) v0.2.2.2.1])] ?_
 refine zB [(1,.ii from0),(2,.sl .i word),(8,.ii v0.2.2.2.2),(9,.bp 9 0)] [(9,.box 171 [.ii v0.1,.ii v0.2.1,.sl (.sl .i) v0.2.2.1,.sl (.sl .i) v0.2.2.2.1])] ?_
 refine AW.seq ?_
 refine zo ?_
 refine zB [(1,.ii from0),(2,.sl .i word),(8,.ii v0.2.2.2.2),(9,.bp 9 0),(18,.bool (!(decide (v0.2.2.2.2=0))))] [(9,.box 171 [.ii v0.1,.ii v0.2.1,.sl (.sl .i) v0.2.2.1,.sl (.sl .i) v0.2.2.2.1])] ?_
 refine zQ h (fun hb2 h=>?_) (fun hb2 h=>?_)
 ·refine zo ?_
  refine zB [(6,.cv (.slice none 0 0)),(7,.ii 0),(8,.ii v0.2.2.2.2)] [] ?_
  refine zr ?_
  obtain rfl:=zj h
  exact zR [] [2000] []
 refine zk ?_
 refine AW.seq ?_
 refine zo ?_
 refine zS 2 [(1,.ii from0),(2,.sl .i word),(9,.bp 9 0),(20,.agg [.ii v0.1,.ii v0.2.1,.sl (.sl .i) v0.2.2.1,.sl (.sl .i) v0.2.2.2.1]),(21,.sl .i word)] [(9,.box 171 [.ii v0.1,.ii v0.2.1,.sl (.sl .i) v0.2.2.1,.sl (.sl .i) v0.2.2.2.1])] ?_
 obtain ⟨v0_2,hv3,h⟩:=zw h
 refine zC [] [] (a1X (v0.1,v0.2.1,v0.2.2.1,v0.2.2.2.1) word hv3) [(1,.ii from0),(2,.sl .i word),(9,.bp 9 0),(22,.bool v0_2)] [(9,.box 171 [.ii v0.1,.ii v0.2.1,.sl (.sl .i) v0.2.2.1,.sl (.sl .i) v0.2.2.2.1])] ?_
 refine zB [(1,.ii from0),(2,.sl .i word),(9,.bp 9 0),(23,.bool (!v0_2))] [(9,.box 171 [.ii v0.1,.ii v0.2.1,.sl (.sl .i) v0.2.2.1,.sl (.sl .i) v0.2.2.2.1])] ?_
 refine zQ h (fun hb4 h=>?_) (fun hb4 h=>?_)
 ·refine zo ?_
  refine zB [(6,.cv (.slice none 0 0)),(7,.ii 0),(8,.ii 2)] [] ?_
  refine zr ?_
  obtain rfl:=zj h
  exact zR [] [2000] []
 refine zk ?_
 refine zo ?_
 refine zS 3 [(25,.agg [.ii v0.1,.ii v0.2.1,.sl (.sl .i) v0.2.2.1,.sl (.sl .i) v0.2.2.2.1]),(26,.ii from0),(27,.sl .i word)] [] ?_
 obtain ⟨v0_3,hv5,h⟩:=zw h
 refine zC [] [] (a3h (v0.1,v0.2.1,v0.2.2.1,v0.2.2.2.1) from0 word hv5) [(28,.tup [.own 38000,.ii v0_3.2])] [(38000,.arr 3 .i v0_3.1)] ?_
 refine zB [(6,.own 38000),(7,.ii v0_3.2)] [(38000,.arr 3 .i v0_3.1)] ?_
 refine zo ?_
 refine zB [(6,.own 38000),(7,.ii v0_3.2),(8,.ii 0)] [(38000,.arr 3 .i v0_3.1)] ?_
 refine AW.ret ?_
 obtain rfl:=zj h
 exact zR [] [] [(2000,38000)]
theorem a2K (p:(List (List (Int×Int×Int×Int)))×(List (List Int))) (steps:Int) {r:Unit} (h:P1 p steps=some r):HC Try.prog 79 [] [.agg [.sl (.sl Y4) p.1,.sl (.sl .i) p.2],.ii steps] [(2000,.box 77 [.sl (.sl Y4) p.1,.sl (.sl .i) p.2]),(2001,.box 3 [.ii steps])] (.fn (.func 133) [] [.bp 2000 0,.bp 2001 0]):=by
 unfold P1 at h
 refine zH Try.func79 [.tmp 4] 6 ?_
 refine zo ?_
 refine zB [(2,.bp 2 0),(3,.bp 3 0)] [(2,.box 77 [.sl (.sl Y4) p.1,.sl (.sl .i) p.2]),(3,.box 3 [.ii steps])] ?_
 refine zo ?_
 refine zB [(4,.fn (.func 133) [] [.bp 2 0,.bp 3 0])] [(2,.box 77 [.sl (.sl Y4) p.1,.sl (.sl .i) p.2]),(3,.box 3 [.ii steps])] ?_
 refine AW.ret ?_
 obtain rfl:=zj h
 exact zR [] [] [(2000,2),(2001,3)]
theorem a3E (r0:((List (List (Int×Int×Int×Int)))×(List (List Int)))×(List Int)×(El T80)×(Int×Int×Int)×(El T85)×(El T86)×Int) {r:Bool} (h:T4 r0=some r):HC Try.prog 70 [] [.agg (.sl (.sl Y4) r0.1.1::(.sl (.sl .i) r0.1.2::(.sl .i r0.2.1::(b4 T80 r0.2.2.1++(.ii r0.2.2.2.1.1::(.ii r0.2.2.2.1.2.1::(.ii r0.2.2.2.1.2.2::(b4 T85 r0.2.2.2.2.1++(b4 T86 r0.2.2.2.2.2.1++(.ii r0.2.2.2.2.2.2::[]))))))))))] [] (.bool r):=by
 unfold T4 at h
 refine zH Try.func70 [.tmp 2] 7 ?_
 refine zo ?_
 refine zB [(1,.bp 1 0)] [(1,.box 88 (.sl (.sl Y4) r0.1.1::(.sl (.sl .i) r0.1.2::(.sl .i r0.2.1::(b4 T80 r0.2.2.1++(.ii r0.2.2.2.1.1::(.ii r0.2.2.2.1.2.1::(.ii r0.2.2.2.1.2.2::(b4 T85 r0.2.2.2.2.1++(b4 T86 r0.2.2.2.2.2.1++(.ii r0.2.2.2.2.2.2::[])))))))))))] ?_
 refine zo ?_
 refine zS 1 [(3,.agg (.sl (.sl Y4) r0.1.1::(.sl (.sl .i) r0.1.2::(.sl .i r0.2.1::(b4 T80 r0.2.2.1++(.ii r0.2.2.2.1.1::(.ii r0.2.2.2.1.2.1::(.ii r0.2.2.2.1.2.2::(b4 T85 r0.2.2.2.2.1++(b4 T86 r0.2.2.2.2.2.1++(.ii r0.2.2.2.2.2.2::[])))))))))))] [] ?_
 obtain ⟨v0,hv1,h⟩:=zw h
 refine zC [] [] (a1x r0 hv1) [(4,.own 14000)] [(14000,.arr 3 .i v0)] ?_
 refine zB [(2,.bool (decide ((v0.length:Int)=0)))] [] ?_
 refine AW.ret ?_
 obtain rfl:=zj h
 exact zR [] [] []
theorem a5o (s1:List Int) (s2:List Int) {r:Bool} (h:V4 s1 s2=some r):HC Try.prog 80 [] [.sl .i s1,.sl .i s2] [] (.bool r):=by
 unfold V4 at h
 refine zH Try.func80 [.tmp 4] 26 ?_
 refine zo ?_
 refine zB [(0,.sl .i s1),(1,.sl .i s2)] [] ?_
 refine AW.seq ?_
 refine zo ?_
 refine zB [(0,.sl .i s1),(1,.sl .i s2),(10,.bool (!(decide ((s1.length:Int)=(s2.length:Int)))))] [] ?_
 refine zQ h (fun hb1 h=>?_) (fun hb1 h=>?_)
 ·refine zo ?_
  refine zB [(4,.bool false)] [] ?_
  refine zr ?_
  obtain rfl:=zj h
  exact zR [] [] []
 refine zk ?_
 refine AW.have1 (fun _:Unit=>a0e=some r) (fun _=>⟨fr [],b8 [],gt⟩) (fun _ h=>?_) (fun hk_slices_Equal_k1=>?_)
 ·as_aux_lemma =>
   unfold a0e at h
   refine zo ?_
   refine zB [(4,.bool true)] [] ?_
   refine AW.ret ?_
   obtain rfl:=zj h
   exact zR [] [] []
 refine AW.seq ?_
 refine zo ?_
 refine zB [(0,.sl .i s1),(1,.sl .i s2),(12,.ii (s1.length:Int)),(13,.ii 0)] [] ?_
 refine AW.block ?_
 obtain ⟨rv6,hw2,ho3⟩:=zw h
 refine AW.loopO (J0 s1 s2) (fun st1=>⟨fr [(0,.sl .i s1),(1,.sl .i s2),(12,.ii (s1.length:Int)),(13,.ii st1)],b8 [],gt⟩) 0 hw2 (zL [] [] []) ?_
 as_aux_lemma =>
  intro st1 x5 h hd4
  unfold J0 at h
  refine zo ?_
  refine zB [(0,.sl .i s1),(1,.sl .i s2),(12,.ii (s1.length:Int)),(13,.ii st1),(14,.bool (decide (st1<(s1.length:Int))))] [] ?_
  refine AW.seq ?_
  refine zQ h (fun hb7 h=>?_) (fun hb7 h=>?_)
  ·refine zk ?_
   refine AW.seq ?_
   refine AW.block ?_
   refine zo ?_
   refine zB [(0,.sl .i s1),(1,.sl .i s2),(5,.ii st1),(12,.ii (s1.length:Int)),(13,.ii st1)] [] ?_
   refine AW.seq ?_
   refine AW.draw m8 l6 [] [] (by decide) (n6 (by kernel_rfl)) ?_
   as_aux_lemma =>
    obtain ⟨c9,h⟩:=b5.1 h
    obtain ⟨c10,h⟩:=b5.1 h
    refine b9 6 (fun K' hK8=>?_)
    try dsimp only [y1,y2,y3,y4]
    simp only [go_sem,hb1,hb7]
    repeat with_reducible refine zN ?_
    refine hK8 _ ?_
    as_aux_lemma =>
     obtain ⟨c12,h⟩:=b5.1 h
     obtain ⟨c13,h⟩:=b5.1 h
     refine b9 3 (fun K' hK11=>?_)
     try dsimp only [y1,y2,y3,y4]
     simp only [go_sem,hb1,hb7]
     repeat with_reducible refine zN ?_
     refine hK11 _ ?_
     refine g6 ?_
     refine f7 ?_
     refine zV [(0,.sl .i s1),(1,.sl .i s2),(12,.ii (s1.length:Int)),(13,.ii st1),(24,.bool (!(decide ((s1.getD st1.toNat 0)=(s2.getD st1.toNat 0)))))] [] gt ?_
     as_aux_lemma =>
      refine zQ h (fun hb14 h=>?_) (fun hb14 h=>?_)
      ·refine zo ?_
       refine zB [(4,.bool false)] [] ?_
       refine AW.ret ?_
       refine d7 ?_
       refine d6 ?_
       obtain rfl:=zj h
       try rw [← hd4 _ rfl] at ho3
       have h:=ho3
       try simp only at h
       refine d6 ?_
       refine d7 ?_
       refine d6 ?_
       obtain rfl:=zj h
       exact zR [] [] []
      refine zm ?_
      refine f7 ?_
      refine AW.ops ?_
      obtain ⟨c15,h⟩:=b5.1 h
      refine zA [(0,.sl .i s1),(1,.sl .i s2),(12,.ii (s1.length:Int)),(13,.ii (st1+1))] [] ?_
      obtain rfl:=zj h
      exact ⟨_,rfl,zL [] [] []⟩
  refine AW.exit ?_
  refine g7 ?_
  obtain rfl:=zj h
  try rw [← hd4 _ rfl] at ho3
  have h:=ho3
  try simp only at h
  refine g7 ?_
  refine l9 ?_
  refine f7 ?_
  exact AW.weaken (zL [] [] []) (hk_slices_Equal_k1 () h)
end Go.Proofs.Ytenchhmcjmjlbaa
