import Derived.Test.YtenchhmcjmjlbaaCkp
import Derived.Test.YtenchhmcjmjlbaaShk
import Derived.Test.YtenchhmcjmjlbaaCec2
import Derived.Test.YtenchhmcjmjlbaaCec8
namespace Go.Proofs.Ytenchhmcjmjlbaa
open Go.RowKit
set_option linter.unusedSimpArgs false
set_option linter.unusedVariables false
set_option linter.constructorNameAsVariable false
set_option maxRecDepth 100000
set_option maxHeartbeats 40000000
theorem a2e (m:Int×Int×(List (List Int))×(List (List Int))) (table:List (List Int)) (is0:Int×Int×(List (List Int))×(List (List Int))) {r:Bool} (h:E8 m table is0=some r):HC Try.prog 162 [] [.agg [.ii m.1,.ii m.2.1,.sl (.sl .i) m.2.2.1,.sl (.sl .i) m.2.2.2],.sl (.sl .i) table,.fn (.func 163) [.agg [.ii is0.1,.ii is0.2.1,.sl (.sl .i) is0.2.2.1,.sl (.sl .i) is0.2.2.2]] []] [] (.bool r):=by
 unfold E8 at h
 refine zH Try.func162 [.tmp 6] 32 ?_
 refine zo ?_
 refine zB [(1,.sl (.sl .i) table),(2,.fn (.func 163) [.agg [.ii is0.1,.ii is0.2.1,.sl (.sl .i) is0.2.2.1,.sl (.sl .i) is0.2.2.2]] []),(3,.bp 3 0)] [(3,.box 171 [.ii m.1,.ii m.2.1,.sl (.sl .i) m.2.2.1,.sl (.sl .i) m.2.2.2])] ?_
 refine AW.seq ?_
 refine zo ?_
 refine zB [(1,.sl (.sl .i) table),(2,.fn (.func 163) [.agg [.ii is0.1,.ii is0.2.1,.sl (.sl .i) is0.2.2.1,.sl (.sl .i) is0.2.2.2]] []),(3,.bp 3 0),(13,.bool (!(decide ((table.length:Int)=m.1))))] [(3,.box 171 [.ii m.1,.ii m.2.1,.sl (.sl .i) m.2.2.1,.sl (.sl .i) m.2.2.2])] ?_
 refine zQ h (fun hb1 h=>?_) (fun hb1 h=>?_)
 ·refine zo ?_
  refine zB [(6,.bool false)] [] ?_
  refine zr ?_
  obtain rfl:=zj h
  exact zR [] [] []
 refine zk ?_
 refine AW.have1 (fun _:Unit=>F7=some r) (fun _=>⟨fr [],b6 [],gt⟩) (fun _ h=>?_) (fun hk_spec_machine_isTable_k1=>?_)
 ·as_aux_lemma =>
   unfold F7 at h
   refine zo ?_
   refine zB [(6,.bool true)] [] ?_
   refine AW.ret ?_
   obtain rfl:=zj h
   exact zR [] [] []
 refine AW.seq ?_
 refine zo ?_
 refine zB [(2,.fn (.func 163) [.agg [.ii is0.1,.ii is0.2.1,.sl (.sl .i) is0.2.2.1,.sl (.sl .i) is0.2.2.2]] []),(3,.bp 3 0),(14,.sl (.sl .i) table),(15,.ii (table.length:Int)),(16,.ii 0)] [(3,.box 171 [.ii m.1,.ii m.2.1,.sl (.sl .i) m.2.2.1,.sl (.sl .i) m.2.2.2])] ?_
 refine AW.block ?_
 obtain ⟨rv6,hw2,ho3⟩:=zw h
 refine AW.loopO (z7 m table is0) (fun st1=>⟨fr [(2,.fn (.func 163) [.agg [.ii is0.1,.ii is0.2.1,.sl (.sl .i) is0.2.2.1,.sl (.sl .i) is0.2.2.2]] []),(3,.bp 3 0),(14,.sl (.sl .i) table),(15,.ii (table.length:Int)),(16,.ii st1)],b6 [(3,.box 171 [.ii m.1,.ii m.2.1,.sl (.sl .i) m.2.2.1,.sl (.sl .i) m.2.2.2])],gt⟩) 0 hw2 (zL [] [] []) ?_
 as_aux_lemma =>
  intro st1 x5 h hd4
  unfold z7 at h
  refine zo ?_
  refine zB [(2,.fn (.func 163) [.agg [.ii is0.1,.ii is0.2.1,.sl (.sl .i) is0.2.2.1,.sl (.sl .i) is0.2.2.2]] []),(3,.bp 3 0),(14,.sl (.sl .i) table),(15,.ii (table.length:Int)),(16,.ii st1),(17,.bool (decide (st1<(table.length:Int))))] [(3,.box 171 [.ii m.1,.ii m.2.1,.sl (.sl .i) m.2.2.1,.sl (.sl .i) m.2.2.2])] ?_
  refine AW.seq ?_
  refine zQ h (fun hb7 h=>?_) (fun hb7 h=>?_)
  ·refine zk ?_
   refine AW.seq ?_
   refine AW.block ?_
   refine zo ?_
   obtain ⟨c8,h⟩:=b5.1 h
   obtain ⟨c9,h⟩:=b5.1 h
   refine zB [(2,.fn (.func 163) [.agg [.ii is0.1,.ii is0.2.1,.sl (.sl .i) is0.2.2.1,.sl (.sl .i) is0.2.2.2]] []),(3,.bp 3 0),(8,.sl .i (table.getD st1.toNat [])),(14,.sl (.sl .i) table),(15,.ii (table.length:Int)),(16,.ii st1)] [(3,.box 171 [.ii m.1,.ii m.2.1,.sl (.sl .i) m.2.2.1,.sl (.sl .i) m.2.2.2])] ?_
   refine zo ?_
   refine zS 5 [(2,.fn (.func 163) [.agg [.ii is0.1,.ii is0.2.1,.sl (.sl .i) is0.2.2.1,.sl (.sl .i) is0.2.2.2]] []),(3,.bp 3 0),(8,.sl .i (table.getD st1.toNat [])),(14,.sl (.sl .i) table),(15,.ii (table.length:Int)),(16,.ii st1),(24,.bool (!(decide (((table.getD st1.toNat []).length:Int)=m.2.1))))] [(3,.box 171 [.ii m.1,.ii m.2.1,.sl (.sl .i) m.2.2.1,.sl (.sl .i) m.2.2.2])] ?_
   refine zS 1 [(2,.fn (.func 163) [.agg [.ii is0.1,.ii is0.2.1,.sl (.sl .i) is0.2.2.1,.sl (.sl .i) is0.2.2.2]] []),(3,.bp 3 0),(8,.sl .i (table.getD st1.toNat [])),(14,.sl (.sl .i) table),(15,.ii (table.length:Int)),(16,.ii st1),(25,.bool (!(decide (((table.getD st1.toNat []).length:Int)=m.2.1))))] [(3,.box 171 [.ii m.1,.ii m.2.1,.sl (.sl .i) m.2.2.1,.sl (.sl .i) m.2.2.2])] ?_
   rcases zI h with ⟨hb10,h⟩|⟨hb10,h⟩
   ·refine zS 4 [(2,.fn (.func 163) [.agg [.ii is0.1,.ii is0.2.1,.sl (.sl .i) is0.2.2.1,.sl (.sl .i) is0.2.2.2]] []),(3,.bp 3 0),(14,.sl (.sl .i) table),(15,.ii (table.length:Int)),(16,.ii st1),(25,.bool true),(29,.cv (undef))] [(3,.box 171 [.ii m.1,.ii m.2.1,.sl (.sl .i) m.2.2.1,.sl (.sl .i) m.2.2.2])] ?_
    refine zB [(2,.fn (.func 163) [.agg [.ii is0.1,.ii is0.2.1,.sl (.sl .i) is0.2.2.1,.sl (.sl .i) is0.2.2.2]] []),(3,.bp 3 0),(14,.sl (.sl .i) table),(15,.ii (table.length:Int)),(16,.ii st1),(30,.bool true)] [(3,.box 171 [.ii m.1,.ii m.2.1,.sl (.sl .i) m.2.2.1,.sl (.sl .i) m.2.2.2])] ?_
    refine AW.cond (b:=true) rfl (fun _=>?_) (fun hb11=>by cases hb11)
    refine zo ?_
    refine zB [(6,.bool false)] [] ?_
    refine AW.ret ?_
    refine d7 ?_
    refine b9 ?_
    obtain rfl:=zj h
    try rw [← hd4 _ rfl] at ho3
    have h:=ho3
    try simp only at h
    refine b9 ?_
    refine d7 ?_
    refine b9 ?_
    obtain rfl:=zj h
    exact zR [] [] []
   refine zS 2 [(2,.fn (.func 163) [.agg [.ii is0.1,.ii is0.2.1,.sl (.sl .i) is0.2.2.1,.sl (.sl .i) is0.2.2.2]] []),(3,.bp 3 0),(14,.sl (.sl .i) table),(15,.ii (table.length:Int)),(16,.ii st1),(25,.bool false),(26,.fn (.func 163) [.agg [.ii is0.1,.ii is0.2.1,.sl (.sl .i) is0.2.2.1,.sl (.sl .i) is0.2.2.2]] []),(27,.sl .i (table.getD st1.toNat []))] [(3,.box 171 [.ii m.1,.ii m.2.1,.sl (.sl .i) m.2.2.1,.sl (.sl .i) m.2.2.2])] ?_
   obtain ⟨v0,hv12,h⟩:=zw h
   refine zG [] [] (b0h is0 (table.getD st1.toNat []) hv12) [(2,.fn (.func 163) [.agg [.ii is0.1,.ii is0.2.1,.sl (.sl .i) is0.2.2.1,.sl (.sl .i) is0.2.2.2]] []),(3,.bp 3 0),(14,.sl (.sl .i) table),(15,.ii (table.length:Int)),(16,.ii st1),(25,.bool false),(28,.bool v0)] [(3,.box 171 [.ii m.1,.ii m.2.1,.sl (.sl .i) m.2.2.1,.sl (.sl .i) m.2.2.2])] ?_
   refine zB [(2,.fn (.func 163) [.agg [.ii is0.1,.ii is0.2.1,.sl (.sl .i) is0.2.2.1,.sl (.sl .i) is0.2.2.2]] []),(3,.bp 3 0),(14,.sl (.sl .i) table),(15,.ii (table.length:Int)),(16,.ii st1),(30,.bool (!v0))] [(3,.box 171 [.ii m.1,.ii m.2.1,.sl (.sl .i) m.2.2.1,.sl (.sl .i) m.2.2.2])] ?_
   refine zQ h (fun hb13 h=>?_) (fun hb13 h=>?_)
   ·refine zo ?_
    refine zB [(6,.bool false)] [] ?_
    refine AW.ret ?_
    refine d7 ?_
    refine b9 ?_
    obtain rfl:=zj h
    try rw [← hd4 _ rfl] at ho3
    have h:=ho3
    try simp only at h
    refine b9 ?_
    refine d7 ?_
    refine b9 ?_
    obtain rfl:=zj h
    exact zR [] [] []
   refine zm ?_
   refine g5 ?_
   refine AW.ops ?_
   obtain ⟨c14,h⟩:=b5.1 h
   refine zA [(2,.fn (.func 163) [.agg [.ii is0.1,.ii is0.2.1,.sl (.sl .i) is0.2.2.1,.sl (.sl .i) is0.2.2.2]] []),(3,.bp 3 0),(14,.sl (.sl .i) table),(15,.ii (table.length:Int)),(16,.ii (st1+1))] [(3,.box 171 [.ii m.1,.ii m.2.1,.sl (.sl .i) m.2.2.1,.sl (.sl .i) m.2.2.2])] ?_
   obtain rfl:=zj h
   exact ⟨_,rfl,zL [] [] []⟩
  refine AW.exit ?_
  refine i6 ?_
  obtain rfl:=zj h
  try rw [← hd4 _ rfl] at ho3
  have h:=ho3
  try simp only at h
  refine i6 ?_
  refine m7 ?_
  refine g5 ?_
  exact AW.weaken (zL [] [] []) (hk_spec_machine_isTable_k1 () h)
theorem a5N (n:Int) {r:Bool} (h:U7 n=some r):HC Try.prog 164 [] [.ii n] [] (.bool r):=by
 unfold U7 at h
 refine zH Try.func164 [.tmp 2] 9 ?_
 refine zo ?_
 refine zB [(0,.ii n)] [] ?_
 refine zo ?_
 refine zS 3 [(0,.ii n),(5,.bool (decide (0≤n)))] [] ?_
 rcases zI h with ⟨hb1,h⟩|⟨hb1,h⟩
 ·refine zB [(2,.bool (decide (n≤5)))] [] ?_
  refine AW.ret ?_
  obtain rfl:=zj h
  exact zR [] [] []
 refine zB [(2,.bool false)] [] ?_
 refine AW.ret ?_
 obtain rfl:=zj h
 exact zR [] [] []
theorem a7Y (numbers:List Int) {r:Bool} (h:a03 numbers=some r):HC Try.prog 172 [] [.fn (.func 164) [] [],.sl .i numbers] [] (.bool r):=by
 unfold a03 at h
 refine zH Try.func172 [.tmp 4] 18 ?_
 refine zo ?_
 refine zB [(0,.fn (.func 164) [] []),(1,.sl .i numbers)] [] ?_
 refine AW.have1 (fun _:Unit=>a0l=some r) (fun _=>⟨fr [],b6 [],gt⟩) (fun _ h=>?_) (fun hk_spec_all_2_k1=>?_)
 ·as_aux_lemma =>
   unfold a0l at h
   refine zo ?_
   refine zB [(4,.bool true)] [] ?_
   refine AW.ret ?_
   obtain rfl:=zj h
   exact zR [] [] []
 refine AW.seq ?_
 refine zo ?_
 refine zB [(0,.fn (.func 164) [] []),(7,.sl .i numbers),(8,.ii (numbers.length:Int)),(9,.ii 0)] [] ?_
 refine AW.block ?_
 obtain ⟨rv5,hw1,ho2⟩:=zw h
 refine AW.loopO (U8 numbers) (fun st1=>⟨fr [(0,.fn (.func 164) [] []),(7,.sl .i numbers),(8,.ii (numbers.length:Int)),(9,.ii st1)],b6 [],gt⟩) 0 hw1 (zL [] [] []) ?_
 as_aux_lemma =>
  intro st1 x4 h hd3
  unfold U8 at h
  refine zo ?_
  refine zB [(0,.fn (.func 164) [] []),(7,.sl .i numbers),(8,.ii (numbers.length:Int)),(9,.ii st1),(10,.bool (decide (st1<(numbers.length:Int))))] [] ?_
  refine AW.seq ?_
  refine zQ h (fun hb6 h=>?_) (fun hb6 h=>?_)
  ·refine zk ?_
   refine AW.seq ?_
   refine AW.block ?_
   refine zo ?_
   obtain ⟨c7,h⟩:=b5.1 h
   obtain ⟨c8,h⟩:=b5.1 h
   refine zB [(0,.fn (.func 164) [] []),(6,.ii (numbers.getD st1.toNat 0)),(7,.sl .i numbers),(8,.ii (numbers.length:Int)),(9,.ii st1)] [] ?_
   refine zo ?_
   refine zS 2 [(0,.fn (.func 164) [] []),(7,.sl .i numbers),(8,.ii (numbers.length:Int)),(9,.ii st1),(13,.fn (.func 164) [] []),(14,.ii (numbers.getD st1.toNat 0))] [] ?_
   obtain ⟨v0,hv9,h⟩:=zw h
   refine zC [] [] (a5N (numbers.getD st1.toNat 0) hv9) [(0,.fn (.func 164) [] []),(7,.sl .i numbers),(8,.ii (numbers.length:Int)),(9,.ii st1),(15,.bool v0)] [] ?_
   refine zB [(0,.fn (.func 164) [] []),(7,.sl .i numbers),(8,.ii (numbers.length:Int)),(9,.ii st1),(16,.bool (!v0))] [] ?_
   refine zQ h (fun hb10 h=>?_) (fun hb10 h=>?_)
   ·refine zo ?_
    refine zB [(4,.bool false)] [] ?_
    refine AW.ret ?_
    refine d7 ?_
    refine b9 ?_
    obtain rfl:=zj h
    try rw [← hd3 _ rfl] at ho2
    have h:=ho2
    try simp only at h
    refine b9 ?_
    refine d7 ?_
    refine b9 ?_
    obtain rfl:=zj h
    exact zR [] [] []
   refine zm ?_
   refine g5 ?_
   refine AW.ops ?_
   obtain ⟨c11,h⟩:=b5.1 h
   refine zA [(0,.fn (.func 164) [] []),(7,.sl .i numbers),(8,.ii (numbers.length:Int)),(9,.ii (st1+1))] [] ?_
   obtain rfl:=zj h
   exact ⟨_,rfl,zL [] [] []⟩
  refine AW.exit ?_
  refine i6 ?_
  obtain rfl:=zj h
  try rw [← hd3 _ rfl] at ho2
  have h:=ho2
  try simp only at h
  refine i6 ?_
  refine m7 ?_
  refine g5 ?_
  exact AW.weaken (zL [] [] []) (hk_spec_all_2_k1 () h)
theorem a1r (m:Int×Int×(List (List Int))×(List (List Int))) (table:List (List Int)) {r:Bool} (h:B8 m table=some r):HC Try.prog 162 [] [.agg [.ii m.1,.ii m.2.1,.sl (.sl .i) m.2.2.1,.sl (.sl .i) m.2.2.2],.sl (.sl .i) table,.fn (.func 164) [] []] [] (.bool r):=by
 unfold B8 at h
 refine zH Try.func162 [.tmp 6] 32 ?_
 refine zo ?_
 refine zB [(1,.sl (.sl .i) table),(2,.fn (.func 164) [] []),(3,.bp 3 0)] [(3,.box 171 [.ii m.1,.ii m.2.1,.sl (.sl .i) m.2.2.1,.sl (.sl .i) m.2.2.2])] ?_
 refine AW.seq ?_
 refine zo ?_
 refine zB [(1,.sl (.sl .i) table),(2,.fn (.func 164) [] []),(3,.bp 3 0),(13,.bool (!(decide ((table.length:Int)=m.1))))] [(3,.box 171 [.ii m.1,.ii m.2.1,.sl (.sl .i) m.2.2.1,.sl (.sl .i) m.2.2.2])] ?_
 refine zQ h (fun hb1 h=>?_) (fun hb1 h=>?_)
 ·refine zo ?_
  refine zB [(6,.bool false)] [] ?_
  refine zr ?_
  obtain rfl:=zj h
  exact zR [] [] []
 refine zk ?_
 refine AW.have1 (fun _:Unit=>D5=some r) (fun _=>⟨fr [],b6 [],gt⟩) (fun _ h=>?_) (fun hk_spec_machine_isTable_2_k1=>?_)
 ·as_aux_lemma =>
   unfold D5 at h
   refine zo ?_
   refine zB [(6,.bool true)] [] ?_
   refine AW.ret ?_
   obtain rfl:=zj h
   exact zR [] [] []
 refine AW.seq ?_
 refine zo ?_
 refine zB [(2,.fn (.func 164) [] []),(3,.bp 3 0),(14,.sl (.sl .i) table),(15,.ii (table.length:Int)),(16,.ii 0)] [(3,.box 171 [.ii m.1,.ii m.2.1,.sl (.sl .i) m.2.2.1,.sl (.sl .i) m.2.2.2])] ?_
 refine AW.block ?_
 obtain ⟨rv6,hw2,ho3⟩:=zw h
 refine AW.loopO (v8 m table) (fun st1=>⟨fr [(2,.fn (.func 164) [] []),(3,.bp 3 0),(14,.sl (.sl .i) table),(15,.ii (table.length:Int)),(16,.ii st1)],b6 [(3,.box 171 [.ii m.1,.ii m.2.1,.sl (.sl .i) m.2.2.1,.sl (.sl .i) m.2.2.2])],gt⟩) 0 hw2 (zL [] [] []) ?_
 as_aux_lemma =>
  intro st1 x5 h hd4
  unfold v8 at h
  refine zo ?_
  refine zB [(2,.fn (.func 164) [] []),(3,.bp 3 0),(14,.sl (.sl .i) table),(15,.ii (table.length:Int)),(16,.ii st1),(17,.bool (decide (st1<(table.length:Int))))] [(3,.box 171 [.ii m.1,.ii m.2.1,.sl (.sl .i) m.2.2.1,.sl (.sl .i) m.2.2.2])] ?_
  refine AW.seq ?_
  refine zQ h (fun hb7 h=>?_) (fun hb7 h=>?_)
  ·refine zk ?_
   refine AW.seq ?_
   refine AW.block ?_
   refine zo ?_
   obtain ⟨c8,h⟩:=b5.1 h
   obtain ⟨c9,h⟩:=b5.1 h
   refine zB [(2,.fn (.func 164) [] []),(3,.bp 3 0),(8,.sl .i (table.getD st1.toNat [])),(14,.sl (.sl .i) table),(15,.ii (table.length:Int)),(16,.ii st1)] [(3,.box 171 [.ii m.1,.ii m.2.1,.sl (.sl .i) m.2.2.1,.sl (.sl .i) m.2.2.2])] ?_
   refine zo ?_
   refine zS 5 [(2,.fn (.func 164) [] []),(3,.bp 3 0),(8,.sl .i (table.getD st1.toNat [])),(14,.sl (.sl .i) table),(15,.ii (table.length:Int)),(16,.ii st1),(24,.bool (!(decide (((table.getD st1.toNat []).length:Int)=m.2.1))))] [(3,.box 171 [.ii m.1,.ii m.2.1,.sl (.sl .i) m.2.2.1,.sl (.sl .i) m.2.2.2])] ?_
   refine zS 1 [(2,.fn (.func 164) [] []),(3,.bp 3 0),(8,.sl .i (table.getD st1.toNat [])),(14,.sl (.sl .i) table),(15,.ii (table.length:Int)),(16,.ii st1),(25,.bool (!(decide (((table.getD st1.toNat []).length:Int)=m.2.1))))] [(3,.box 171 [.ii m.1,.ii m.2.1,.sl (.sl .i) m.2.2.1,.sl (.sl .i) m.2.2.2])] ?_
   rcases zI h with ⟨hb10,h⟩|⟨hb10,h⟩
   ·refine zS 4 [(2,.fn (.func 164) [] []),(3,.bp 3 0),(14,.sl (.sl .i) table),(15,.ii (table.length:Int)),(16,.ii st1),(25,.bool true),(29,.cv (undef))] [(3,.box 171 [.ii m.1,.ii m.2.1,.sl (.sl .i) m.2.2.1,.sl (.sl .i) m.2.2.2])] ?_
    refine zB [(2,.fn (.func 164) [] []),(3,.bp 3 0),(14,.sl (.sl .i) table),(15,.ii (table.length:Int)),(16,.ii st1),(30,.bool true)] [(3,.box 171 [.ii m.1,.ii m.2.1,.sl (.sl .i) m.2.2.1,.sl (.sl .i) m.2.2.2])] ?_
    refine AW.cond (b:=true) rfl (fun _=>?_) (fun hb11=>by cases hb11)
    refine zo ?_
    refine zB [(6,.bool false)] [] ?_
    refine AW.ret ?_
    refine d7 ?_
    refine b9 ?_
    obtain rfl:=zj h
    try rw [← hd4 _ rfl] at ho3
    have h:=ho3
    try simp only at h
    refine b9 ?_
    refine d7 ?_
    refine b9 ?_
    obtain rfl:=zj h
    exact zR [] [] []
   refine zS 2 [(2,.fn (.func 164) [] []),(3,.bp 3 0),(14,.sl (.sl .i) table),(15,.ii (table.length:Int)),(16,.ii st1),(25,.bool false),(26,.fn (.func 164) [] []),(27,.sl .i (table.getD st1.toNat []))] [(3,.box 171 [.ii m.1,.ii m.2.1,.sl (.sl .i) m.2.2.1,.sl (.sl .i) m.2.2.2])] ?_
   obtain ⟨v0,hv12,h⟩:=zw h
   refine zG [] [] (a7Y (table.getD st1.toNat []) hv12) [(2,.fn (.func 164) [] []),(3,.bp 3 0),(14,.sl (.sl .i) table),(15,.ii (table.length:Int)),(16,.ii st1),(25,.bool false),(28,.bool v0)] [(3,.box 171 [.ii m.1,.ii m.2.1,.sl (.sl .i) m.2.2.1,.sl (.sl .i) m.2.2.2])] ?_
   refine zB [(2,.fn (.func 164) [] []),(3,.bp 3 0),(14,.sl (.sl .i) table),(15,.ii (table.length:Int)),(16,.ii st1),(30,.bool (!v0))] [(3,.box 171 [.ii m.1,.ii m.2.1,.sl (.sl .i) m.2.2.1,.sl (.sl .i) m.2.2.2])] ?_
   refine zQ h (fun hb13 h=>?_) (fun hb13 h=>?_)
   ·refine zo ?_
    refine zB [(6,.bool false)] [] ?_
    refine AW.ret ?_
    refine d7 ?_
    refine b9 ?_
    obtain rfl:=zj h
    try rw [← hd4 _ rfl] at ho3
    have h:=ho3
    try simp only at h
    refine b9 ?_
    refine d7 ?_
    refine b9 ?_
    obtain rfl:=zj h
    exact zR [] [] []
   refine zm ?_
   refine g5 ?_
   refine AW.ops ?_
   obtain ⟨c14,h⟩:=b5.1 h
   refine zA [(2,.fn (.func 164) [] []),(3,.bp 3 0),(14,.sl (.sl .i) table),(15,.ii (table.length:Int)),(16,.ii (st1+1))] [(3,.box 171 [.ii m.1,.ii m.2.1,.sl (.sl .i) m.2.2.1,.sl (.sl .i) m.2.2.2])] ?_
   obtain rfl:=zj h
   exact ⟨_,rfl,zL [] [] []⟩
  refine AW.exit ?_
  refine i6 ?_
  obtain rfl:=zj h
  try rw [← hd4 _ rfl] at ho3
  have h:=ho3
  try simp only at h
  refine i6 ?_
  refine m7 ?_
  refine g5 ?_
  exact AW.weaken (zL [] [] []) (hk_spec_machine_isTable_2_k1 () h)
theorem a4c (s:Int×Int×(List (List Int))×(List (List Int))) {r:Bool} (h:a0a s=some r):HC Try.prog 125 [] [.agg [.ii s.1,.ii s.2.1,.sl (.sl .i) s.2.2.1,.sl (.sl .i) s.2.2.2]] [] (.bool r):=by
 unfold a0a at h
 refine zH Try.func125 [.tmp 2] 35 ?_
 refine zo ?_
 refine zB [(1,.bp 1 0)] [(1,.box 24 [.ii s.1,.ii s.2.1,.sl (.sl .i) s.2.2.1,.sl (.sl .i) s.2.2.2])] ?_
 refine AW.seq ?_
 refine zo ?_
 refine zS 4 [(1,.bp 1 0),(7,.bool (decide (s.1<1)))] [(1,.box 24 [.ii s.1,.ii s.2.1,.sl (.sl .i) s.2.2.1,.sl (.sl .i) s.2.2.2])] ?_
 rcases zI h with ⟨hb1,h⟩|⟨hb1,h⟩
 ·refine zS 5 [(1,.bp 1 0),(12,.bool true)] [(1,.box 24 [.ii s.1,.ii s.2.1,.sl (.sl .i) s.2.2.1,.sl (.sl .i) s.2.2.2])] ?_
  refine zS 5 [(1,.bp 1 0),(17,.bool true)] [(1,.box 24 [.ii s.1,.ii s.2.1,.sl (.sl .i) s.2.2.1,.sl (.sl .i) s.2.2.2])] ?_
  refine zB [(1,.bp 1 0),(21,.bool true)] [(1,.box 24 [.ii s.1,.ii s.2.1,.sl (.sl .i) s.2.2.1,.sl (.sl .i) s.2.2.2])] ?_
  refine AW.cond (b:=true) rfl (fun _=>?_) (fun hb2=>by cases hb2)
  refine zo ?_
  refine zB [(2,.bool false)] [] ?_
  refine zr ?_
  obtain rfl:=zj h
  exact zR [] [] []
 refine zS 5 [(1,.bp 1 0),(12,.bool (decide (8<s.1)))] [(1,.box 24 [.ii s.1,.ii s.2.1,.sl (.sl .i) s.2.2.1,.sl (.sl .i) s.2.2.2])] ?_
 rcases zI h with ⟨hb3,h⟩|⟨hb3,h⟩
 ·refine zS 5 [(1,.bp 1 0),(17,.bool true)] [(1,.box 24 [.ii s.1,.ii s.2.1,.sl (.sl .i) s.2.2.1,.sl (.sl .i) s.2.2.2])] ?_
  refine zB [(1,.bp 1 0),(21,.bool true)] [(1,.box 24 [.ii s.1,.ii s.2.1,.sl (.sl .i) s.2.2.1,.sl (.sl .i) s.2.2.2])] ?_
  refine AW.cond (b:=true) rfl (fun _=>?_) (fun hb4=>by cases hb4)
  refine zo ?_
  refine zB [(2,.bool false)] [] ?_
  refine zr ?_
  obtain rfl:=zj h
  exact zR [] [] []
 refine zS 5 [(1,.bp 1 0),(17,.bool (decide (s.2.1<1)))] [(1,.box 24 [.ii s.1,.ii s.2.1,.sl (.sl .i) s.2.2.1,.sl (.sl .i) s.2.2.2])] ?_
 rcases zI h with ⟨hb5,h⟩|⟨hb5,h⟩
 ·refine zB [(1,.bp 1 0),(21,.bool true)] [(1,.box 24 [.ii s.1,.ii s.2.1,.sl (.sl .i) s.2.2.1,.sl (.sl .i) s.2.2.2])] ?_
  refine AW.cond (b:=true) rfl (fun _=>?_) (fun hb6=>by cases hb6)
  refine zo ?_
  refine zB [(2,.bool false)] [] ?_
  refine zr ?_
  obtain rfl:=zj h
  exact zR [] [] []
 refine zB [(1,.bp 1 0),(21,.bool (decide (4<s.2.1)))] [(1,.box 24 [.ii s.1,.ii s.2.1,.sl (.sl .i) s.2.2.1,.sl (.sl .i) s.2.2.2])] ?_
 refine zQ h (fun hb7 h=>?_) (fun hb7 h=>?_)
 ·refine zo ?_
  refine zB [(2,.bool false)] [] ?_
  refine zr ?_
  obtain rfl:=zj h
  exact zR [] [] []
 refine zk ?_
 refine zo ?_
 refine zB [(1,.bp 1 0),(3,.bp 3 0)] [(1,.box 24 [.ii s.1,.ii s.2.1,.sl (.sl .i) s.2.2.1,.sl (.sl .i) s.2.2.2]),(3,.box 171 [.ii s.1,.ii s.2.1,.sl (.sl .i) s.2.2.1,.sl (.sl .i) s.2.2.2])] ?_
 refine zo ?_
 refine zS 5 [(1,.bp 1 0),(3,.bp 3 0),(23,.agg [.ii s.1,.ii s.2.1,.sl (.sl .i) s.2.2.1,.sl (.sl .i) s.2.2.2]),(25,.sl (.sl .i) s.2.2.1),(27,.fn (.func 163) [.agg [.ii s.1,.ii s.2.1,.sl (.sl .i) s.2.2.1,.sl (.sl .i) s.2.2.2]] [])] [(1,.box 24 [.ii s.1,.ii s.2.1,.sl (.sl .i) s.2.2.1,.sl (.sl .i) s.2.2.2]),(3,.box 171 [.ii s.1,.ii s.2.1,.sl (.sl .i) s.2.2.1,.sl (.sl .i) s.2.2.2])] ?_
 obtain ⟨v0,hv8,h⟩:=zw h
 refine zC [] [] (a2e s s.2.2.1 s hv8) [(1,.bp 1 0),(3,.bp 3 0),(28,.bool v0)] [(1,.box 24 [.ii s.1,.ii s.2.1,.sl (.sl .i) s.2.2.1,.sl (.sl .i) s.2.2.2]),(3,.box 171 [.ii s.1,.ii s.2.1,.sl (.sl .i) s.2.2.1,.sl (.sl .i) s.2.2.2])] ?_
 refine zS 1 [(1,.bp 1 0),(3,.bp 3 0),(29,.bool v0)] [(1,.box 24 [.ii s.1,.ii s.2.1,.sl (.sl .i) s.2.2.1,.sl (.sl .i) s.2.2.2]),(3,.box 171 [.ii s.1,.ii s.2.1,.sl (.sl .i) s.2.2.1,.sl (.sl .i) s.2.2.2])] ?_
 rcases zI h with ⟨hb9,h⟩|⟨hb9,h⟩
 ·refine zS 3 [(29,.bool true),(30,.agg [.ii s.1,.ii s.2.1,.sl (.sl .i) s.2.2.1,.sl (.sl .i) s.2.2.2]),(32,.sl (.sl .i) s.2.2.2)] [] ?_
  obtain ⟨v0_2,hv10,h⟩:=zw h
  refine zG [] [] (a1r s s.2.2.2 hv10) [(29,.bool true),(33,.bool v0_2)] [] ?_
  refine zB [(2,.bool v0_2)] [] ?_
  refine AW.ret ?_
  obtain rfl:=zj h
  exact zR [] [] []
 refine zS 4 [(29,.bool false),(33,.cv (undef))] [] ?_
 refine zB [(2,.bool false)] [] ?_
 refine AW.ret ?_
 obtain rfl:=zj h
 exact zR [] [] []
theorem a1F (s:Int×Int×(List (List Int))×(List (List Int))) (c:List (List (Int×Int×Int×Int))) {r:Int} (h:P9 s c=some r):HC Try.prog 68 [] [.agg [.ii s.1,.ii s.2.1,.sl (.sl .i) s.2.2.1,.sl (.sl .i) s.2.2.2],.sl (.sl Y4) c] [] (.ii r):=by
 unfold P9 at h
 refine zH Try.func68 [.tmp 4] 18 ?_
 refine zo ?_
 refine zB [(1,.sl (.sl Y4) c),(2,.bp 2 0)] [(2,.box 24 [.ii s.1,.ii s.2.1,.sl (.sl .i) s.2.2.1,.sl (.sl .i) s.2.2.2])] ?_
 refine AW.seq ?_
 refine zo ?_
 refine zS 1 [(1,.sl (.sl Y4) c),(2,.bp 2 0),(5,.sl (.sl Y4) c)] [(2,.box 24 [.ii s.1,.ii s.2.1,.sl (.sl .i) s.2.2.1,.sl (.sl .i) s.2.2.2])] ?_
 obtain ⟨v0,hv1,h⟩:=zw h
 refine zC [] [] (a4d c hv1) [(1,.sl (.sl Y4) c),(2,.bp 2 0),(6,.bool v0)] [(2,.box 24 [.ii s.1,.ii s.2.1,.sl (.sl .i) s.2.2.1,.sl (.sl .i) s.2.2.2])] ?_
 refine zB [(1,.sl (.sl Y4) c),(2,.bp 2 0),(7,.bool (!v0))] [(2,.box 24 [.ii s.1,.ii s.2.1,.sl (.sl .i) s.2.2.1,.sl (.sl .i) s.2.2.2])] ?_
 refine zQ h (fun hb2 h=>?_) (fun hb2 h=>?_)
 ·refine zo ?_
  refine zB [(4,.ii 80)] [] ?_
  refine zr ?_
  obtain rfl:=zj h
  exact zR [] [] []
 refine zk ?_
 refine AW.seq ?_
 refine zo ?_
 refine zS 1 [(1,.sl (.sl Y4) c),(2,.bp 2 0),(8,.agg [.ii s.1,.ii s.2.1,.sl (.sl .i) s.2.2.1,.sl (.sl .i) s.2.2.2])] [(2,.box 24 [.ii s.1,.ii s.2.1,.sl (.sl .i) s.2.2.1,.sl (.sl .i) s.2.2.2])] ?_
 obtain ⟨v0_2,hv3,h⟩:=zw h
 refine zC [] [] (a4c s hv3) [(1,.sl (.sl Y4) c),(2,.bp 2 0),(9,.bool v0_2)] [(2,.box 24 [.ii s.1,.ii s.2.1,.sl (.sl .i) s.2.2.1,.sl (.sl .i) s.2.2.2])] ?_
 refine zS 2 [(1,.sl (.sl Y4) c),(2,.bp 2 0),(11,.bool (!v0_2))] [(2,.box 24 [.ii s.1,.ii s.2.1,.sl (.sl .i) s.2.2.1,.sl (.sl .i) s.2.2.2])] ?_
 rcases zI h with ⟨hb4,h⟩|⟨hb4,h⟩
 ·refine zS 4 [(11,.bool true),(13,.cv (undef)),(15,.cv (undef))] [] ?_
  refine zB [(17,.bool true)] [] ?_
  refine AW.cond (b:=true) rfl (fun _=>?_) (fun hb5=>by cases hb5)
  refine zo ?_
  refine zB [(4,.ii 10)] [] ?_
  refine zr ?_
  obtain rfl:=zj h
  exact zR [] [] []
 refine zS 5 [(11,.bool false),(16,.bool (!(decide (s.2.1=(c.length:Int)))))] [] ?_
 refine zB [(17,.bool (!(decide (s.2.1=(c.length:Int)))))] [] ?_
 refine zQ h (fun hb6 h=>?_) (fun hb6 h=>?_)
 ·refine zo ?_
  refine zB [(4,.ii 10)] [] ?_
  refine zr ?_
  obtain rfl:=zj h
  exact zR [] [] []
 refine zk ?_
 refine zo ?_
 refine zB [(4,.ii 0)] [] ?_
 refine AW.ret ?_
 obtain rfl:=zj h
 exact zR [] [] []
theorem a3z (p:(List (List (Int×Int×Int×Int)))×(List (List Int))) (steps:Int) {r:Unit} (h:Z3 p steps=some r):HC Try.prog 79 [] [.agg [.sl (.sl Y4) p.1,.sl (.sl .i) p.2],.ii steps] [(2000,.box 77 [.sl (.sl Y4) p.1,.sl (.sl .i) p.2]),(2001,.box 3 [.ii steps])] (.fn (.func 133) [] [.bp 2000 0,.bp 2001 0]):=by
 unfold Z3 at h
 refine zH Try.func79 [.tmp 4] 6 ?_
 refine zo ?_
 refine zB [(2,.bp 2 0),(3,.bp 3 0)] [(2,.box 77 [.sl (.sl Y4) p.1,.sl (.sl .i) p.2]),(3,.box 3 [.ii steps])] ?_
 refine zo ?_
 refine zB [(4,.fn (.func 133) [] [.bp 2 0,.bp 3 0])] [(2,.box 77 [.sl (.sl Y4) p.1,.sl (.sl .i) p.2]),(3,.box 3 [.ii steps])] ?_
 refine AW.ret ?_
 obtain rfl:=zj h
 exact zR [] [] [(2000,2),(2001,3)]
theorem a4w (s:List Int) {r:Unit} (h:V8 s=some r):HC Try.prog 134 [] [.sl .i s] [(2000,.box 28 [.sl .i s])] (.fn (.func 174) [] [.bp 2000 0]):=by
 unfold V8 at h
 refine zH Try.func134 [.tmp 2] 4 ?_
 refine zo ?_
 refine zB [(1,.bp 1 0)] [(1,.box 28 [.sl .i s])] ?_
 refine zo ?_
 refine zB [(2,.fn (.func 174) [] [.bp 1 0])] [(1,.box 28 [.sl .i s])] ?_
 refine AW.ret ?_
 obtain rfl:=zj h
 exact zR [] [] [(2000,1)]
theorem a0x {S R:Type} (a1:List Int) (yl:Int×Int→S→Option (Step S R)) (s0:S) {r:Sum S R} (h:w8 S R a1 yl s0=some r):IC Try.prog 174 [(1000,.box 28 [.sl .i a1])] [] [.bp 1000 0] (fun (y:Int×Int)=>[.ii y.1,.ii y.2]) yl s0 r:=by
 unfold w8 at h
 refine IC.of_body Try.func174 rfl (by kernel_rfl) rfl (nt:=19) rfl (by decide) (by simp) ?_
 intro Γ Γx lp hΓ hΓx hY
 refine zo ?_
 obtain ⟨c1,h⟩:=b5.1 h
 refine zB [(0,.fn (.yield lp) [] []),(1,.bp 1000 0),(3,.ii ((a1.length:Int) - 1))] [(1000,.box 28 [.sl .i a1])] ?_
 refine AW.block ?_
 obtain ⟨rv6,hw2,ho3⟩:=zw h
 refine AW.loopO (p4 S R a1 yl) (fun st1=>⟨fr [(0,.fn (.yield lp) [] []),(1,.bp 1000 0),(3,.ii st1.1)],b6 [(1000,.box 28 [.sl .i a1])],(Γ st1.2)⟩) (((a1.length:Int) - 1),s0) hw2 (zL [] [] []) ?_
 as_aux_lemma =>
  intro st1 x5 h hd4
  unfold p4 at h
  refine AW.seq ?_
  refine zo ?_
  refine zB [(0,.fn (.yield lp) [] []),(1,.bp 1000 0),(3,.ii st1.1),(8,.bool (decide (0≤st1.1)))] [(1000,.box 28 [.sl .i a1])] ?_
  refine zQ h (fun hb7 h=>?_) (fun hb7 h=>?_)
  ·refine zk ?_
   refine AW.seq ?_
   refine AW.block ?_
   refine zo ?_
   obtain ⟨c8,h⟩:=b5.1 h
   obtain ⟨c9,h⟩:=b5.1 h
   refine zS 5 [(0,.fn (.yield lp) [] []),(1,.bp 1000 0),(3,.ii st1.1),(11,.fn (.yield lp) [] []),(12,.ii st1.1),(15,.dp .i (a1.getD st1.1.toNat 0) 0)] [(1000,.box 28 [.sl .i a1])] ?_
   refine zS 1 [(0,.fn (.yield lp) [] []),(1,.bp 1000 0),(3,.ii st1.1),(11,.fn (.yield lp) [] []),(12,.ii st1.1),(16,.ii (a1.getD st1.1.toNat 0))] [(1000,.box 28 [.sl .i a1])] ?_
   obtain ⟨x10,hx11,h⟩:=zw h
   refine a4F rfl rfl rfl (by decide) _ rfl hY hΓ hΓx (st1.1,(a1.getD st1.1.toNat 0)) [] (by (simp only [go_sem,hb7])<;>(with_reducible and_intros)<;>first|assumption|rfl|omega|(unfold maxLen; omega)) hx11 ?_
   cases x10 with
   | next s =>
    try simp only at h
    refine zT [(0,.fn (.yield lp) [] []),(1,.bp 1000 0),(3,.ii st1.1),(17,.bool true)] [(1000,.box 28 [.sl .i a1])] (Γ s) ?_
    refine zB [(0,.fn (.yield lp) [] []),(1,.bp 1000 0),(3,.ii st1.1),(18,.bool false)] [(1000,.box 28 [.sl .i a1])] ?_
    refine AW.cond (b:=false) rfl (fun hb12=>by cases hb12) (fun _=>?_)
    refine zm ?_
    refine g5 ?_
    refine AW.ops ?_
    obtain ⟨c13,h⟩:=b5.1 h
    refine zA [(0,.fn (.yield lp) [] []),(1,.bp 1000 0),(3,.ii (st1.1 - 1))] [(1000,.box 28 [.sl .i a1])] ?_
    obtain rfl:=zj h
    exact ⟨_,rfl,zL [] [] []⟩
   | done e =>
    try simp only at h
    refine zT [(0,.fn (.yield lp) [] []),(1,.bp 1000 0),(3,.ii st1.1),(17,.bool false)] [(1000,.box 28 [.sl .i a1])] (Γx e) ?_
    refine zB [(0,.fn (.yield lp) [] []),(1,.bp 1000 0),(3,.ii st1.1),(18,.bool true)] [(1000,.box 28 [.sl .i a1])] ?_
    refine AW.cond (b:=true) rfl (fun _=>?_) (fun hb14=>by cases hb14)
    refine AW.ret ?_
    refine d7 ?_
    refine b9 ?_
    obtain rfl:=zj h
    rw [← hd4 _ rfl] at ho3
    have h:=ho3
    try simp only at h
    refine b9 ?_
    refine d7 ?_
    obtain rfl:=zj h
    exact rfl
  refine AW.exit ?_
  refine i6 ?_
  obtain rfl:=zj h
  rw [← hd4 _ rfl] at ho3
  have h:=ho3
  try simp only at h
  refine i6 ?_
  refine m7 ?_
  obtain rfl:=zj h
  exact rfl
end Go.Proofs.Ytenchhmcjmjlbaa
