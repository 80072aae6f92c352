import Derived.Test.YtenchhmcjmjlbaaCkp
import Derived.Test.YtenchhmcjmjlbaaShk
import Derived.Test.YtenchhmcjmjlbaaCfc2
namespace Go.Proofs.Ytenchhmcjmjlbaa
open Go.RowKit
set_option linter.unusedSimpArgs false
set_option linter.unusedVariables false
set_option linter.constructorNameAsVariable false
set_option maxRecDepth 100000
set_option maxHeartbeats 40000000
theorem a1x (r0:((List (List (Int×Int×Int×Int)))×(List (List Int)))×(List Int)×(El T80)×(Int×Int×Int)×(El T85)×(El T86)×Int) {r:(List Int)} (h:z7 r0=some r):HC Try.prog 58 [] [.agg (.sl (.sl Y4) r0.1.1::(.sl (.sl .i) r0.1.2::(.sl .i r0.2.1::(b4 T80 r0.2.2.1++(.ii r0.2.2.2.1.1::(.ii r0.2.2.2.1.2.1::(.ii r0.2.2.2.1.2.2::(b4 T85 r0.2.2.2.2.1++(b4 T86 r0.2.2.2.2.2.1++(.ii r0.2.2.2.2.2.2::[]))))))))))] [(2000,.arr 3 .i r)] (.own 2000):=by
 unfold z7 at h
 refine zH Try.func58 [.tmp 2] 21 ?_
 refine zo ?_
 refine zB [(1,.bp 1 0)] [(1,.box 88 (.sl (.sl Y4) r0.1.1::(.sl (.sl .i) r0.1.2::(.sl .i r0.2.1::(b4 T80 r0.2.2.1++(.ii r0.2.2.2.1.1::(.ii r0.2.2.2.1.2.1::(.ii r0.2.2.2.1.2.2::(b4 T85 r0.2.2.2.2.1++(b4 T86 r0.2.2.2.2.2.1++(.ii r0.2.2.2.2.2.2::[])))))))))))] ?_
 refine zo ?_
 refine zB [(1,.bp 1 0),(3,.cv (.slice none 0 0))] [(1,.box 88 (.sl (.sl Y4) r0.1.1::(.sl (.sl .i) r0.1.2::(.sl .i r0.2.1::(b4 T80 r0.2.2.1++(.ii r0.2.2.2.1.1::(.ii r0.2.2.2.1.2.1::(.ii r0.2.2.2.1.2.2::(b4 T85 r0.2.2.2.2.1++(b4 T86 r0.2.2.2.2.2.1++(.ii r0.2.2.2.2.2.2::[])))))))))))] ?_
 refine AW.have1 (fun b1:(List Int)=>X1 b1=some r) (fun b1=>⟨fr [(3,.own 18)],b8 [(18,.arr 3 .i b1)],gt⟩) (fun b1 h=>?_) (fun hk_code_run_left_k1=>?_)
 ·as_aux_lemma =>
   unfold X1 at h
   refine zo ?_
   refine zB [(2,.own 18)] [(18,.arr 3 .i b1)] ?_
   refine AW.ret ?_
   obtain rfl:=zj h
   exact zR [] [] [(2000,18)]
 refine AW.seq ?_
 refine zo ?_
 refine zB [(1,.bp 1 0),(3,.cv (.slice none 0 0)),(8,.ii (r0.1.2.length:Int)),(9,.ii 0)] [(1,.box 88 (.sl (.sl Y4) r0.1.1::(.sl (.sl .i) r0.1.2::(.sl .i r0.2.1::(b4 T80 r0.2.2.1++(.ii r0.2.2.2.1.1::(.ii r0.2.2.2.1.2.1::(.ii r0.2.2.2.1.2.2::(b4 T85 r0.2.2.2.2.1++(b4 T86 r0.2.2.2.2.2.1++(.ii r0.2.2.2.2.2.2::[])))))))))))] ?_
 refine AW.block ?_
 obtain ⟨rv5,hw1,ho2⟩:=zw h
 refine AW.loopO (N3 r0) (fun st1=>⟨fr [(1,.bp 1 0),(3,.own 18),(8,.ii (r0.1.2.length:Int)),(9,.ii st1.2)],b8 [(1,.box 88 (.sl (.sl Y4) r0.1.1::(.sl (.sl .i) r0.1.2::(.sl .i r0.2.1::(b4 T80 r0.2.2.1++(.ii r0.2.2.2.1.1::(.ii r0.2.2.2.1.2.1::(.ii r0.2.2.2.1.2.2::(b4 T85 r0.2.2.2.2.1++(b4 T86 r0.2.2.2.2.2.1++(.ii r0.2.2.2.2.2.2::[]))))))))))),(18,.arr 3 .i st1.1)],gt⟩) ([],0) hw1 (zL [] [18] []) ?_
 as_aux_lemma =>
  intro st1 x4 h hd3
  unfold N3 at h
  refine zo ?_
  refine zB [(1,.bp 1 0),(3,.own 18),(8,.ii (r0.1.2.length:Int)),(9,.ii st1.2),(10,.bool (decide (st1.2<(r0.1.2.length:Int))))] [(1,.box 88 (.sl (.sl Y4) r0.1.1::(.sl (.sl .i) r0.1.2::(.sl .i r0.2.1::(b4 T80 r0.2.2.1++(.ii r0.2.2.2.1.1::(.ii r0.2.2.2.1.2.1::(.ii r0.2.2.2.1.2.2::(b4 T85 r0.2.2.2.2.1++(b4 T86 r0.2.2.2.2.2.1++(.ii r0.2.2.2.2.2.2::[]))))))))))),(18,.arr 3 .i st1.1)] ?_
  refine AW.seq ?_
  refine zQ h (fun hb6 h=>?_) (fun hb6 h=>?_)
  ·refine zk ?_
   refine AW.seq ?_
   refine AW.block ?_
   refine zo ?_
   refine zB [(1,.bp 1 0),(3,.own 18),(4,.ii st1.2),(8,.ii (r0.1.2.length:Int)),(9,.ii st1.2)] [(1,.box 88 (.sl (.sl Y4) r0.1.1::(.sl (.sl .i) r0.1.2::(.sl .i r0.2.1::(b4 T80 r0.2.2.1++(.ii r0.2.2.2.1.1::(.ii r0.2.2.2.1.2.1::(.ii r0.2.2.2.1.2.2::(b4 T85 r0.2.2.2.2.1++(b4 T86 r0.2.2.2.2.2.1++(.ii r0.2.2.2.2.2.2::[]))))))))))),(18,.arr 3 .i st1.1)] ?_
   refine zo ?_
   refine zS 2 [(1,.bp 1 0),(3,.own 18),(4,.ii st1.2),(8,.ii (r0.1.2.length:Int)),(9,.ii st1.2),(12,.agg (.sl (.sl Y4) r0.1.1::(.sl (.sl .i) r0.1.2::(.sl .i r0.2.1::(b4 T80 r0.2.2.1++(.ii r0.2.2.2.1.1::(.ii r0.2.2.2.1.2.1::(.ii r0.2.2.2.1.2.2::(b4 T85 r0.2.2.2.2.1++(b4 T86 r0.2.2.2.2.2.1++(.ii r0.2.2.2.2.2.2::[]))))))))))),(13,.ii st1.2)] [(1,.box 88 (.sl (.sl Y4) r0.1.1::(.sl (.sl .i) r0.1.2::(.sl .i r0.2.1::(b4 T80 r0.2.2.1++(.ii r0.2.2.2.1.1::(.ii r0.2.2.2.1.2.1::(.ii r0.2.2.2.1.2.2::(b4 T85 r0.2.2.2.2.1++(b4 T86 r0.2.2.2.2.2.1++(.ii r0.2.2.2.2.2.2::[]))))))))))),(18,.arr 3 .i st1.1)] ?_
   obtain ⟨v0,hv7,h⟩:=zw h
   refine zC [] [] (a0m r0 st1.2 hv7) [(1,.bp 1 0),(3,.own 18),(4,.ii st1.2),(8,.ii (r0.1.2.length:Int)),(9,.ii st1.2),(14,.bool v0)] [(1,.box 88 (.sl (.sl Y4) r0.1.1::(.sl (.sl .i) r0.1.2::(.sl .i r0.2.1::(b4 T80 r0.2.2.1++(.ii r0.2.2.2.1.1::(.ii r0.2.2.2.1.2.1::(.ii r0.2.2.2.1.2.2::(b4 T85 r0.2.2.2.2.1++(b4 T86 r0.2.2.2.2.2.1++(.ii r0.2.2.2.2.2.2::[]))))))))))),(18,.arr 3 .i st1.1)] ?_
   refine zB [(1,.bp 1 0),(3,.own 18),(4,.ii st1.2),(8,.ii (r0.1.2.length:Int)),(9,.ii st1.2),(14,.bool v0)] [(1,.box 88 (.sl (.sl Y4) r0.1.1::(.sl (.sl .i) r0.1.2::(.sl .i r0.2.1::(b4 T80 r0.2.2.1++(.ii r0.2.2.2.1.1::(.ii r0.2.2.2.1.2.1::(.ii r0.2.2.2.1.2.2::(b4 T85 r0.2.2.2.2.1++(b4 T86 r0.2.2.2.2.2.1++(.ii r0.2.2.2.2.2.2::[]))))))))))),(18,.arr 3 .i st1.1)] ?_
   refine zQ h (fun hb8 h=>?_) (fun hb8 h=>?_)
   ·refine AW.ops ?_
    obtain ⟨c9,h⟩:=b5.1 h
    refine zA [(1,.bp 1 0),(3,.own 18),(8,.ii (r0.1.2.length:Int)),(9,.ii st1.2)] [(1,.box 88 (.sl (.sl Y4) r0.1.1::(.sl (.sl .i) r0.1.2::(.sl .i r0.2.1::(b4 T80 r0.2.2.1++(.ii r0.2.2.2.1.1::(.ii r0.2.2.2.1.2.1::(.ii r0.2.2.2.1.2.2::(b4 T85 r0.2.2.2.2.1++(b4 T86 r0.2.2.2.2.2.1++(.ii r0.2.2.2.2.2.2::[]))))))))))),(18,.arr 3 .i (st1.1++[st1.2]))] ?_
    refine i6 ?_
    refine f7 ?_
    refine AW.ops ?_
    obtain ⟨c10,h⟩:=b5.1 h
    refine zA [(1,.bp 1 0),(3,.own 18),(8,.ii (r0.1.2.length:Int)),(9,.ii (st1.2+1))] [(1,.box 88 (.sl (.sl Y4) r0.1.1::(.sl (.sl .i) r0.1.2::(.sl .i r0.2.1::(b4 T80 r0.2.2.1++(.ii r0.2.2.2.1.1::(.ii r0.2.2.2.1.2.1::(.ii r0.2.2.2.1.2.2::(b4 T85 r0.2.2.2.2.1++(b4 T86 r0.2.2.2.2.2.1++(.ii r0.2.2.2.2.2.2::[]))))))))))),(18,.arr 3 .i (st1.1++[st1.2]))] ?_
    obtain rfl:=zj h
    exact ⟨_,rfl,zL [] [] []⟩
   refine zm ?_
   refine f7 ?_
   refine AW.ops ?_
   obtain ⟨c11,h⟩:=b5.1 h
   refine zA [(1,.bp 1 0),(3,.own 18),(8,.ii (r0.1.2.length:Int)),(9,.ii (st1.2+1))] [(1,.box 88 (.sl (.sl Y4) r0.1.1::(.sl (.sl .i) r0.1.2::(.sl .i r0.2.1::(b4 T80 r0.2.2.1++(.ii r0.2.2.2.1.1::(.ii r0.2.2.2.1.2.1::(.ii r0.2.2.2.1.2.2::(b4 T85 r0.2.2.2.2.1++(b4 T86 r0.2.2.2.2.2.1++(.ii r0.2.2.2.2.2.2::[]))))))))))),(18,.arr 3 .i st1.1)] ?_
   obtain rfl:=zj h
   exact ⟨_,rfl,zL [] [] []⟩
  refine AW.exit ?_
  refine g7 ?_
  obtain rfl:=zj h
  rw [← hd3 _ rfl] at ho2
  have h:=ho2
  refine g7 ?_
  refine l9 ?_
  refine f7 ?_
  have hj:=hk_code_run_left_k1 _ h
  exact AW.weaken (zL [] [] []) hj
theorem V9 (s:Int×Int×(List (List Int))×(List (List Int))) (l:List (List Int)) (limit:Int) {r:Bool} (h:B5 s l limit=some r):HC Try.prog 137 [] [.agg [.ii s.1,.ii s.2.1,.sl (.sl .i) s.2.2.1,.sl (.sl .i) s.2.2.2],.sl (.sl .i) l,.ii limit] [] (.bool r):=by
 unfold B5 at h
 refine zH Try.func137 [.tmp 6] 42 ?_
 refine zo ?_
 refine zB [(1,.sl (.sl .i) l),(2,.ii limit),(3,.bp 3 0)] [(3,.box 24 [.ii s.1,.ii s.2.1,.sl (.sl .i) s.2.2.1,.sl (.sl .i) s.2.2.2])] ?_
 refine AW.seq ?_
 refine zo ?_
 refine zB [(1,.sl (.sl .i) l),(2,.ii limit),(3,.bp 3 0),(15,.bool (!(decide ((l.length:Int)=s.1))))] [(3,.box 24 [.ii s.1,.ii s.2.1,.sl (.sl .i) s.2.2.1,.sl (.sl .i) s.2.2.2])] ?_
 refine zQ h (fun hb1 h=>?_) (fun hb1 h=>?_)
 ·refine zo ?_
  refine zB [(6,.bool false)] [] ?_
  refine zr ?_
  obtain rfl:=zj h
  exact zR [] [] []
 refine zk ?_
 refine AW.have1 (fun _:Unit=>G0=some r) (fun _=>⟨fr [],b8 [],gt⟩) (fun _ h=>?_) (fun hk_linealref01_isTable_k1=>?_)
 ·as_aux_lemma =>
   unfold G0 at h
   refine zo ?_
   refine zB [(6,.bool true)] [] ?_
   refine AW.ret ?_
   obtain rfl:=zj h
   exact zR [] [] []
 refine AW.seq ?_
 refine zo ?_
 refine zB [(2,.ii limit),(3,.bp 3 0),(16,.sl (.sl .i) l),(17,.ii (l.length:Int)),(18,.ii 0)] [(3,.box 24 [.ii s.1,.ii s.2.1,.sl (.sl .i) s.2.2.1,.sl (.sl .i) s.2.2.2])] ?_
 refine AW.block ?_
 obtain ⟨rv6,hw2,ho3⟩:=zw h
 refine AW.loopO (A6 s l limit) (fun st1=>⟨fr [(2,.ii limit),(3,.bp 3 0),(16,.sl (.sl .i) l),(17,.ii (l.length:Int)),(18,.ii st1)],b8 [(3,.box 24 [.ii s.1,.ii s.2.1,.sl (.sl .i) s.2.2.1,.sl (.sl .i) s.2.2.2])],gt⟩) 0 hw2 (zL [] [] []) ?_
 as_aux_lemma =>
  intro st1 x5 h hd4
  unfold A6 at h
  refine zo ?_
  refine zB [(2,.ii limit),(3,.bp 3 0),(16,.sl (.sl .i) l),(17,.ii (l.length:Int)),(18,.ii st1),(19,.bool (decide (st1<(l.length:Int))))] [(3,.box 24 [.ii s.1,.ii s.2.1,.sl (.sl .i) s.2.2.1,.sl (.sl .i) s.2.2.2])] ?_
  refine AW.seq ?_
  refine zQ h (fun hb7 h=>?_) (fun hb7 h=>?_)
  ·refine zk ?_
   refine AW.have1 (fun _:Unit=>F9 st1=some x5) (fun _=>⟨fr [(2,.ii limit),(3,.bp 3 0),(16,.sl (.sl .i) l),(17,.ii (l.length:Int)),(18,.ii st1)],b8 [(3,.box 24 [.ii s.1,.ii s.2.1,.sl (.sl .i) s.2.2.1,.sl (.sl .i) s.2.2.2])],gt⟩) (fun _ h=>?_) (fun hk_linealref01_isTable_k2=>?_)
   ·as_aux_lemma =>
     unfold F9 at h
     refine AW.ops ?_
     obtain ⟨c8,h⟩:=b5.1 h
     refine zA [(2,.ii limit),(3,.bp 3 0),(16,.sl (.sl .i) l),(17,.ii (l.length:Int)),(18,.ii (st1+1))] [(3,.box 24 [.ii s.1,.ii s.2.1,.sl (.sl .i) s.2.2.1,.sl (.sl .i) s.2.2.2])] ?_
     obtain rfl:=zj h
     exact ⟨_,rfl,zL [] [] []⟩
   refine AW.seq ?_
   refine AW.block ?_
   refine zo ?_
   obtain ⟨c9,h⟩:=b5.1 h
   obtain ⟨c10,h⟩:=b5.1 h
   refine zB [(2,.ii limit),(3,.bp 3 0),(8,.sl .i (l.getD st1.toNat [])),(16,.sl (.sl .i) l),(17,.ii (l.length:Int)),(18,.ii st1)] [(3,.box 24 [.ii s.1,.ii s.2.1,.sl (.sl .i) s.2.2.1,.sl (.sl .i) s.2.2.2])] ?_
   refine AW.seq ?_
   refine zo ?_
   refine zB [(2,.ii limit),(3,.bp 3 0),(8,.sl .i (l.getD st1.toNat [])),(16,.sl (.sl .i) l),(17,.ii (l.length:Int)),(18,.ii st1),(26,.bool (!(decide (((l.getD st1.toNat []).length:Int)=s.2.1))))] [(3,.box 24 [.ii s.1,.ii s.2.1,.sl (.sl .i) s.2.2.1,.sl (.sl .i) s.2.2.2])] ?_
   refine zQ h (fun hb11 h=>?_) (fun hb11 h=>?_)
   ·refine zo ?_
    refine zB [(6,.bool false)] [] ?_
    refine zr ?_
    refine d7 ?_
    refine d6 ?_
    obtain rfl:=zj h
    try rw [← hd4 _ rfl] at ho3
    have h:=ho3
    try simp only at h
    refine d6 ?_
    refine d7 ?_
    refine d6 ?_
    obtain rfl:=zj h
    exact zR [] [] []
   refine zk ?_
   refine zo ?_
   refine zB [(2,.ii limit),(3,.bp 3 0),(16,.sl (.sl .i) l),(17,.ii (l.length:Int)),(18,.ii st1),(27,.sl .i (l.getD st1.toNat [])),(28,.ii ((l.getD st1.toNat []).length:Int)),(29,.ii 0)] [(3,.box 24 [.ii s.1,.ii s.2.1,.sl (.sl .i) s.2.2.1,.sl (.sl .i) s.2.2.2])] ?_
   refine AW.block ?_
   obtain ⟨rv16,hw12,ho13⟩:=zw h
   refine AW.loopO (A5 l limit st1) (fun st2=>⟨fr [(2,.ii limit),(3,.bp 3 0),(16,.sl (.sl .i) l),(17,.ii (l.length:Int)),(18,.ii st1),(27,.sl .i (l.getD st1.toNat [])),(28,.ii ((l.getD st1.toNat []).length:Int)),(29,.ii st2)],b8 [(3,.box 24 [.ii s.1,.ii s.2.1,.sl (.sl .i) s.2.2.1,.sl (.sl .i) s.2.2.2])],gt⟩) 0 hw12 (zL [] [] []) ?_
   as_aux_lemma =>
    intro st2 x15 h hd14
    unfold A5 at h
    refine zo ?_
    refine zB [(2,.ii limit),(3,.bp 3 0),(16,.sl (.sl .i) l),(17,.ii (l.length:Int)),(18,.ii st1),(27,.sl .i (l.getD st1.toNat [])),(28,.ii ((l.getD st1.toNat []).length:Int)),(29,.ii st2),(30,.bool (decide (st2<((l.getD st1.toNat []).length:Int))))] [(3,.box 24 [.ii s.1,.ii s.2.1,.sl (.sl .i) s.2.2.1,.sl (.sl .i) s.2.2.2])] ?_
    refine AW.seq ?_
    refine zQ h (fun hb17 h=>?_) (fun hb17 h=>?_)
    ·refine zk ?_
     refine AW.seq ?_
     refine AW.block ?_
     refine zo ?_
     obtain ⟨c18,h⟩:=b5.1 h
     obtain ⟨c19,h⟩:=b5.1 h
     refine zB [(2,.ii limit),(3,.bp 3 0),(10,.ii ((l.getD st1.toNat []).getD st2.toNat 0)),(16,.sl (.sl .i) l),(17,.ii (l.length:Int)),(18,.ii st1),(27,.sl .i (l.getD st1.toNat [])),(28,.ii ((l.getD st1.toNat []).length:Int)),(29,.ii st2)] [(3,.box 24 [.ii s.1,.ii s.2.1,.sl (.sl .i) s.2.2.1,.sl (.sl .i) s.2.2.2])] ?_
     refine zo ?_
     refine zS 3 [(2,.ii limit),(3,.bp 3 0),(10,.ii ((l.getD st1.toNat []).getD st2.toNat 0)),(16,.sl (.sl .i) l),(17,.ii (l.length:Int)),(18,.ii st1),(27,.sl .i (l.getD st1.toNat [])),(28,.ii ((l.getD st1.toNat []).length:Int)),(29,.ii st2),(35,.bool (decide (((l.getD st1.toNat []).getD st2.toNat 0)<0)))] [(3,.box 24 [.ii s.1,.ii s.2.1,.sl (.sl .i) s.2.2.1,.sl (.sl .i) s.2.2.2])] ?_
     rcases zI h with ⟨hb20,h⟩|⟨hb20,h⟩
     ·refine zB [(2,.ii limit),(3,.bp 3 0),(16,.sl (.sl .i) l),(17,.ii (l.length:Int)),(18,.ii st1),(27,.sl .i (l.getD st1.toNat [])),(28,.ii ((l.getD st1.toNat []).length:Int)),(29,.ii st2),(39,.bool true)] [(3,.box 24 [.ii s.1,.ii s.2.1,.sl (.sl .i) s.2.2.1,.sl (.sl .i) s.2.2.2])] ?_
      refine AW.cond (b:=true) rfl (fun _=>?_) (fun hb21=>by cases hb21)
      refine zo ?_
      refine zB [(6,.bool false)] [] ?_
      refine AW.ret ?_
      refine d7 ?_
      refine d6 ?_
      obtain rfl:=zj h
      try rw [← hd14 _ rfl] at ho13
      have h:=ho13
      try simp only at h
      refine d6 ?_
      refine d7 ?_
      refine d7 ?_
      refine d6 ?_
      obtain rfl:=zj h
      try rw [← hd4 _ rfl] at ho3
      have h:=ho3
      try simp only at h
      refine d6 ?_
      refine d7 ?_
      refine d6 ?_
      obtain rfl:=zj h
      exact zR [] [] []
     refine zB [(2,.ii limit),(3,.bp 3 0),(16,.sl (.sl .i) l),(17,.ii (l.length:Int)),(18,.ii st1),(27,.sl .i (l.getD st1.toNat [])),(28,.ii ((l.getD st1.toNat []).length:Int)),(29,.ii st2),(39,.bool (decide (limit≤((l.getD st1.toNat []).getD st2.toNat 0))))] [(3,.box 24 [.ii s.1,.ii s.2.1,.sl (.sl .i) s.2.2.1,.sl (.sl .i) s.2.2.2])] ?_
     refine zQ h (fun hb22 h=>?_) (fun hb22 h=>?_)
     ·refine zo ?_
      refine zB [(6,.bool false)] [] ?_
      refine AW.ret ?_
      refine d7 ?_
      refine d6 ?_
      obtain rfl:=zj h
      try rw [← hd14 _ rfl] at ho13
      have h:=ho13
      try simp only at h
      refine d6 ?_
      refine d7 ?_
      refine d7 ?_
      refine d6 ?_
      obtain rfl:=zj h
      try rw [← hd4 _ rfl] at ho3
      have h:=ho3
      try simp only at h
      refine d6 ?_
      refine d7 ?_
      refine d6 ?_
      obtain rfl:=zj h
      exact zR [] [] []
     refine zm ?_
     refine f7 ?_
     refine AW.ops ?_
     obtain ⟨c23,h⟩:=b5.1 h
     refine zA [(2,.ii limit),(3,.bp 3 0),(16,.sl (.sl .i) l),(17,.ii (l.length:Int)),(18,.ii st1),(27,.sl .i (l.getD st1.toNat [])),(28,.ii ((l.getD st1.toNat []).length:Int)),(29,.ii (st2+1))] [(3,.box 24 [.ii s.1,.ii s.2.1,.sl (.sl .i) s.2.2.1,.sl (.sl .i) s.2.2.2])] ?_
     obtain rfl:=zj h
     exact ⟨_,rfl,zL [] [] []⟩
    refine AW.exit ?_
    refine g7 ?_
    obtain rfl:=zj h
    try rw [← hd14 _ rfl] at ho13
    have h:=ho13
    try simp only at h
    refine g7 ?_
    refine l9 ?_
    refine i6 ?_
    refine f7 ?_
    exact AW.weaken (zL [] [] []) (hk_linealref01_isTable_k2 () h)
  refine AW.exit ?_
  refine g7 ?_
  obtain rfl:=zj h
  try rw [← hd4 _ rfl] at ho3
  have h:=ho3
  try simp only at h
  refine g7 ?_
  refine l9 ?_
  refine f7 ?_
  exact AW.weaken (zL [] [] []) (hk_linealref01_isTable_k1 () h)
theorem a2H (s:Int×Int×(List (List Int))×(List (List Int))) {r:Bool} (h:K5 s=some r):HC Try.prog 89 [] [.agg [.ii s.1,.ii s.2.1,.sl (.sl .i) s.2.2.1,.sl (.sl .i) s.2.2.2]] [] (.bool r):=by
 unfold K5 at h
 refine zH Try.func89 [.tmp 2] 35 ?_
 refine zo ?_
 refine zB [(1,.bp 1 0)] [(1,.box 24 [.ii s.1,.ii s.2.1,.sl (.sl .i) s.2.2.1,.sl (.sl .i) s.2.2.2])] ?_
 refine zo ?_
 refine zS 4 [(1,.bp 1 0),(6,.bool (decide (1≤s.1)))] [(1,.box 24 [.ii s.1,.ii s.2.1,.sl (.sl .i) s.2.2.1,.sl (.sl .i) s.2.2.2])] ?_
 rcases zI h with ⟨hb1,h⟩|⟨hb1,h⟩
 ·refine zS 5 [(1,.bp 1 0),(11,.bool (decide (s.1≤8)))] [(1,.box 24 [.ii s.1,.ii s.2.1,.sl (.sl .i) s.2.2.1,.sl (.sl .i) s.2.2.2])] ?_
  rcases zI h with ⟨hb2,h⟩|⟨hb2,h⟩
  ·refine zS 5 [(1,.bp 1 0),(16,.bool (decide (1≤s.2.1)))] [(1,.box 24 [.ii s.1,.ii s.2.1,.sl (.sl .i) s.2.2.1,.sl (.sl .i) s.2.2.2])] ?_
   rcases zI h with ⟨hb3,h⟩|⟨hb3,h⟩
   ·refine zS 5 [(1,.bp 1 0),(21,.bool (decide (s.2.1≤4)))] [(1,.box 24 [.ii s.1,.ii s.2.1,.sl (.sl .i) s.2.2.1,.sl (.sl .i) s.2.2.2])] ?_
    rcases zI h with ⟨hb4,h⟩|⟨hb4,h⟩
    ·refine zS 5 [(1,.bp 1 0),(21,.bool true),(22,.agg [.ii s.1,.ii s.2.1,.sl (.sl .i) s.2.2.1,.sl (.sl .i) s.2.2.2]),(24,.sl (.sl .i) s.2.2.1),(26,.ii s.1)] [(1,.box 24 [.ii s.1,.ii s.2.1,.sl (.sl .i) s.2.2.1,.sl (.sl .i) s.2.2.2])] ?_
     obtain ⟨v0,hv5,h⟩:=zw h
     refine zG [] [] (V9 s s.2.2.1 s.1 hv5) [(1,.bp 1 0),(21,.bool true),(27,.bool v0)] [(1,.box 24 [.ii s.1,.ii s.2.1,.sl (.sl .i) s.2.2.1,.sl (.sl .i) s.2.2.2])] ?_
     refine zS 2 [(1,.bp 1 0),(29,.bool v0)] [(1,.box 24 [.ii s.1,.ii s.2.1,.sl (.sl .i) s.2.2.1,.sl (.sl .i) s.2.2.2])] ?_
     rcases zI h with ⟨hb6,h⟩|⟨hb6,h⟩
     ·refine zS 3 [(29,.bool true),(30,.agg [.ii s.1,.ii s.2.1,.sl (.sl .i) s.2.2.1,.sl (.sl .i) s.2.2.2]),(32,.sl (.sl .i) s.2.2.2)] [] ?_
      obtain ⟨v0_2,hv7,h⟩:=zw h
      refine zG [] [] (V9 s s.2.2.2 6 hv7) [(29,.bool true),(33,.bool v0_2)] [] ?_
      refine zB [(2,.bool v0_2)] [] ?_
      refine AW.ret ?_
      obtain rfl:=zj h
      exact zR [] [] []
     refine zS 4 [(29,.bool false),(33,.cv (undef))] [] ?_
     refine zB [(2,.bool false)] [] ?_
     refine AW.ret ?_
     obtain rfl:=zj h
     exact zR [] [] []
    refine zS 4 [(1,.bp 1 0),(21,.bool false),(22,.cv (undef)),(24,.cv (undef)),(25,.cv (undef))] [(1,.box 24 [.ii s.1,.ii s.2.1,.sl (.sl .i) s.2.2.1,.sl (.sl .i) s.2.2.2])] ?_
    refine zS 5 [(1,.bp 1 0),(29,.bool false),(30,.cv (undef))] [(1,.box 24 [.ii s.1,.ii s.2.1,.sl (.sl .i) s.2.2.1,.sl (.sl .i) s.2.2.2])] ?_
    refine zB [(2,.bool false)] [] ?_
    refine AW.ret ?_
    obtain rfl:=zj h
    exact zR [] [] []
   refine zS 5 [(1,.bp 1 0),(21,.bool false)] [(1,.box 24 [.ii s.1,.ii s.2.1,.sl (.sl .i) s.2.2.1,.sl (.sl .i) s.2.2.2])] ?_
   refine zS 4 [(1,.bp 1 0),(21,.bool false),(22,.cv (undef)),(24,.cv (undef)),(25,.cv (undef))] [(1,.box 24 [.ii s.1,.ii s.2.1,.sl (.sl .i) s.2.2.1,.sl (.sl .i) s.2.2.2])] ?_
   refine zS 5 [(1,.bp 1 0),(29,.bool false),(30,.cv (undef))] [(1,.box 24 [.ii s.1,.ii s.2.1,.sl (.sl .i) s.2.2.1,.sl (.sl .i) s.2.2.2])] ?_
   refine zB [(2,.bool false)] [] ?_
   refine AW.ret ?_
   obtain rfl:=zj h
   exact zR [] [] []
  refine zS 5 [(1,.bp 1 0),(16,.bool false)] [(1,.box 24 [.ii s.1,.ii s.2.1,.sl (.sl .i) s.2.2.1,.sl (.sl .i) s.2.2.2])] ?_
  refine zS 5 [(1,.bp 1 0),(21,.bool false)] [(1,.box 24 [.ii s.1,.ii s.2.1,.sl (.sl .i) s.2.2.1,.sl (.sl .i) s.2.2.2])] ?_
  refine zS 4 [(1,.bp 1 0),(21,.bool false),(22,.cv (undef)),(24,.cv (undef)),(25,.cv (undef))] [(1,.box 24 [.ii s.1,.ii s.2.1,.sl (.sl .i) s.2.2.1,.sl (.sl .i) s.2.2.2])] ?_
  refine zS 5 [(1,.bp 1 0),(29,.bool false),(30,.cv (undef))] [(1,.box 24 [.ii s.1,.ii s.2.1,.sl (.sl .i) s.2.2.1,.sl (.sl .i) s.2.2.2])] ?_
  refine zB [(2,.bool false)] [] ?_
  refine AW.ret ?_
  obtain rfl:=zj h
  exact zR [] [] []
 refine zS 5 [(1,.bp 1 0),(11,.bool false)] [(1,.box 24 [.ii s.1,.ii s.2.1,.sl (.sl .i) s.2.2.1,.sl (.sl .i) s.2.2.2])] ?_
 refine zS 5 [(1,.bp 1 0),(16,.bool false)] [(1,.box 24 [.ii s.1,.ii s.2.1,.sl (.sl .i) s.2.2.1,.sl (.sl .i) s.2.2.2])] ?_
 refine zS 5 [(1,.bp 1 0),(21,.bool false)] [(1,.box 24 [.ii s.1,.ii s.2.1,.sl (.sl .i) s.2.2.1,.sl (.sl .i) s.2.2.2])] ?_
 refine zS 4 [(1,.bp 1 0),(21,.bool false),(22,.cv (undef)),(24,.cv (undef)),(25,.cv (undef))] [(1,.box 24 [.ii s.1,.ii s.2.1,.sl (.sl .i) s.2.2.1,.sl (.sl .i) s.2.2.2])] ?_
 refine zS 5 [(1,.bp 1 0),(29,.bool false),(30,.cv (undef))] [(1,.box 24 [.ii s.1,.ii s.2.1,.sl (.sl .i) s.2.2.1,.sl (.sl .i) s.2.2.2])] ?_
 refine zB [(2,.bool false)] [] ?_
 refine AW.ret ?_
 obtain rfl:=zj h
 exact zR [] [] []
theorem a1t (m:Int×Int×(List (List Int))×(List (List Int))) (n:Int) {r:Bool} (h:D6 m n=some r):HC Try.prog 163 [] [.agg [.ii m.1,.ii m.2.1,.sl (.sl .i) m.2.2.1,.sl (.sl .i) m.2.2.2],.ii n] [] (.bool r):=by
 unfold D6 at h
 refine zH Try.func163 [.tmp 4] 13 ?_
 refine zo ?_
 refine zB [(1,.ii n),(2,.bp 2 0)] [(2,.box 171 [.ii m.1,.ii m.2.1,.sl (.sl .i) m.2.2.1,.sl (.sl .i) m.2.2.2])] ?_
 refine zo ?_
 refine zS 3 [(1,.ii n),(2,.bp 2 0),(7,.bool (decide (0≤n)))] [(2,.box 171 [.ii m.1,.ii m.2.1,.sl (.sl .i) m.2.2.1,.sl (.sl .i) m.2.2.2])] ?_
 rcases zI h with ⟨hb1,h⟩|⟨hb1,h⟩
 ·refine zS 5 [(12,.bool (decide (n<m.1)))] [] ?_
  refine zB [(4,.bool (decide (n<m.1)))] [] ?_
  refine AW.ret ?_
  obtain rfl:=zj h
  exact zR [] [] []
 refine zS 4 [(7,.bool false),(11,.cv (undef))] [] ?_
 refine zB [(4,.bool false)] [] ?_
 refine AW.ret ?_
 obtain rfl:=zj h
 exact zR [] [] []
theorem a49 (is0:Int×Int×(List (List Int))×(List (List Int))) (numbers:List Int) {r:Bool} (h:a0y is0 numbers=some r):HC Try.prog 172 [] [.fn (.func 163) [.agg [.ii is0.1,.ii is0.2.1,.sl (.sl .i) is0.2.2.1,.sl (.sl .i) is0.2.2.2]] [],.sl .i numbers] [] (.bool r):=by
 unfold a0y at h
 refine zH Try.func172 [.tmp 4] 18 ?_
 refine zo ?_
 refine zB [(0,.fn (.func 163) [.agg [.ii is0.1,.ii is0.2.1,.sl (.sl .i) is0.2.2.1,.sl (.sl .i) is0.2.2.2]] []),(1,.sl .i numbers)] [] ?_
 refine AW.have1 (fun _:Unit=>a0W=some r) (fun _=>⟨fr [],b8 [],gt⟩) (fun _ h=>?_) (fun hk_spec_all_k1=>?_)
 ·as_aux_lemma =>
   unfold a0W at h
   refine zo ?_
   refine zB [(4,.bool true)] [] ?_
   refine AW.ret ?_
   obtain rfl:=zj h
   exact zR [] [] []
 refine AW.seq ?_
 refine zo ?_
 refine zB [(0,.fn (.func 163) [.agg [.ii is0.1,.ii is0.2.1,.sl (.sl .i) is0.2.2.1,.sl (.sl .i) is0.2.2.2]] []),(7,.sl .i numbers),(8,.ii (numbers.length:Int)),(9,.ii 0)] [] ?_
 refine AW.block ?_
 obtain ⟨rv5,hw1,ho2⟩:=zw h
 refine AW.loopO (Y9 is0 numbers) (fun st1=>⟨fr [(0,.fn (.func 163) [.agg [.ii is0.1,.ii is0.2.1,.sl (.sl .i) is0.2.2.1,.sl (.sl .i) is0.2.2.2]] []),(7,.sl .i numbers),(8,.ii (numbers.length:Int)),(9,.ii st1)],b8 [],gt⟩) 0 hw1 (zL [] [] []) ?_
 as_aux_lemma =>
  intro st1 x4 h hd3
  unfold Y9 at h
  refine zo ?_
  refine zB [(0,.fn (.func 163) [.agg [.ii is0.1,.ii is0.2.1,.sl (.sl .i) is0.2.2.1,.sl (.sl .i) is0.2.2.2]] []),(7,.sl .i numbers),(8,.ii (numbers.length:Int)),(9,.ii st1),(10,.bool (decide (st1<(numbers.length:Int))))] [] ?_
  refine AW.seq ?_
  refine zQ h (fun hb6 h=>?_) (fun hb6 h=>?_)
  ·refine zk ?_
   refine AW.seq ?_
   refine AW.block ?_
   refine zo ?_
   obtain ⟨c7,h⟩:=b5.1 h
   obtain ⟨c8,h⟩:=b5.1 h
   refine zB [(0,.fn (.func 163) [.agg [.ii is0.1,.ii is0.2.1,.sl (.sl .i) is0.2.2.1,.sl (.sl .i) is0.2.2.2]] []),(6,.ii (numbers.getD st1.toNat 0)),(7,.sl .i numbers),(8,.ii (numbers.length:Int)),(9,.ii st1)] [] ?_
   refine zo ?_
   refine zS 2 [(0,.fn (.func 163) [.agg [.ii is0.1,.ii is0.2.1,.sl (.sl .i) is0.2.2.1,.sl (.sl .i) is0.2.2.2]] []),(7,.sl .i numbers),(8,.ii (numbers.length:Int)),(9,.ii st1),(13,.fn (.func 163) [.agg [.ii is0.1,.ii is0.2.1,.sl (.sl .i) is0.2.2.1,.sl (.sl .i) is0.2.2.2]] []),(14,.ii (numbers.getD st1.toNat 0))] [] ?_
   obtain ⟨v0,hv9,h⟩:=zw h
   refine zC [] [] (a1t is0 (numbers.getD st1.toNat 0) hv9) [(0,.fn (.func 163) [.agg [.ii is0.1,.ii is0.2.1,.sl (.sl .i) is0.2.2.1,.sl (.sl .i) is0.2.2.2]] []),(7,.sl .i numbers),(8,.ii (numbers.length:Int)),(9,.ii st1),(15,.bool v0)] [] ?_
   refine zB [(0,.fn (.func 163) [.agg [.ii is0.1,.ii is0.2.1,.sl (.sl .i) is0.2.2.1,.sl (.sl .i) is0.2.2.2]] []),(7,.sl .i numbers),(8,.ii (numbers.length:Int)),(9,.ii st1),(16,.bool (!v0))] [] ?_
   refine zQ h (fun hb10 h=>?_) (fun hb10 h=>?_)
   ·refine zo ?_
    refine zB [(4,.bool false)] [] ?_
    refine AW.ret ?_
    refine d7 ?_
    refine d6 ?_
    obtain rfl:=zj h
    try rw [← hd3 _ rfl] at ho2
    have h:=ho2
    try simp only at h
    refine d6 ?_
    refine d7 ?_
    refine d6 ?_
    obtain rfl:=zj h
    exact zR [] [] []
   refine zm ?_
   refine f7 ?_
   refine AW.ops ?_
   obtain ⟨c11,h⟩:=b5.1 h
   refine zA [(0,.fn (.func 163) [.agg [.ii is0.1,.ii is0.2.1,.sl (.sl .i) is0.2.2.1,.sl (.sl .i) is0.2.2.2]] []),(7,.sl .i numbers),(8,.ii (numbers.length:Int)),(9,.ii (st1+1))] [] ?_
   obtain rfl:=zj h
   exact ⟨_,rfl,zL [] [] []⟩
  refine AW.exit ?_
  refine g7 ?_
  obtain rfl:=zj h
  try rw [← hd3 _ rfl] at ho2
  have h:=ho2
  try simp only at h
  refine g7 ?_
  refine l9 ?_
  refine f7 ?_
  exact AW.weaken (zL [] [] []) (hk_spec_all_k1 () h)
theorem a1s (m:Int×Int×(List (List Int))×(List (List Int))) (table:List (List Int)) (is0:Int×Int×(List (List Int))×(List (List Int))) {r:Bool} (h:D5 m table is0=some r):HC Try.prog 162 [] [.agg [.ii m.1,.ii m.2.1,.sl (.sl .i) m.2.2.1,.sl (.sl .i) m.2.2.2],.sl (.sl .i) table,.fn (.func 163) [.agg [.ii is0.1,.ii is0.2.1,.sl (.sl .i) is0.2.2.1,.sl (.sl .i) is0.2.2.2]] []] [] (.bool r):=by
 unfold D5 at h
 refine zH Try.func162 [.tmp 6] 32 ?_
 refine zo ?_
 refine zB [(1,.sl (.sl .i) table),(2,.fn (.func 163) [.agg [.ii is0.1,.ii is0.2.1,.sl (.sl .i) is0.2.2.1,.sl (.sl .i) is0.2.2.2]] []),(3,.bp 3 0)] [(3,.box 171 [.ii m.1,.ii m.2.1,.sl (.sl .i) m.2.2.1,.sl (.sl .i) m.2.2.2])] ?_
 refine AW.seq ?_
 refine zo ?_
 refine zB [(1,.sl (.sl .i) table),(2,.fn (.func 163) [.agg [.ii is0.1,.ii is0.2.1,.sl (.sl .i) is0.2.2.1,.sl (.sl .i) is0.2.2.2]] []),(3,.bp 3 0),(13,.bool (!(decide ((table.length:Int)=m.1))))] [(3,.box 171 [.ii m.1,.ii m.2.1,.sl (.sl .i) m.2.2.1,.sl (.sl .i) m.2.2.2])] ?_
 refine zQ h (fun hb1 h=>?_) (fun hb1 h=>?_)
 ·refine zo ?_
  refine zB [(6,.bool false)] [] ?_
  refine zr ?_
  obtain rfl:=zj h
  exact zR [] [] []
 refine zk ?_
 refine AW.have1 (fun _:Unit=>E1=some r) (fun _=>⟨fr [],b8 [],gt⟩) (fun _ h=>?_) (fun hk_spec_machine_isTable_k1=>?_)
 ·as_aux_lemma =>
   unfold E1 at h
   refine zo ?_
   refine zB [(6,.bool true)] [] ?_
   refine AW.ret ?_
   obtain rfl:=zj h
   exact zR [] [] []
 refine AW.seq ?_
 refine zo ?_
 refine zB [(2,.fn (.func 163) [.agg [.ii is0.1,.ii is0.2.1,.sl (.sl .i) is0.2.2.1,.sl (.sl .i) is0.2.2.2]] []),(3,.bp 3 0),(14,.sl (.sl .i) table),(15,.ii (table.length:Int)),(16,.ii 0)] [(3,.box 171 [.ii m.1,.ii m.2.1,.sl (.sl .i) m.2.2.1,.sl (.sl .i) m.2.2.2])] ?_
 refine AW.block ?_
 obtain ⟨rv6,hw2,ho3⟩:=zw h
 refine AW.loopO (w8 m table is0) (fun st1=>⟨fr [(2,.fn (.func 163) [.agg [.ii is0.1,.ii is0.2.1,.sl (.sl .i) is0.2.2.1,.sl (.sl .i) is0.2.2.2]] []),(3,.bp 3 0),(14,.sl (.sl .i) table),(15,.ii (table.length:Int)),(16,.ii st1)],b8 [(3,.box 171 [.ii m.1,.ii m.2.1,.sl (.sl .i) m.2.2.1,.sl (.sl .i) m.2.2.2])],gt⟩) 0 hw2 (zL [] [] []) ?_
 as_aux_lemma =>
  intro st1 x5 h hd4
  unfold w8 at h
  refine zo ?_
  refine zB [(2,.fn (.func 163) [.agg [.ii is0.1,.ii is0.2.1,.sl (.sl .i) is0.2.2.1,.sl (.sl .i) is0.2.2.2]] []),(3,.bp 3 0),(14,.sl (.sl .i) table),(15,.ii (table.length:Int)),(16,.ii st1),(17,.bool (decide (st1<(table.length:Int))))] [(3,.box 171 [.ii m.1,.ii m.2.1,.sl (.sl .i) m.2.2.1,.sl (.sl .i) m.2.2.2])] ?_
  refine AW.seq ?_
  refine zQ h (fun hb7 h=>?_) (fun hb7 h=>?_)
  ·refine zk ?_
   refine AW.seq ?_
   refine AW.block ?_
   refine zo ?_
   obtain ⟨c8,h⟩:=b5.1 h
   obtain ⟨c9,h⟩:=b5.1 h
   refine zB [(2,.fn (.func 163) [.agg [.ii is0.1,.ii is0.2.1,.sl (.sl .i) is0.2.2.1,.sl (.sl .i) is0.2.2.2]] []),(3,.bp 3 0),(8,.sl .i (table.getD st1.toNat [])),(14,.sl (.sl .i) table),(15,.ii (table.length:Int)),(16,.ii st1)] [(3,.box 171 [.ii m.1,.ii m.2.1,.sl (.sl .i) m.2.2.1,.sl (.sl .i) m.2.2.2])] ?_
   refine zo ?_
   refine zS 5 [(2,.fn (.func 163) [.agg [.ii is0.1,.ii is0.2.1,.sl (.sl .i) is0.2.2.1,.sl (.sl .i) is0.2.2.2]] []),(3,.bp 3 0),(8,.sl .i (table.getD st1.toNat [])),(14,.sl (.sl .i) table),(15,.ii (table.length:Int)),(16,.ii st1),(24,.bool (!(decide (((table.getD st1.toNat []).length:Int)=m.2.1))))] [(3,.box 171 [.ii m.1,.ii m.2.1,.sl (.sl .i) m.2.2.1,.sl (.sl .i) m.2.2.2])] ?_
   refine zS 1 [(2,.fn (.func 163) [.agg [.ii is0.1,.ii is0.2.1,.sl (.sl .i) is0.2.2.1,.sl (.sl .i) is0.2.2.2]] []),(3,.bp 3 0),(8,.sl .i (table.getD st1.toNat [])),(14,.sl (.sl .i) table),(15,.ii (table.length:Int)),(16,.ii st1),(25,.bool (!(decide (((table.getD st1.toNat []).length:Int)=m.2.1))))] [(3,.box 171 [.ii m.1,.ii m.2.1,.sl (.sl .i) m.2.2.1,.sl (.sl .i) m.2.2.2])] ?_
   rcases zI h with ⟨hb10,h⟩|⟨hb10,h⟩
   ·refine zS 4 [(2,.fn (.func 163) [.agg [.ii is0.1,.ii is0.2.1,.sl (.sl .i) is0.2.2.1,.sl (.sl .i) is0.2.2.2]] []),(3,.bp 3 0),(14,.sl (.sl .i) table),(15,.ii (table.length:Int)),(16,.ii st1),(25,.bool true),(29,.cv (undef))] [(3,.box 171 [.ii m.1,.ii m.2.1,.sl (.sl .i) m.2.2.1,.sl (.sl .i) m.2.2.2])] ?_
    refine zB [(2,.fn (.func 163) [.agg [.ii is0.1,.ii is0.2.1,.sl (.sl .i) is0.2.2.1,.sl (.sl .i) is0.2.2.2]] []),(3,.bp 3 0),(14,.sl (.sl .i) table),(15,.ii (table.length:Int)),(16,.ii st1),(30,.bool true)] [(3,.box 171 [.ii m.1,.ii m.2.1,.sl (.sl .i) m.2.2.1,.sl (.sl .i) m.2.2.2])] ?_
    refine AW.cond (b:=true) rfl (fun _=>?_) (fun hb11=>by cases hb11)
    refine zo ?_
    refine zB [(6,.bool false)] [] ?_
    refine AW.ret ?_
    refine d7 ?_
    refine d6 ?_
    obtain rfl:=zj h
    try rw [← hd4 _ rfl] at ho3
    have h:=ho3
    try simp only at h
    refine d6 ?_
    refine d7 ?_
    refine d6 ?_
    obtain rfl:=zj h
    exact zR [] [] []
   refine zS 2 [(2,.fn (.func 163) [.agg [.ii is0.1,.ii is0.2.1,.sl (.sl .i) is0.2.2.1,.sl (.sl .i) is0.2.2.2]] []),(3,.bp 3 0),(14,.sl (.sl .i) table),(15,.ii (table.length:Int)),(16,.ii st1),(25,.bool false),(26,.fn (.func 163) [.agg [.ii is0.1,.ii is0.2.1,.sl (.sl .i) is0.2.2.1,.sl (.sl .i) is0.2.2.2]] []),(27,.sl .i (table.getD st1.toNat []))] [(3,.box 171 [.ii m.1,.ii m.2.1,.sl (.sl .i) m.2.2.1,.sl (.sl .i) m.2.2.2])] ?_
   obtain ⟨v0,hv12,h⟩:=zw h
   refine zG [] [] (a49 is0 (table.getD st1.toNat []) hv12) [(2,.fn (.func 163) [.agg [.ii is0.1,.ii is0.2.1,.sl (.sl .i) is0.2.2.1,.sl (.sl .i) is0.2.2.2]] []),(3,.bp 3 0),(14,.sl (.sl .i) table),(15,.ii (table.length:Int)),(16,.ii st1),(25,.bool false),(28,.bool v0)] [(3,.box 171 [.ii m.1,.ii m.2.1,.sl (.sl .i) m.2.2.1,.sl (.sl .i) m.2.2.2])] ?_
   refine zB [(2,.fn (.func 163) [.agg [.ii is0.1,.ii is0.2.1,.sl (.sl .i) is0.2.2.1,.sl (.sl .i) is0.2.2.2]] []),(3,.bp 3 0),(14,.sl (.sl .i) table),(15,.ii (table.length:Int)),(16,.ii st1),(30,.bool (!v0))] [(3,.box 171 [.ii m.1,.ii m.2.1,.sl (.sl .i) m.2.2.1,.sl (.sl .i) m.2.2.2])] ?_
   refine zQ h (fun hb13 h=>?_) (fun hb13 h=>?_)
   ·refine zo ?_
    refine zB [(6,.bool false)] [] ?_
    refine AW.ret ?_
    refine d7 ?_
    refine d6 ?_
    obtain rfl:=zj h
    try rw [← hd4 _ rfl] at ho3
    have h:=ho3
    try simp only at h
    refine d6 ?_
    refine d7 ?_
    refine d6 ?_
    obtain rfl:=zj h
    exact zR [] [] []
   refine zm ?_
   refine f7 ?_
   refine AW.ops ?_
   obtain ⟨c14,h⟩:=b5.1 h
   refine zA [(2,.fn (.func 163) [.agg [.ii is0.1,.ii is0.2.1,.sl (.sl .i) is0.2.2.1,.sl (.sl .i) is0.2.2.2]] []),(3,.bp 3 0),(14,.sl (.sl .i) table),(15,.ii (table.length:Int)),(16,.ii (st1+1))] [(3,.box 171 [.ii m.1,.ii m.2.1,.sl (.sl .i) m.2.2.1,.sl (.sl .i) m.2.2.2])] ?_
   obtain rfl:=zj h
   exact ⟨_,rfl,zL [] [] []⟩
  refine AW.exit ?_
  refine g7 ?_
  obtain rfl:=zj h
  try rw [← hd4 _ rfl] at ho3
  have h:=ho3
  try simp only at h
  refine g7 ?_
  refine l9 ?_
  refine f7 ?_
  exact AW.weaken (zL [] [] []) (hk_spec_machine_isTable_k1 () h)
theorem a4E (n:Int) {r:Bool} (h:S4 n=some r):HC Try.prog 164 [] [.ii n] [] (.bool r):=by
 unfold S4 at h
 refine zH Try.func164 [.tmp 2] 9 ?_
 refine zo ?_
 refine zB [(0,.ii n)] [] ?_
 refine zo ?_
 refine zS 3 [(0,.ii n),(5,.bool (decide (0≤n)))] [] ?_
 rcases zI h with ⟨hb1,h⟩|⟨hb1,h⟩
 ·refine zB [(2,.bool (decide (n≤5)))] [] ?_
  refine AW.ret ?_
  obtain rfl:=zj h
  exact zR [] [] []
 refine zB [(2,.bool false)] [] ?_
 refine AW.ret ?_
 obtain rfl:=zj h
 exact zR [] [] []
theorem a6P (numbers:List Int) {r:Bool} (h:a0x numbers=some r):HC Try.prog 172 [] [.fn (.func 164) [] [],.sl .i numbers] [] (.bool r):=by
 unfold a0x at h
 refine zH Try.func172 [.tmp 4] 18 ?_
 refine zo ?_
 refine zB [(0,.fn (.func 164) [] []),(1,.sl .i numbers)] [] ?_
 refine AW.have1 (fun _:Unit=>X7=some r) (fun _=>⟨fr [],b8 [],gt⟩) (fun _ h=>?_) (fun hk_spec_all_2_k1=>?_)
 ·as_aux_lemma =>
   unfold X7 at h
   refine zo ?_
   refine zB [(4,.bool true)] [] ?_
   refine AW.ret ?_
   obtain rfl:=zj h
   exact zR [] [] []
 refine AW.seq ?_
 refine zo ?_
 refine zB [(0,.fn (.func 164) [] []),(7,.sl .i numbers),(8,.ii (numbers.length:Int)),(9,.ii 0)] [] ?_
 refine AW.block ?_
 obtain ⟨rv5,hw1,ho2⟩:=zw h
 refine AW.loopO (S5 numbers) (fun st1=>⟨fr [(0,.fn (.func 164) [] []),(7,.sl .i numbers),(8,.ii (numbers.length:Int)),(9,.ii st1)],b8 [],gt⟩) 0 hw1 (zL [] [] []) ?_
 as_aux_lemma =>
  intro st1 x4 h hd3
  unfold S5 at h
  refine zo ?_
  refine zB [(0,.fn (.func 164) [] []),(7,.sl .i numbers),(8,.ii (numbers.length:Int)),(9,.ii st1),(10,.bool (decide (st1<(numbers.length:Int))))] [] ?_
  refine AW.seq ?_
  refine zQ h (fun hb6 h=>?_) (fun hb6 h=>?_)
  ·refine zk ?_
   refine AW.seq ?_
   refine AW.block ?_
   refine zo ?_
   obtain ⟨c7,h⟩:=b5.1 h
   obtain ⟨c8,h⟩:=b5.1 h
   refine zB [(0,.fn (.func 164) [] []),(6,.ii (numbers.getD st1.toNat 0)),(7,.sl .i numbers),(8,.ii (numbers.length:Int)),(9,.ii st1)] [] ?_
   refine zo ?_
   refine zS 2 [(0,.fn (.func 164) [] []),(7,.sl .i numbers),(8,.ii (numbers.length:Int)),(9,.ii st1),(13,.fn (.func 164) [] []),(14,.ii (numbers.getD st1.toNat 0))] [] ?_
   obtain ⟨v0,hv9,h⟩:=zw h
   refine zC [] [] (a4E (numbers.getD st1.toNat 0) hv9) [(0,.fn (.func 164) [] []),(7,.sl .i numbers),(8,.ii (numbers.length:Int)),(9,.ii st1),(15,.bool v0)] [] ?_
   refine zB [(0,.fn (.func 164) [] []),(7,.sl .i numbers),(8,.ii (numbers.length:Int)),(9,.ii st1),(16,.bool (!v0))] [] ?_
   refine zQ h (fun hb10 h=>?_) (fun hb10 h=>?_)
   ·refine zo ?_
    refine zB [(4,.bool false)] [] ?_
    refine AW.ret ?_
    refine d7 ?_
    refine d6 ?_
    obtain rfl:=zj h
    try rw [← hd3 _ rfl] at ho2
    have h:=ho2
    try simp only at h
    refine d6 ?_
    refine d7 ?_
    refine d6 ?_
    obtain rfl:=zj h
    exact zR [] [] []
   refine zm ?_
   refine f7 ?_
   refine AW.ops ?_
   obtain ⟨c11,h⟩:=b5.1 h
   refine zA [(0,.fn (.func 164) [] []),(7,.sl .i numbers),(8,.ii (numbers.length:Int)),(9,.ii (st1+1))] [] ?_
   obtain rfl:=zj h
   exact ⟨_,rfl,zL [] [] []⟩
  refine AW.exit ?_
  refine g7 ?_
  obtain rfl:=zj h
  try rw [← hd3 _ rfl] at ho2
  have h:=ho2
  try simp only at h
  refine g7 ?_
  refine l9 ?_
  refine f7 ?_
  exact AW.weaken (zL [] [] []) (hk_spec_all_2_k1 () h)
end Go.Proofs.Ytenchhmcjmjlbaa
