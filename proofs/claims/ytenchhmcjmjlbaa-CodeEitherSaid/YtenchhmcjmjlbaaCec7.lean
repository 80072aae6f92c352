import Derived.Test.YtenchhmcjmjlbaaCkp
import Derived.Test.YtenchhmcjmjlbaaShk
import Derived.Test.YtenchhmcjmjlbaaCec1
import Derived.Test.YtenchhmcjmjlbaaCec5
import Derived.Test.YtenchhmcjmjlbaaCec6
namespace Go.Proofs.Ytenchhmcjmjlbaa
open Go.RowKit
set_option linter.unusedSimpArgs false
set_option linter.unusedVariables false
set_option linter.constructorNameAsVariable false
set_option maxRecDepth 100000
set_option maxHeartbeats 40000000
theorem a5a (c:List (List (Int×Int×Int×Int))) (use:List (List Int)) (schedule:List Int) {r:(List Int)×Int} (h:X3 c use schedule=some r):HC Try.prog 21 [] [.sl (.sl Y4) c,.sl (.sl .i) use,.sl .i schedule] [(2000,.arr 3 .i r.1)] (.tup [.own 2000,.ii r.2]):=by
 unfold X3 at h
 refine zH Try.func21 [.tmp 6,.tmp 7] 22 ?_
 refine zo ?_
 refine zB [(0,.sl (.sl Y4) c),(1,.sl (.sl .i) use),(2,.sl .i schedule)] [] ?_
 refine zo ?_
 refine zS 3 [(11,.sl (.sl Y4) c),(12,.sl (.sl .i) use),(13,.sl .i schedule)] [] ?_
 obtain ⟨v0,hv1,h⟩:=zw h
 refine zC [] [] (a1e c use schedule hv1) [(14,.tup [.agg (.sl (.sl Y4) v0.1::(.sl (.sl .i) v0.2.1::(.own 24000::(b3 T80 v0.2.2.2.1++(.ii v0.2.2.2.2.1::(.ii v0.2.2.2.2.2.1::(.ii v0.2.2.2.2.2.2.1::(b3 T85 v0.2.2.2.2.2.2.2.1++(b3 T86 v0.2.2.2.2.2.2.2.2.1++(.ii v0.2.2.2.2.2.2.2.2.2.1::[])))))))))),.ii v0.2.2.2.2.2.2.2.2.2.2])] [(24000,.arr 3 .i v0.2.2.1)] ?_
 refine AO.weaken (s':=⟨fr [(14,.tup [.agg (.sl (.sl Y4) v0.1::(.sl (.sl .i) v0.2.1::(.sl .i v0.2.2.1::(b3 T80 v0.2.2.2.1++(.ii v0.2.2.2.2.1::(.ii v0.2.2.2.2.2.1::(.ii v0.2.2.2.2.2.2.1::(b3 T85 v0.2.2.2.2.2.2.2.1++(b3 T86 v0.2.2.2.2.2.2.2.2.1++(.ii v0.2.2.2.2.2.2.2.2.2.1::[])))))))))),.ii v0.2.2.2.2.2.2.2.2.2.2])],b6 [],gt⟩) (zL [24000] [] []) ?_
 refine zS 5 [(8,.bp 8 0),(16,.ii v0.2.2.2.2.2.2.2.2.2.2)] [(8,.box 88 (.sl (.sl Y4) v0.1::(.sl (.sl .i) v0.2.1::(.sl .i v0.2.2.1::(b3 T80 v0.2.2.2.1++(.ii v0.2.2.2.2.1::(.ii v0.2.2.2.2.2.1::(.ii v0.2.2.2.2.2.2.1::(b3 T85 v0.2.2.2.2.2.2.2.1++(b3 T86 v0.2.2.2.2.2.2.2.2.1++(.ii v0.2.2.2.2.2.2.2.2.2.1::[])))))))))))] ?_
 refine zB [(8,.bp 8 0),(9,.ii v0.2.2.2.2.2.2.2.2.2.2)] [(8,.box 88 (.sl (.sl Y4) v0.1::(.sl (.sl .i) v0.2.1::(.sl .i v0.2.2.1::(b3 T80 v0.2.2.2.1++(.ii v0.2.2.2.2.1::(.ii v0.2.2.2.2.2.1::(.ii v0.2.2.2.2.2.2.1::(b3 T85 v0.2.2.2.2.2.2.2.1++(b3 T86 v0.2.2.2.2.2.2.2.2.1++(.ii v0.2.2.2.2.2.2.2.2.2.1::[])))))))))))] ?_
 refine AW.seq ?_
 refine zo ?_
 refine zB [(8,.bp 8 0),(9,.ii v0.2.2.2.2.2.2.2.2.2.2),(18,.bool (!(decide (v0.2.2.2.2.2.2.2.2.2.2=0))))] [(8,.box 88 (.sl (.sl Y4) v0.1::(.sl (.sl .i) v0.2.1::(.sl .i v0.2.2.1::(b3 T80 v0.2.2.2.1++(.ii v0.2.2.2.2.1::(.ii v0.2.2.2.2.2.1::(.ii v0.2.2.2.2.2.2.1::(b3 T85 v0.2.2.2.2.2.2.2.1++(b3 T86 v0.2.2.2.2.2.2.2.2.1++(.ii v0.2.2.2.2.2.2.2.2.2.1::[])))))))))))] ?_
 refine zQ h (fun hb2 h=>?_) (fun hb2 h=>?_)
 ·refine zo ?_
  refine zB [(6,.cv (.slice none 0 0)),(7,.ii v0.2.2.2.2.2.2.2.2.2.2)] [] ?_
  refine zr ?_
  obtain rfl:=zj h
  exact zR [] [2000] []
 refine zk ?_
 refine zo ?_
 refine zS 1 [(20,.agg (.sl (.sl Y4) v0.1::(.sl (.sl .i) v0.2.1::(.sl .i v0.2.2.1::(b3 T80 v0.2.2.2.1++(.ii v0.2.2.2.2.1::(.ii v0.2.2.2.2.2.1::(.ii v0.2.2.2.2.2.2.1::(b3 T85 v0.2.2.2.2.2.2.2.1++(b3 T86 v0.2.2.2.2.2.2.2.2.1++(.ii v0.2.2.2.2.2.2.2.2.2.1::[])))))))))))] [] ?_
 obtain ⟨v0_2,hv3,h⟩:=zw h
 refine zC [] [] (a2n ((v0.1,v0.2.1),v0.2.2.1,v0.2.2.2.1,(v0.2.2.2.2.1,v0.2.2.2.2.2.1,v0.2.2.2.2.2.2.1),v0.2.2.2.2.2.2.2.1,v0.2.2.2.2.2.2.2.2.1,v0.2.2.2.2.2.2.2.2.2.1) hv3) [(21,.own 31000)] [(31000,.arr 3 .i v0_2)] ?_
 refine zB [(6,.own 31000),(7,.ii 0)] [(31000,.arr 3 .i v0_2)] ?_
 refine AW.ret ?_
 obtain rfl:=zj h
 exact zR [] [] [(2000,31000)]
theorem Z0 (s:Int×Int×(List (List Int))×(List (List Int))) (l:List (List Int)) (limit:Int) {r:Bool} (h:D0 s l limit=some r):HC Try.prog 137 [] [.agg [.ii s.1,.ii s.2.1,.sl (.sl .i) s.2.2.1,.sl (.sl .i) s.2.2.2],.sl (.sl .i) l,.ii limit] [] (.bool r):=by
 unfold D0 at h
 refine zH Try.func137 [.tmp 6] 42 ?_
 refine zo ?_
 refine zB [(1,.sl (.sl .i) l),(2,.ii limit),(3,.bp 3 0)] [(3,.box 24 [.ii s.1,.ii s.2.1,.sl (.sl .i) s.2.2.1,.sl (.sl .i) s.2.2.2])] ?_
 refine AW.seq ?_
 refine zo ?_
 refine zB [(1,.sl (.sl .i) l),(2,.ii limit),(3,.bp 3 0),(15,.bool (!(decide ((l.length:Int)=s.1))))] [(3,.box 24 [.ii s.1,.ii s.2.1,.sl (.sl .i) s.2.2.1,.sl (.sl .i) s.2.2.2])] ?_
 refine zQ h (fun hb1 h=>?_) (fun hb1 h=>?_)
 ·refine zo ?_
  refine zB [(6,.bool false)] [] ?_
  refine zr ?_
  obtain rfl:=zj h
  exact zR [] [] []
 refine zk ?_
 refine AW.have1 (fun _:Unit=>I0=some r) (fun _=>⟨fr [],b6 [],gt⟩) (fun _ h=>?_) (fun hk_linealref01_isTable_k1=>?_)
 ·as_aux_lemma =>
   unfold I0 at h
   refine zo ?_
   refine zB [(6,.bool true)] [] ?_
   refine AW.ret ?_
   obtain rfl:=zj h
   exact zR [] [] []
 refine AW.seq ?_
 refine zo ?_
 refine zB [(2,.ii limit),(3,.bp 3 0),(16,.sl (.sl .i) l),(17,.ii (l.length:Int)),(18,.ii 0)] [(3,.box 24 [.ii s.1,.ii s.2.1,.sl (.sl .i) s.2.2.1,.sl (.sl .i) s.2.2.2])] ?_
 refine AW.block ?_
 obtain ⟨rv6,hw2,ho3⟩:=zw h
 refine AW.loopO (C2 s l limit) (fun st1=>⟨fr [(2,.ii limit),(3,.bp 3 0),(16,.sl (.sl .i) l),(17,.ii (l.length:Int)),(18,.ii st1)],b6 [(3,.box 24 [.ii s.1,.ii s.2.1,.sl (.sl .i) s.2.2.1,.sl (.sl .i) s.2.2.2])],gt⟩) 0 hw2 (zL [] [] []) ?_
 as_aux_lemma =>
  intro st1 x5 h hd4
  unfold C2 at h
  refine zo ?_
  refine zB [(2,.ii limit),(3,.bp 3 0),(16,.sl (.sl .i) l),(17,.ii (l.length:Int)),(18,.ii st1),(19,.bool (decide (st1<(l.length:Int))))] [(3,.box 24 [.ii s.1,.ii s.2.1,.sl (.sl .i) s.2.2.1,.sl (.sl .i) s.2.2.2])] ?_
  refine AW.seq ?_
  refine zQ h (fun hb7 h=>?_) (fun hb7 h=>?_)
  ·refine zk ?_
   refine AW.have1 (fun _:Unit=>H9 st1=some x5) (fun _=>⟨fr [(2,.ii limit),(3,.bp 3 0),(16,.sl (.sl .i) l),(17,.ii (l.length:Int)),(18,.ii st1)],b6 [(3,.box 24 [.ii s.1,.ii s.2.1,.sl (.sl .i) s.2.2.1,.sl (.sl .i) s.2.2.2])],gt⟩) (fun _ h=>?_) (fun hk_linealref01_isTable_k2=>?_)
   ·as_aux_lemma =>
     unfold H9 at h
     refine AW.ops ?_
     obtain ⟨c8,h⟩:=b5.1 h
     refine zA [(2,.ii limit),(3,.bp 3 0),(16,.sl (.sl .i) l),(17,.ii (l.length:Int)),(18,.ii (st1+1))] [(3,.box 24 [.ii s.1,.ii s.2.1,.sl (.sl .i) s.2.2.1,.sl (.sl .i) s.2.2.2])] ?_
     obtain rfl:=zj h
     exact ⟨_,rfl,zL [] [] []⟩
   refine AW.seq ?_
   refine AW.block ?_
   refine zo ?_
   obtain ⟨c9,h⟩:=b5.1 h
   obtain ⟨c10,h⟩:=b5.1 h
   refine zB [(2,.ii limit),(3,.bp 3 0),(8,.sl .i (l.getD st1.toNat [])),(16,.sl (.sl .i) l),(17,.ii (l.length:Int)),(18,.ii st1)] [(3,.box 24 [.ii s.1,.ii s.2.1,.sl (.sl .i) s.2.2.1,.sl (.sl .i) s.2.2.2])] ?_
   refine AW.seq ?_
   refine zo ?_
   refine zB [(2,.ii limit),(3,.bp 3 0),(8,.sl .i (l.getD st1.toNat [])),(16,.sl (.sl .i) l),(17,.ii (l.length:Int)),(18,.ii st1),(26,.bool (!(decide (((l.getD st1.toNat []).length:Int)=s.2.1))))] [(3,.box 24 [.ii s.1,.ii s.2.1,.sl (.sl .i) s.2.2.1,.sl (.sl .i) s.2.2.2])] ?_
   refine zQ h (fun hb11 h=>?_) (fun hb11 h=>?_)
   ·refine zo ?_
    refine zB [(6,.bool false)] [] ?_
    refine zr ?_
    refine d7 ?_
    refine b9 ?_
    obtain rfl:=zj h
    try rw [← hd4 _ rfl] at ho3
    have h:=ho3
    try simp only at h
    refine b9 ?_
    refine d7 ?_
    refine b9 ?_
    obtain rfl:=zj h
    exact zR [] [] []
   refine zk ?_
   refine zo ?_
   refine zB [(2,.ii limit),(3,.bp 3 0),(16,.sl (.sl .i) l),(17,.ii (l.length:Int)),(18,.ii st1),(27,.sl .i (l.getD st1.toNat [])),(28,.ii ((l.getD st1.toNat []).length:Int)),(29,.ii 0)] [(3,.box 24 [.ii s.1,.ii s.2.1,.sl (.sl .i) s.2.2.1,.sl (.sl .i) s.2.2.2])] ?_
   refine AW.block ?_
   obtain ⟨rv16,hw12,ho13⟩:=zw h
   refine AW.loopO (C0 l limit st1) (fun st2=>⟨fr [(2,.ii limit),(3,.bp 3 0),(16,.sl (.sl .i) l),(17,.ii (l.length:Int)),(18,.ii st1),(27,.sl .i (l.getD st1.toNat [])),(28,.ii ((l.getD st1.toNat []).length:Int)),(29,.ii st2)],b6 [(3,.box 24 [.ii s.1,.ii s.2.1,.sl (.sl .i) s.2.2.1,.sl (.sl .i) s.2.2.2])],gt⟩) 0 hw12 (zL [] [] []) ?_
   as_aux_lemma =>
    intro st2 x15 h hd14
    unfold C0 at h
    refine zo ?_
    refine zB [(2,.ii limit),(3,.bp 3 0),(16,.sl (.sl .i) l),(17,.ii (l.length:Int)),(18,.ii st1),(27,.sl .i (l.getD st1.toNat [])),(28,.ii ((l.getD st1.toNat []).length:Int)),(29,.ii st2),(30,.bool (decide (st2<((l.getD st1.toNat []).length:Int))))] [(3,.box 24 [.ii s.1,.ii s.2.1,.sl (.sl .i) s.2.2.1,.sl (.sl .i) s.2.2.2])] ?_
    refine AW.seq ?_
    refine zQ h (fun hb17 h=>?_) (fun hb17 h=>?_)
    ·refine zk ?_
     refine AW.seq ?_
     refine AW.block ?_
     refine zo ?_
     obtain ⟨c18,h⟩:=b5.1 h
     obtain ⟨c19,h⟩:=b5.1 h
     refine zB [(2,.ii limit),(3,.bp 3 0),(10,.ii ((l.getD st1.toNat []).getD st2.toNat 0)),(16,.sl (.sl .i) l),(17,.ii (l.length:Int)),(18,.ii st1),(27,.sl .i (l.getD st1.toNat [])),(28,.ii ((l.getD st1.toNat []).length:Int)),(29,.ii st2)] [(3,.box 24 [.ii s.1,.ii s.2.1,.sl (.sl .i) s.2.2.1,.sl (.sl .i) s.2.2.2])] ?_
     refine zo ?_
     refine zS 3 [(2,.ii limit),(3,.bp 3 0),(10,.ii ((l.getD st1.toNat []).getD st2.toNat 0)),(16,.sl (.sl .i) l),(17,.ii (l.length:Int)),(18,.ii st1),(27,.sl .i (l.getD st1.toNat [])),(28,.ii ((l.getD st1.toNat []).length:Int)),(29,.ii st2),(35,.bool (decide (((l.getD st1.toNat []).getD st2.toNat 0)<0)))] [(3,.box 24 [.ii s.1,.ii s.2.1,.sl (.sl .i) s.2.2.1,.sl (.sl .i) s.2.2.2])] ?_
     rcases zI h with ⟨hb20,h⟩|⟨hb20,h⟩
     ·refine zB [(2,.ii limit),(3,.bp 3 0),(16,.sl (.sl .i) l),(17,.ii (l.length:Int)),(18,.ii st1),(27,.sl .i (l.getD st1.toNat [])),(28,.ii ((l.getD st1.toNat []).length:Int)),(29,.ii st2),(39,.bool true)] [(3,.box 24 [.ii s.1,.ii s.2.1,.sl (.sl .i) s.2.2.1,.sl (.sl .i) s.2.2.2])] ?_
      refine AW.cond (b:=true) rfl (fun _=>?_) (fun hb21=>by cases hb21)
      refine zo ?_
      refine zB [(6,.bool false)] [] ?_
      refine AW.ret ?_
      refine d7 ?_
      refine b9 ?_
      obtain rfl:=zj h
      try rw [← hd14 _ rfl] at ho13
      have h:=ho13
      try simp only at h
      refine b9 ?_
      refine d7 ?_
      refine d7 ?_
      refine b9 ?_
      obtain rfl:=zj h
      try rw [← hd4 _ rfl] at ho3
      have h:=ho3
      try simp only at h
      refine b9 ?_
      refine d7 ?_
      refine b9 ?_
      obtain rfl:=zj h
      exact zR [] [] []
     refine zB [(2,.ii limit),(3,.bp 3 0),(16,.sl (.sl .i) l),(17,.ii (l.length:Int)),(18,.ii st1),(27,.sl .i (l.getD st1.toNat [])),(28,.ii ((l.getD st1.toNat []).length:Int)),(29,.ii st2),(39,.bool (decide (limit≤((l.getD st1.toNat []).getD st2.toNat 0))))] [(3,.box 24 [.ii s.1,.ii s.2.1,.sl (.sl .i) s.2.2.1,.sl (.sl .i) s.2.2.2])] ?_
     refine zQ h (fun hb22 h=>?_) (fun hb22 h=>?_)
     ·refine zo ?_
      refine zB [(6,.bool false)] [] ?_
      refine AW.ret ?_
      refine d7 ?_
      refine b9 ?_
      obtain rfl:=zj h
      try rw [← hd14 _ rfl] at ho13
      have h:=ho13
      try simp only at h
      refine b9 ?_
      refine d7 ?_
      refine d7 ?_
      refine b9 ?_
      obtain rfl:=zj h
      try rw [← hd4 _ rfl] at ho3
      have h:=ho3
      try simp only at h
      refine b9 ?_
      refine d7 ?_
      refine b9 ?_
      obtain rfl:=zj h
      exact zR [] [] []
     refine zm ?_
     refine g5 ?_
     refine AW.ops ?_
     obtain ⟨c23,h⟩:=b5.1 h
     refine zA [(2,.ii limit),(3,.bp 3 0),(16,.sl (.sl .i) l),(17,.ii (l.length:Int)),(18,.ii st1),(27,.sl .i (l.getD st1.toNat [])),(28,.ii ((l.getD st1.toNat []).length:Int)),(29,.ii (st2+1))] [(3,.box 24 [.ii s.1,.ii s.2.1,.sl (.sl .i) s.2.2.1,.sl (.sl .i) s.2.2.2])] ?_
     obtain rfl:=zj h
     exact ⟨_,rfl,zL [] [] []⟩
    refine AW.exit ?_
    refine i6 ?_
    obtain rfl:=zj h
    try rw [← hd14 _ rfl] at ho13
    have h:=ho13
    try simp only at h
    refine i6 ?_
    refine m7 ?_
    refine p6 ?_
    refine g5 ?_
    exact AW.weaken (zL [] [] []) (hk_linealref01_isTable_k2 () h)
  refine AW.exit ?_
  refine i6 ?_
  obtain rfl:=zj h
  try rw [← hd4 _ rfl] at ho3
  have h:=ho3
  try simp only at h
  refine i6 ?_
  refine m7 ?_
  refine g5 ?_
  exact AW.weaken (zL [] [] []) (hk_linealref01_isTable_k1 () h)
theorem a3u (s:Int×Int×(List (List Int))×(List (List Int))) {r:Bool} (h:M7 s=some r):HC Try.prog 89 [] [.agg [.ii s.1,.ii s.2.1,.sl (.sl .i) s.2.2.1,.sl (.sl .i) s.2.2.2]] [] (.bool r):=by
 unfold M7 at h
 refine zH Try.func89 [.tmp 2] 35 ?_
 refine zo ?_
 refine zB [(1,.bp 1 0)] [(1,.box 24 [.ii s.1,.ii s.2.1,.sl (.sl .i) s.2.2.1,.sl (.sl .i) s.2.2.2])] ?_
 refine zo ?_
 refine zS 4 [(1,.bp 1 0),(6,.bool (decide (1≤s.1)))] [(1,.box 24 [.ii s.1,.ii s.2.1,.sl (.sl .i) s.2.2.1,.sl (.sl .i) s.2.2.2])] ?_
 rcases zI h with ⟨hb1,h⟩|⟨hb1,h⟩
 ·refine zS 5 [(1,.bp 1 0),(11,.bool (decide (s.1≤8)))] [(1,.box 24 [.ii s.1,.ii s.2.1,.sl (.sl .i) s.2.2.1,.sl (.sl .i) s.2.2.2])] ?_
  rcases zI h with ⟨hb2,h⟩|⟨hb2,h⟩
  ·refine zS 5 [(1,.bp 1 0),(16,.bool (decide (1≤s.2.1)))] [(1,.box 24 [.ii s.1,.ii s.2.1,.sl (.sl .i) s.2.2.1,.sl (.sl .i) s.2.2.2])] ?_
   rcases zI h with ⟨hb3,h⟩|⟨hb3,h⟩
   ·refine zS 5 [(1,.bp 1 0),(21,.bool (decide (s.2.1≤4)))] [(1,.box 24 [.ii s.1,.ii s.2.1,.sl (.sl .i) s.2.2.1,.sl (.sl .i) s.2.2.2])] ?_
    rcases zI h with ⟨hb4,h⟩|⟨hb4,h⟩
    ·refine zS 5 [(1,.bp 1 0),(21,.bool true),(22,.agg [.ii s.1,.ii s.2.1,.sl (.sl .i) s.2.2.1,.sl (.sl .i) s.2.2.2]),(24,.sl (.sl .i) s.2.2.1),(26,.ii s.1)] [(1,.box 24 [.ii s.1,.ii s.2.1,.sl (.sl .i) s.2.2.1,.sl (.sl .i) s.2.2.2])] ?_
     obtain ⟨v0,hv5,h⟩:=zw h
     refine zG [] [] (Z0 s s.2.2.1 s.1 hv5) [(1,.bp 1 0),(21,.bool true),(27,.bool v0)] [(1,.box 24 [.ii s.1,.ii s.2.1,.sl (.sl .i) s.2.2.1,.sl (.sl .i) s.2.2.2])] ?_
     refine zS 2 [(1,.bp 1 0),(29,.bool v0)] [(1,.box 24 [.ii s.1,.ii s.2.1,.sl (.sl .i) s.2.2.1,.sl (.sl .i) s.2.2.2])] ?_
     rcases zI h with ⟨hb6,h⟩|⟨hb6,h⟩
     ·refine zS 3 [(29,.bool true),(30,.agg [.ii s.1,.ii s.2.1,.sl (.sl .i) s.2.2.1,.sl (.sl .i) s.2.2.2]),(32,.sl (.sl .i) s.2.2.2)] [] ?_
      obtain ⟨v0_2,hv7,h⟩:=zw h
      refine zG [] [] (Z0 s s.2.2.2 6 hv7) [(29,.bool true),(33,.bool v0_2)] [] ?_
      refine zB [(2,.bool v0_2)] [] ?_
      refine AW.ret ?_
      obtain rfl:=zj h
      exact zR [] [] []
     refine zS 4 [(29,.bool false),(33,.cv (undef))] [] ?_
     refine zB [(2,.bool false)] [] ?_
     refine AW.ret ?_
     obtain rfl:=zj h
     exact zR [] [] []
    refine zS 4 [(1,.bp 1 0),(21,.bool false),(22,.cv (undef)),(24,.cv (undef)),(25,.cv (undef))] [(1,.box 24 [.ii s.1,.ii s.2.1,.sl (.sl .i) s.2.2.1,.sl (.sl .i) s.2.2.2])] ?_
    refine zS 5 [(1,.bp 1 0),(29,.bool false),(30,.cv (undef))] [(1,.box 24 [.ii s.1,.ii s.2.1,.sl (.sl .i) s.2.2.1,.sl (.sl .i) s.2.2.2])] ?_
    refine zB [(2,.bool false)] [] ?_
    refine AW.ret ?_
    obtain rfl:=zj h
    exact zR [] [] []
   refine zS 5 [(1,.bp 1 0),(21,.bool false)] [(1,.box 24 [.ii s.1,.ii s.2.1,.sl (.sl .i) s.2.2.1,.sl (.sl .i) s.2.2.2])] ?_
   refine zS 4 [(1,.bp 1 0),(21,.bool false),(22,.cv (undef)),(24,.cv (undef)),(25,.cv (undef))] [(1,.box 24 [.ii s.1,.ii s.2.1,.sl (.sl .i) s.2.2.1,.sl (.sl .i) s.2.2.2])] ?_
   refine zS 5 [(1,.bp 1 0),(29,.bool false),(30,.cv (undef))] [(1,.box 24 [.ii s.1,.ii s.2.1,.sl (.sl .i) s.2.2.1,.sl (.sl .i) s.2.2.2])] ?_
   refine zB [(2,.bool false)] [] ?_
   refine AW.ret ?_
   obtain rfl:=zj h
   exact zR [] [] []
  refine zS 5 [(1,.bp 1 0),(16,.bool false)] [(1,.box 24 [.ii s.1,.ii s.2.1,.sl (.sl .i) s.2.2.1,.sl (.sl .i) s.2.2.2])] ?_
  refine zS 5 [(1,.bp 1 0),(21,.bool false)] [(1,.box 24 [.ii s.1,.ii s.2.1,.sl (.sl .i) s.2.2.1,.sl (.sl .i) s.2.2.2])] ?_
  refine zS 4 [(1,.bp 1 0),(21,.bool false),(22,.cv (undef)),(24,.cv (undef)),(25,.cv (undef))] [(1,.box 24 [.ii s.1,.ii s.2.1,.sl (.sl .i) s.2.2.1,.sl (.sl .i) s.2.2.2])] ?_
  refine zS 5 [(1,.bp 1 0),(29,.bool false),(30,.cv (undef))] [(1,.box 24 [.ii s.1,.ii s.2.1,.sl (.sl .i) s.2.2.1,.sl (.sl .i) s.2.2.2])] ?_
  refine zB [(2,.bool false)] [] ?_
  refine AW.ret ?_
  obtain rfl:=zj h
  exact zR [] [] []
 refine zS 5 [(1,.bp 1 0),(11,.bool false)] [(1,.box 24 [.ii s.1,.ii s.2.1,.sl (.sl .i) s.2.2.1,.sl (.sl .i) s.2.2.2])] ?_
 refine zS 5 [(1,.bp 1 0),(16,.bool false)] [(1,.box 24 [.ii s.1,.ii s.2.1,.sl (.sl .i) s.2.2.1,.sl (.sl .i) s.2.2.2])] ?_
 refine zS 5 [(1,.bp 1 0),(21,.bool false)] [(1,.box 24 [.ii s.1,.ii s.2.1,.sl (.sl .i) s.2.2.1,.sl (.sl .i) s.2.2.2])] ?_
 refine zS 4 [(1,.bp 1 0),(21,.bool false),(22,.cv (undef)),(24,.cv (undef)),(25,.cv (undef))] [(1,.box 24 [.ii s.1,.ii s.2.1,.sl (.sl .i) s.2.2.1,.sl (.sl .i) s.2.2.2])] ?_
 refine zS 5 [(1,.bp 1 0),(29,.bool false),(30,.cv (undef))] [(1,.box 24 [.ii s.1,.ii s.2.1,.sl (.sl .i) s.2.2.1,.sl (.sl .i) s.2.2.2])] ?_
 refine zB [(2,.bool false)] [] ?_
 refine AW.ret ?_
 obtain rfl:=zj h
 exact zR [] [] []
theorem a26 (x0:(Int×Int×(List (List Int))×(List (List Int)))×(List (List (Int×Int×Int×Int)))×(List (List Int))) {r:Bool} (h:K5 x0=some r):HC Try.prog 38 [] [.agg [.ii x0.1.1,.ii x0.1.2.1,.sl (.sl .i) x0.1.2.2.1,.sl (.sl .i) x0.1.2.2.2,.sl (.sl Y4) x0.2.1,.sl (.sl .i) x0.2.2]] [] (.bool r):=by
 unfold K5 at h
 refine zH Try.func38 [.tmp 2] 32 ?_
 refine zo ?_
 refine zB [(1,.bp 1 0)] [(1,.box 27 [.ii x0.1.1,.ii x0.1.2.1,.sl (.sl .i) x0.1.2.2.1,.sl (.sl .i) x0.1.2.2.2,.sl (.sl Y4) x0.2.1,.sl (.sl .i) x0.2.2])] ?_
 refine zo ?_
 refine zS 1 [(1,.bp 1 0),(3,.agg [.ii x0.1.1,.ii x0.1.2.1,.sl (.sl .i) x0.1.2.2.1,.sl (.sl .i) x0.1.2.2.2,.sl (.sl Y4) x0.2.1,.sl (.sl .i) x0.2.2])] [(1,.box 27 [.ii x0.1.1,.ii x0.1.2.1,.sl (.sl .i) x0.1.2.2.1,.sl (.sl .i) x0.1.2.2.2,.sl (.sl Y4) x0.2.1,.sl (.sl .i) x0.2.2])] ?_
 obtain ⟨v0,hv1,h⟩:=zw h
 refine zC [] [] (a3v x0 hv1) [(1,.bp 1 0),(4,.bool v0)] [(1,.box 27 [.ii x0.1.1,.ii x0.1.2.1,.sl (.sl .i) x0.1.2.2.1,.sl (.sl .i) x0.1.2.2.2,.sl (.sl Y4) x0.2.1,.sl (.sl .i) x0.2.2])] ?_
 refine zS 2 [(1,.bp 1 0),(6,.bool (!v0))] [(1,.box 27 [.ii x0.1.1,.ii x0.1.2.1,.sl (.sl .i) x0.1.2.2.1,.sl (.sl .i) x0.1.2.2.2,.sl (.sl Y4) x0.2.1,.sl (.sl .i) x0.2.2])] ?_
 rcases zI h with ⟨hb2,h⟩|⟨hb2,h⟩
 ·refine zS 2 [(1,.bp 1 0),(6,.bool true),(8,.sl (.sl Y4) x0.2.1)] [(1,.box 27 [.ii x0.1.1,.ii x0.1.2.1,.sl (.sl .i) x0.1.2.2.1,.sl (.sl .i) x0.1.2.2.2,.sl (.sl Y4) x0.2.1,.sl (.sl .i) x0.2.2])] ?_
  obtain ⟨v0_2,hv3,h⟩:=zw h
  refine zG [] [] (a3s x0.2.1 hv3) [(1,.bp 1 0),(6,.bool true),(9,.bool v0_2)] [(1,.box 27 [.ii x0.1.1,.ii x0.1.2.1,.sl (.sl .i) x0.1.2.2.1,.sl (.sl .i) x0.1.2.2.2,.sl (.sl Y4) x0.2.1,.sl (.sl .i) x0.2.2])] ?_
  refine zS 2 [(1,.bp 1 0),(11,.bool v0_2)] [(1,.box 27 [.ii x0.1.1,.ii x0.1.2.1,.sl (.sl .i) x0.1.2.2.1,.sl (.sl .i) x0.1.2.2.2,.sl (.sl Y4) x0.2.1,.sl (.sl .i) x0.2.2])] ?_
  rcases zI h with ⟨hb4,h⟩|⟨hb4,h⟩
  ·refine zS 2 [(1,.bp 1 0),(11,.bool true),(13,.agg [.ii x0.1.1,.ii x0.1.2.1,.sl (.sl .i) x0.1.2.2.1,.sl (.sl .i) x0.1.2.2.2])] [(1,.box 27 [.ii x0.1.1,.ii x0.1.2.1,.sl (.sl .i) x0.1.2.2.1,.sl (.sl .i) x0.1.2.2.2,.sl (.sl Y4) x0.2.1,.sl (.sl .i) x0.2.2])] ?_
   obtain ⟨v0_3,hv5,h⟩:=zw h
   refine zG [] [] (a3u x0.1 hv5) [(1,.bp 1 0),(11,.bool true),(14,.bool v0_3)] [(1,.box 27 [.ii x0.1.1,.ii x0.1.2.1,.sl (.sl .i) x0.1.2.2.1,.sl (.sl .i) x0.1.2.2.2,.sl (.sl Y4) x0.2.1,.sl (.sl .i) x0.2.2])] ?_
   refine zS 2 [(1,.bp 1 0),(16,.bool v0_3)] [(1,.box 27 [.ii x0.1.1,.ii x0.1.2.1,.sl (.sl .i) x0.1.2.2.1,.sl (.sl .i) x0.1.2.2.2,.sl (.sl Y4) x0.2.1,.sl (.sl .i) x0.2.2])] ?_
   rcases zI h with ⟨hb6,h⟩|⟨hb6,h⟩
   ·refine zS 5 [(1,.bp 1 0),(16,.bool true),(19,.ii x0.1.2.1),(21,.sl (.sl Y4) x0.2.1)] [(1,.box 27 [.ii x0.1.1,.ii x0.1.2.1,.sl (.sl .i) x0.1.2.2.1,.sl (.sl .i) x0.1.2.2.2,.sl (.sl Y4) x0.2.1,.sl (.sl .i) x0.2.2])] ?_
    refine zS 4 [(1,.bp 1 0),(25,.bool (decide (x0.1.2.1=(x0.2.1.length:Int))))] [(1,.box 27 [.ii x0.1.1,.ii x0.1.2.1,.sl (.sl .i) x0.1.2.2.1,.sl (.sl .i) x0.1.2.2.2,.sl (.sl Y4) x0.2.1,.sl (.sl .i) x0.2.2])] ?_
    rcases zI h with ⟨hb7,h⟩|⟨hb7,h⟩
    ·refine zS 4 [(25,.bool true),(27,.sl (.sl Y4) x0.2.1),(29,.sl (.sl .i) x0.2.2)] [] ?_
     obtain ⟨v0_4,hv8,h⟩:=zw h
     refine zG [] [] (a3t x0.2.1 x0.2.2 hv8) [(25,.bool true),(30,.bool v0_4)] [] ?_
     refine zB [(2,.bool v0_4)] [] ?_
     refine AW.ret ?_
     obtain rfl:=zj h
     exact zR [] [] []
    refine zS 4 [(25,.bool false),(27,.cv (undef)),(29,.cv (undef))] [] ?_
    refine zB [(2,.bool false)] [] ?_
    refine AW.ret ?_
    obtain rfl:=zj h
    exact zR [] [] []
   refine zS 4 [(1,.bp 1 0),(16,.bool false),(19,.cv (undef)),(20,.cv (undef))] [(1,.box 27 [.ii x0.1.1,.ii x0.1.2.1,.sl (.sl .i) x0.1.2.2.1,.sl (.sl .i) x0.1.2.2.2,.sl (.sl Y4) x0.2.1,.sl (.sl .i) x0.2.2])] ?_
   refine zS 5 [(1,.bp 1 0),(25,.bool false)] [(1,.box 27 [.ii x0.1.1,.ii x0.1.2.1,.sl (.sl .i) x0.1.2.2.1,.sl (.sl .i) x0.1.2.2.2,.sl (.sl Y4) x0.2.1,.sl (.sl .i) x0.2.2])] ?_
   refine zS 4 [(25,.bool false),(27,.cv (undef)),(29,.cv (undef))] [] ?_
   refine zB [(2,.bool false)] [] ?_
   refine AW.ret ?_
   obtain rfl:=zj h
   exact zR [] [] []
  refine zS 5 [(1,.bp 1 0),(16,.bool false)] [(1,.box 27 [.ii x0.1.1,.ii x0.1.2.1,.sl (.sl .i) x0.1.2.2.1,.sl (.sl .i) x0.1.2.2.2,.sl (.sl Y4) x0.2.1,.sl (.sl .i) x0.2.2])] ?_
  refine zS 4 [(1,.bp 1 0),(16,.bool false),(19,.cv (undef)),(20,.cv (undef))] [(1,.box 27 [.ii x0.1.1,.ii x0.1.2.1,.sl (.sl .i) x0.1.2.2.1,.sl (.sl .i) x0.1.2.2.2,.sl (.sl Y4) x0.2.1,.sl (.sl .i) x0.2.2])] ?_
  refine zS 5 [(1,.bp 1 0),(25,.bool false)] [(1,.box 27 [.ii x0.1.1,.ii x0.1.2.1,.sl (.sl .i) x0.1.2.2.1,.sl (.sl .i) x0.1.2.2.2,.sl (.sl Y4) x0.2.1,.sl (.sl .i) x0.2.2])] ?_
  refine zS 4 [(25,.bool false),(27,.cv (undef)),(29,.cv (undef))] [] ?_
  refine zB [(2,.bool false)] [] ?_
  refine AW.ret ?_
  obtain rfl:=zj h
  exact zR [] [] []
 refine zS 5 [(1,.bp 1 0),(11,.bool false)] [(1,.box 27 [.ii x0.1.1,.ii x0.1.2.1,.sl (.sl .i) x0.1.2.2.1,.sl (.sl .i) x0.1.2.2.2,.sl (.sl Y4) x0.2.1,.sl (.sl .i) x0.2.2])] ?_
 refine zS 5 [(1,.bp 1 0),(16,.bool false)] [(1,.box 27 [.ii x0.1.1,.ii x0.1.2.1,.sl (.sl .i) x0.1.2.2.1,.sl (.sl .i) x0.1.2.2.2,.sl (.sl Y4) x0.2.1,.sl (.sl .i) x0.2.2])] ?_
 refine zS 4 [(1,.bp 1 0),(16,.bool false),(19,.cv (undef)),(20,.cv (undef))] [(1,.box 27 [.ii x0.1.1,.ii x0.1.2.1,.sl (.sl .i) x0.1.2.2.1,.sl (.sl .i) x0.1.2.2.2,.sl (.sl Y4) x0.2.1,.sl (.sl .i) x0.2.2])] ?_
 refine zS 5 [(1,.bp 1 0),(25,.bool false)] [(1,.box 27 [.ii x0.1.1,.ii x0.1.2.1,.sl (.sl .i) x0.1.2.2.1,.sl (.sl .i) x0.1.2.2.2,.sl (.sl Y4) x0.2.1,.sl (.sl .i) x0.2.2])] ?_
 refine zS 4 [(25,.bool false),(27,.cv (undef)),(29,.cv (undef))] [] ?_
 refine zB [(2,.bool false)] [] ?_
 refine AW.ret ?_
 obtain rfl:=zj h
 exact zR [] [] []
theorem a2h (x0:(Int×Int×(List (List Int))×(List (List Int)))×(List (List (Int×Int×Int×Int)))×(List (List Int))) (picks:List Int) (steps:Int) {r:(List Int)×Bool×Bool} (h:F2 x0 picks steps=some r):HC Try.prog 42 [] [.agg [.ii x0.1.1,.ii x0.1.2.1,.sl (.sl .i) x0.1.2.2.1,.sl (.sl .i) x0.1.2.2.2,.sl (.sl Y4) x0.2.1,.sl (.sl .i) x0.2.2],.sl (.int .u8) picks,.ii steps] [(2000,.arr 3 .i r.1)] (.tup [.own 2000,.bool r.2.1,.bool r.2.2]):=by
 unfold F2 at h
 refine zH Try.func42 [.tmp 6,.tmp 7,.tmp 8] 81 ?_
 refine zo ?_
 refine zB [(1,.sl (.int .u8) picks),(2,.ii steps),(3,.bp 3 0),(6,.cv (.slice none 0 0))] [(3,.box 27 [.ii x0.1.1,.ii x0.1.2.1,.sl (.sl .i) x0.1.2.2.1,.sl (.sl .i) x0.1.2.2.2,.sl (.sl Y4) x0.2.1,.sl (.sl .i) x0.2.2])] ?_
 refine AW.have1 (fun b2_2:(List Int)=>G5 x0 b2_2=some r) (fun b2_2=>⟨fr [(3,.bp 3 0),(6,.own 65)],b6 [(3,.box 27 [.ii x0.1.1,.ii x0.1.2.1,.sl (.sl .i) x0.1.2.2.1,.sl (.sl .i) x0.1.2.2.2,.sl (.sl Y4) x0.2.1,.sl (.sl .i) x0.2.2]),(65,.arr 3 .i b2_2)],gt⟩) (fun b2_2 h=>?_) (fun hk_lineallaw08_schedule_k1=>?_)
 ·as_aux_lemma =>
   unfold G5 at h
   refine zo ?_
   refine zS 5 [(6,.own 65),(68,.sl (.sl Y4) x0.2.1),(70,.sl (.sl .i) x0.2.2),(71,.own 65)] [(65,.arr 3 .i b2_2)] ?_
   obtain ⟨v0_2,hv1,h⟩:=zw h
   refine zC [65] [] (a5a x0.2.1 x0.2.2 b2_2 hv1) [(6,.own 65),(72,.tup [.own 82000,.ii v0_2.2])] [(65,.arr 3 .i b2_2),(82000,.arr 3 .i v0_2.1)] ?_
   refine zB [(6,.own 65),(13,.own 82000),(14,.ii v0_2.2)] [(65,.arr 3 .i b2_2),(82000,.arr 3 .i v0_2.1)] ?_
   refine zo ?_
   refine zS 5 [(75,.own 65),(78,.bool (decide ((v0_2.1.length:Int)=0))),(79,.ii v0_2.2)] [(65,.arr 3 .i b2_2)] ?_
   refine zB [(6,.own 65),(7,.bool (decide ((v0_2.1.length:Int)=0))),(8,.bool (decide (v0_2.2=0)))] [(65,.arr 3 .i b2_2)] ?_
   refine AW.ret ?_
   obtain rfl:=zj h
   exact zR [] [] [(2000,65)]
 refine AW.seq ?_
 refine zo ?_
 refine zB [(1,.sl (.int .u8) picks),(2,.ii steps),(3,.bp 3 0),(6,.cv (.slice none 0 0)),(9,.ii 0)] [(3,.box 27 [.ii x0.1.1,.ii x0.1.2.1,.sl (.sl .i) x0.1.2.2.1,.sl (.sl .i) x0.1.2.2.2,.sl (.sl Y4) x0.2.1,.sl (.sl .i) x0.2.2])] ?_
 refine AW.block ?_
 obtain ⟨rv6,hw2,ho3⟩:=zw h
 refine AW.loopO (i8 x0 picks steps) (fun st1=>⟨fr [(1,.sl (.int .u8) picks),(2,.ii steps),(3,.bp 3 0),(6,.own 65),(9,.ii st1.2)],b6 [(3,.box 27 [.ii x0.1.1,.ii x0.1.2.1,.sl (.sl .i) x0.1.2.2.1,.sl (.sl .i) x0.1.2.2.2,.sl (.sl Y4) x0.2.1,.sl (.sl .i) x0.2.2]),(65,.arr 3 .i st1.1)],gt⟩) ([],0) hw2 (zL [] [65] []) ?_
 as_aux_lemma =>
  intro st1 x5 h hd4
  unfold i8 at h
  refine AW.seq ?_
  refine zo ?_
  refine zB [(1,.sl (.int .u8) picks),(2,.ii steps),(3,.bp 3 0),(6,.own 65),(9,.ii st1.2),(17,.bool (decide (st1.2<steps)))] [(3,.box 27 [.ii x0.1.1,.ii x0.1.2.1,.sl (.sl .i) x0.1.2.2.1,.sl (.sl .i) x0.1.2.2.2,.sl (.sl Y4) x0.2.1,.sl (.sl .i) x0.2.2]),(65,.arr 3 .i st1.1)] ?_
  refine zQ h (fun hb7 h=>?_) (fun hb7 h=>?_)
  ·refine zk ?_
   refine AW.seq ?_
   refine AW.block ?_
   refine zo ?_
   refine zS 5 [(1,.sl (.int .u8) picks),(2,.ii steps),(3,.bp 3 0),(6,.own 65),(9,.ii st1.2),(22,.sl (.sl Y4) x0.2.1),(24,.sl (.sl .i) x0.2.2),(25,.own 65)] [(3,.box 27 [.ii x0.1.1,.ii x0.1.2.1,.sl (.sl .i) x0.1.2.2.1,.sl (.sl .i) x0.1.2.2.2,.sl (.sl Y4) x0.2.1,.sl (.sl .i) x0.2.2]),(65,.arr 3 .i st1.1)] ?_
   obtain ⟨v0,hv8,h⟩:=zw h
   refine zC [65] [] (a5a x0.2.1 x0.2.2 st1.1 hv8) [(1,.sl (.int .u8) picks),(2,.ii steps),(3,.bp 3 0),(6,.own 65),(9,.ii st1.2),(26,.tup [.own 36000,.ii v0.2])] [(3,.box 27 [.ii x0.1.1,.ii x0.1.2.1,.sl (.sl .i) x0.1.2.2.1,.sl (.sl .i) x0.1.2.2.2,.sl (.sl Y4) x0.2.1,.sl (.sl .i) x0.2.2]),(65,.arr 3 .i st1.1),(36000,.arr 3 .i v0.1)] ?_
   refine zB [(1,.sl (.int .u8) picks),(2,.ii steps),(3,.bp 3 0),(6,.own 65),(9,.ii st1.2),(10,.own 36000),(11,.ii v0.2)] [(3,.box 27 [.ii x0.1.1,.ii x0.1.2.1,.sl (.sl .i) x0.1.2.2.1,.sl (.sl .i) x0.1.2.2.2,.sl (.sl Y4) x0.2.1,.sl (.sl .i) x0.2.2]),(65,.arr 3 .i st1.1),(36000,.arr 3 .i v0.1)] ?_
   refine AW.seq ?_
   refine zo ?_
   refine zB [(1,.sl (.int .u8) picks),(2,.ii steps),(3,.bp 3 0),(6,.own 65),(9,.ii st1.2),(10,.own 36000),(30,.bool (!(decide (v0.2=0))))] [(3,.box 27 [.ii x0.1.1,.ii x0.1.2.1,.sl (.sl .i) x0.1.2.2.1,.sl (.sl .i) x0.1.2.2.2,.sl (.sl Y4) x0.2.1,.sl (.sl .i) x0.2.2]),(65,.arr 3 .i st1.1),(36000,.arr 3 .i v0.1)] ?_
   refine zQ h (fun hb9 h=>?_) (fun hb9 h=>?_)
   ·refine zo ?_
    refine zB [(6,.cv (.slice none 0 0)),(7,.bool false),(8,.bool false)] [] ?_
    refine zr ?_
    refine d7 ?_
    refine b9 ?_
    obtain rfl:=zj h
    rw [← hd4 _ rfl] at ho3
    have h:=ho3
    try simp only at h
    refine b9 ?_
    refine d7 ?_
    refine b9 ?_
    obtain rfl:=zj h
    exact zR [] [2000] []
   refine zk ?_
   refine AW.seq ?_
   refine zo ?_
   refine zB [(1,.sl (.int .u8) picks),(2,.ii steps),(3,.bp 3 0),(6,.own 65),(9,.ii st1.2),(10,.own 36000),(33,.bool (decide ((v0.1.length:Int)=0)))] [(3,.box 27 [.ii x0.1.1,.ii x0.1.2.1,.sl (.sl .i) x0.1.2.2.1,.sl (.sl .i) x0.1.2.2.2,.sl (.sl Y4) x0.2.1,.sl (.sl .i) x0.2.2]),(65,.arr 3 .i st1.1),(36000,.arr 3 .i v0.1)] ?_
   refine zQ h (fun hb10 h=>?_) (fun hb10 h=>?_)
   ·refine zo ?_
    refine zB [(6,.own 65),(7,.bool true),(8,.bool true)] [(65,.arr 3 .i st1.1)] ?_
    refine zr ?_
    refine d7 ?_
    refine b9 ?_
    obtain rfl:=zj h
    rw [← hd4 _ rfl] at ho3
    have h:=ho3
    try simp only at h
    refine b9 ?_
    refine d7 ?_
    refine b9 ?_
    obtain rfl:=zj h
    exact zR [] [] [(2000,65)]
   refine zk ?_
   refine zo ?_
   obtain ⟨c11,h⟩:=b5.1 h
   refine zB [(1,.sl (.int .u8) picks),(2,.ii steps),(3,.bp 3 0),(6,.own 65),(9,.ii st1.2),(10,.own 36000),(12,.ii (v0.1.getD 0 0))] [(3,.box 27 [.ii x0.1.1,.ii x0.1.2.1,.sl (.sl .i) x0.1.2.2.1,.sl (.sl .i) x0.1.2.2.2,.sl (.sl Y4) x0.2.1,.sl (.sl .i) x0.2.2]),(65,.arr 3 .i st1.1),(36000,.arr 3 .i v0.1)] ?_
   refine AW.have1 (fun b2:Int=>u7 x0 st1 b2=some x5) (fun b2=>⟨fr [(1,.sl (.int .u8) picks),(2,.ii steps),(3,.bp 3 0),(6,.own 65),(9,.ii st1.2),(12,.ii b2)],b6 [(3,.box 27 [.ii x0.1.1,.ii x0.1.2.1,.sl (.sl .i) x0.1.2.2.1,.sl (.sl .i) x0.1.2.2.2,.sl (.sl Y4) x0.2.1,.sl (.sl .i) x0.2.2]),(65,.arr 3 .i st1.1)],gt⟩) (fun b2 h=>?_) (fun hk_lineallaw08_schedule_k2=>?_)
   ·as_aux_lemma =>
     unfold u7 at h
     refine AW.seq ?_
     refine zo ?_
     refine zS 3 [(1,.sl (.int .u8) picks),(2,.ii steps),(3,.bp 3 0),(6,.own 65),(9,.ii st1.2),(12,.ii b2),(55,.bool (decide (b2<0)))] [(3,.box 27 [.ii x0.1.1,.ii x0.1.2.1,.sl (.sl .i) x0.1.2.2.1,.sl (.sl .i) x0.1.2.2.2,.sl (.sl Y4) x0.2.1,.sl (.sl .i) x0.2.2]),(65,.arr 3 .i st1.1)] ?_
     rcases zI h with ⟨hb12,h⟩|⟨hb12,h⟩
     ·refine zS 4 [(1,.sl (.int .u8) picks),(2,.ii steps),(3,.bp 3 0),(6,.own 65),(9,.ii st1.2),(12,.ii b2),(55,.bool true),(56,.cv (undef)),(59,.cv (undef))] [(3,.box 27 [.ii x0.1.1,.ii x0.1.2.1,.sl (.sl .i) x0.1.2.2.1,.sl (.sl .i) x0.1.2.2.2,.sl (.sl Y4) x0.2.1,.sl (.sl .i) x0.2.2]),(65,.arr 3 .i st1.1)] ?_
      refine zB [(1,.sl (.int .u8) picks),(2,.ii steps),(3,.bp 3 0),(6,.own 65),(9,.ii st1.2),(12,.ii b2),(61,.bool true)] [(3,.box 27 [.ii x0.1.1,.ii x0.1.2.1,.sl (.sl .i) x0.1.2.2.1,.sl (.sl .i) x0.1.2.2.2,.sl (.sl Y4) x0.2.1,.sl (.sl .i) x0.2.2]),(65,.arr 3 .i st1.1)] ?_
      refine AW.cond (b:=true) rfl (fun _=>?_) (fun hb13=>by cases hb13)
      refine zo ?_
      refine zB [(6,.cv (.slice none 0 0)),(7,.bool false),(8,.bool false)] [] ?_
      refine zr ?_
      refine d7 ?_
      refine b9 ?_
      obtain rfl:=zj h
      rw [← hd4 _ rfl] at ho3
      have h:=ho3
      try simp only at h
      refine b9 ?_
      refine d7 ?_
      refine b9 ?_
      obtain rfl:=zj h
      exact zR [] [2000] []
     refine zS 5 [(1,.sl (.int .u8) picks),(2,.ii steps),(3,.bp 3 0),(6,.own 65),(9,.ii st1.2),(12,.ii b2),(55,.bool false),(60,.bool (decide ((x0.2.2.length:Int)≤b2)))] [(3,.box 27 [.ii x0.1.1,.ii x0.1.2.1,.sl (.sl .i) x0.1.2.2.1,.sl (.sl .i) x0.1.2.2.2,.sl (.sl Y4) x0.2.1,.sl (.sl .i) x0.2.2]),(65,.arr 3 .i st1.1)] ?_
     refine zB [(1,.sl (.int .u8) picks),(2,.ii steps),(3,.bp 3 0),(6,.own 65),(9,.ii st1.2),(12,.ii b2),(61,.bool (decide ((x0.2.2.length:Int)≤b2)))] [(3,.box 27 [.ii x0.1.1,.ii x0.1.2.1,.sl (.sl .i) x0.1.2.2.1,.sl (.sl .i) x0.1.2.2.2,.sl (.sl Y4) x0.2.1,.sl (.sl .i) x0.2.2]),(65,.arr 3 .i st1.1)] ?_
     refine zQ h (fun hb14 h=>?_) (fun hb14 h=>?_)
     ·refine zo ?_
      refine zB [(6,.cv (.slice none 0 0)),(7,.bool false),(8,.bool false)] [] ?_
      refine zr ?_
      refine d7 ?_
      refine b9 ?_
      obtain rfl:=zj h
      rw [← hd4 _ rfl] at ho3
      have h:=ho3
      try simp only at h
      refine b9 ?_
      refine d7 ?_
      refine b9 ?_
      obtain rfl:=zj h
      exact zR [] [2000] []
     refine zk ?_
     refine AW.ops ?_
     obtain ⟨c15,h⟩:=b5.1 h
     refine zA [(1,.sl (.int .u8) picks),(2,.ii steps),(3,.bp 3 0),(6,.own 65),(9,.ii st1.2)] [(3,.box 27 [.ii x0.1.1,.ii x0.1.2.1,.sl (.sl .i) x0.1.2.2.1,.sl (.sl .i) x0.1.2.2.2,.sl (.sl Y4) x0.2.1,.sl (.sl .i) x0.2.2]),(65,.arr 3 .i (st1.1++[b2]))] ?_
     refine p6 ?_
     refine g5 ?_
     refine AW.ops ?_
     obtain ⟨c16,h⟩:=b5.1 h
     refine zA [(1,.sl (.int .u8) picks),(2,.ii steps),(3,.bp 3 0),(6,.own 65),(9,.ii (st1.2+1))] [(3,.box 27 [.ii x0.1.1,.ii x0.1.2.1,.sl (.sl .i) x0.1.2.2.1,.sl (.sl .i) x0.1.2.2.2,.sl (.sl Y4) x0.2.1,.sl (.sl .i) x0.2.2]),(65,.arr 3 .i (st1.1++[b2]))] ?_
     obtain rfl:=zj h
     exact ⟨_,rfl,zL [] [] []⟩
   refine AW.seq ?_
   refine zo ?_
   refine zB [(1,.sl (.int .u8) picks),(2,.ii steps),(3,.bp 3 0),(6,.own 65),(9,.ii st1.2),(10,.own 36000),(12,.ii (v0.1.getD 0 0)),(41,.bool (decide (st1.2<(picks.length:Int))))] [(3,.box 27 [.ii x0.1.1,.ii x0.1.2.1,.sl (.sl .i) x0.1.2.2.1,.sl (.sl .i) x0.1.2.2.2,.sl (.sl Y4) x0.2.1,.sl (.sl .i) x0.2.2]),(65,.arr 3 .i st1.1),(36000,.arr 3 .i v0.1)] ?_
   refine zQ h (fun hb17 h=>?_) (fun hb17 h=>?_)
   ·refine AW.ops ?_
    obtain ⟨c18,h⟩:=b5.1 h
    obtain ⟨c19,h⟩:=b5.1 h
    refine zS 5 [(1,.sl (.int .u8) picks),(2,.ii steps),(3,.bp 3 0),(6,.own 65),(9,.ii st1.2),(10,.own 36000),(42,.own 36000),(46,.int .u8 (picks.getD st1.2.toNat 0))] [(3,.box 27 [.ii x0.1.1,.ii x0.1.2.1,.sl (.sl .i) x0.1.2.2.1,.sl (.sl .i) x0.1.2.2.2,.sl (.sl Y4) x0.2.1,.sl (.sl .i) x0.2.2]),(65,.arr 3 .i st1.1),(36000,.arr 3 .i v0.1)] ?_
    obtain ⟨c20,h⟩:=b5.1 h
    obtain ⟨c21,h⟩:=b5.1 h
    obtain ⟨c22,h⟩:=b5.1 h
    obtain ⟨c23,h⟩:=b5.1 h
    obtain ⟨c24,h⟩:=b5.1 h
    refine zS 5 [(1,.sl (.int .u8) picks),(2,.ii steps),(3,.bp 3 0),(6,.own 65),(9,.ii st1.2),(51,.ap 36000 1 ((picks.getD st1.2.toNat 0) % (v0.1.length:Int)).toNat 0)] [(3,.box 27 [.ii x0.1.1,.ii x0.1.2.1,.sl (.sl .i) x0.1.2.2.1,.sl (.sl .i) x0.1.2.2.2,.sl (.sl Y4) x0.2.1,.sl (.sl .i) x0.2.2]),(65,.arr 3 .i st1.1),(36000,.arr 3 .i v0.1)] ?_
    refine zB [(1,.sl (.int .u8) picks),(2,.ii steps),(3,.bp 3 0),(6,.own 65),(9,.ii st1.2),(12,.ii (v0.1.getD ((picks.getD st1.2.toNat 0) % (v0.1.length:Int)).toNat 0))] [(3,.box 27 [.ii x0.1.1,.ii x0.1.2.1,.sl (.sl .i) x0.1.2.2.1,.sl (.sl .i) x0.1.2.2.2,.sl (.sl Y4) x0.2.1,.sl (.sl .i) x0.2.2]),(65,.arr 3 .i st1.1)] ?_
    have hj:=hk_lineallaw08_schedule_k2 _ h
    exact AW.weaken (zL [] [] []) hj
   refine zk ?_
   have hj:=hk_lineallaw08_schedule_k2 _ h
   exact AW.weaken (zL [] [] []) hj
  refine AW.exit ?_
  refine i6 ?_
  obtain rfl:=zj h
  rw [← hd4 _ rfl] at ho3
  have h:=ho3
  try simp only at h
  refine i6 ?_
  refine m7 ?_
  refine g5 ?_
  have hj:=hk_lineallaw08_schedule_k1 _ h
  exact AW.weaken (zL [] [] []) hj
theorem G9 (n:Int) (least:Int) (most:Int) {r:Bool} (h:y7 n least most=some r):HC Try.prog 99 [] [.ii n,.ii least,.ii most] [] (.bool r):=by
 unfold y7 at h
 refine zH Try.func99 [.tmp 6] 15 ?_
 refine zo ?_
 refine zB [(0,.ii n),(1,.ii least),(2,.ii most)] [] ?_
 refine zo ?_
 refine zS 4 [(0,.ii n),(2,.ii most),(10,.bool (decide (least≤n)))] [] ?_
 rcases zI h with ⟨hb1,h⟩|⟨hb1,h⟩
 ·refine zB [(6,.bool (decide (n≤most)))] [] ?_
  refine AW.ret ?_
  obtain rfl:=zj h
  exact zR [] [] []
 refine zB [(6,.bool false)] [] ?_
 refine AW.ret ?_
 obtain rfl:=zj h
 exact zR [] [] []
end Go.Proofs.Ytenchhmcjmjlbaa
