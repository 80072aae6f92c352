import Derived.Test.YtanaeefeggokkaaGreatCkp
import Derived.Test.YtanaeefeggokkaaGreatShk
namespace Go.Proofs.YtanaeefeggokkaaGreat
open Go.RowKit
set_option linter.unusedSimpArgs false
set_option linter.unusedVariables false
set_option linter.constructorNameAsVariable false
set_option maxRecDepth 100000
set_option maxHeartbeats 40000000
theorem a4i (specs:ZS) {r:Bool} (h:P0 specs=some r):HC Tryz.prog 27 [] [.sl Y3 specs] [] (.bool r):=by
 unfold P0 at h;refine zH Tryz.func27 [.tmp 2] 58 ?_;refine zo ?_;refine zB [(0,.sl Y3 specs)] [] ?_;refine AW.have1 (fun _:Unit=>U7 specs=some r) (fun _=>⟨fr [(0,.sl Y3 specs)],b6 [],gt⟩) (fun _ h=>?_) (fun hk_lineallaw02_Large_k1=>?_)
 ·as_aux_lemma =>
   unfold U7 at h;refine zo ?_;refine zB [(2,.bool (decide (5<(specs.length:Int))))] [] ?_;refine AW.ret ?_;obtain rfl:=zj h;exact zR [] [] []
 refine AW.seq ?_;refine zo ?_;refine zB [(0,.sl Y3 specs),(3,.ii 0)] [] ?_;refine AW.block ?_;obtain ⟨rv5,hw1,ho2⟩:=zw h;refine AW.loopO (C0 specs) (fun st1=>⟨fr [(0,.sl Y3 specs),(3,.ii st1)],b6 [],gt⟩) 0 hw1 (zL [] [] []) ?_
 as_aux_lemma =>
  intro st1 x4 h hd3;unfold C0 at h;refine AW.seq ?_;refine zo ?_;refine zB [(0,.sl Y3 specs),(3,.ii st1),(10,.bool (decide (st1<(specs.length:Int))))] [] ?_;refine zQ h (fun hb6 h=>?_) (fun hb6 h=>?_)
  ·refine zk ?_;refine AW.have1 (fun _:Unit=>O9 st1=some x4) (fun _=>⟨fr [(0,.sl Y3 specs),(3,.ii st1)],b6 [],gt⟩) (fun _ h=>?_) (fun hk_lineallaw02_Large_k2=>?_)
   ·as_aux_lemma =>
     unfold O9 at h;refine AW.ops ?_;obtain ⟨c7,h⟩:=b4.1 h;refine zA [(0,.sl Y3 specs),(3,.ii (st1+1))] [] ?_;obtain rfl:=zj h;exact ⟨_,rfl,zL [] [] []⟩
   refine AW.seq ?_;refine AW.block ?_;refine zo ?_;obtain ⟨c8,h⟩:=b4.1 h;obtain ⟨c9,h⟩:=b4.1 h;refine zS 5 [(0,.sl Y3 specs),(3,.ii st1),(4,.bp 4 0),(16,.agg [.ii (specs.getD st1.toNat (0,0,[],[])).1,.ii (specs.getD st1.toNat (0,0,[],[])).2.1,.sl (.sl .i) (specs.getD st1.toNat (0,0,[],[])).2.2.1,.sl (.sl .i) (specs.getD st1.toNat (0,0,[],[])).2.2.2])] [(4,.box 24 [.ii 0,.ii 0,.cv (.slice none 0 0),.cv (.slice none 0 0)])] ?_;refine zB [(0,.sl Y3 specs),(3,.ii st1),(4,.bp 4 0)] [(4,.box 24 [.ii (specs.getD st1.toNat (0,0,[],[])).1,.ii (specs.getD st1.toNat (0,0,[],[])).2.1,.sl (.sl .i) (specs.getD st1.toNat (0,0,[],[])).2.2.1,.sl (.sl .i) (specs.getD st1.toNat (0,0,[],[])).2.2.2])] ?_;refine AW.seq ?_;refine zo ?_;refine zS 5 [(0,.sl Y3 specs),(3,.ii st1),(4,.bp 4 0),(21,.bool (decide (20<((specs.getD st1.toNat (0,0,[],[])).2.2.1.length:Int))))] [(4,.box 24 [.ii (specs.getD st1.toNat (0,0,[],[])).1,.ii (specs.getD st1.toNat (0,0,[],[])).2.1,.sl (.sl .i) (specs.getD st1.toNat (0,0,[],[])).2.2.1,.sl (.sl .i) (specs.getD st1.toNat (0,0,[],[])).2.2.2])] ?_;rcases zI h with ⟨hb10,h⟩|⟨hb10,h⟩
   ·refine zS 4 [(0,.sl Y3 specs),(3,.ii st1),(4,.bp 4 0),(21,.bool true),(25,.cv (undef))] [(4,.box 24 [.ii (specs.getD st1.toNat (0,0,[],[])).1,.ii (specs.getD st1.toNat (0,0,[],[])).2.1,.sl (.sl .i) (specs.getD st1.toNat (0,0,[],[])).2.2.1,.sl (.sl .i) (specs.getD st1.toNat (0,0,[],[])).2.2.2])] ?_;refine zB [(0,.sl Y3 specs),(3,.ii st1),(4,.bp 4 0),(26,.bool true)] [(4,.box 24 [.ii (specs.getD st1.toNat (0,0,[],[])).1,.ii (specs.getD st1.toNat (0,0,[],[])).2.1,.sl (.sl .i) (specs.getD st1.toNat (0,0,[],[])).2.2.1,.sl (.sl .i) (specs.getD st1.toNat (0,0,[],[])).2.2.2])] ?_;refine AW.cond (b:=true) rfl (fun _=>?_) (fun hb11=>by cases hb11);refine zo ?_;refine zB [(2,.bool true)] [] ?_;refine zr ?_;refine d5 ?_;refine b9 ?_;obtain rfl:=zj h
    try rw [← hd3 _ rfl] at ho2
    have h:=ho2
    try simp only at h
    refine b9 ?_;refine d5 ?_;refine b9 ?_;obtain rfl:=zj h;exact zR [] [] []
   refine zB [(0,.sl Y3 specs),(3,.ii st1),(4,.bp 4 0),(26,.bool (decide (20<((specs.getD st1.toNat (0,0,[],[])).2.2.2.length:Int))))] [(4,.box 24 [.ii (specs.getD st1.toNat (0,0,[],[])).1,.ii (specs.getD st1.toNat (0,0,[],[])).2.1,.sl (.sl .i) (specs.getD st1.toNat (0,0,[],[])).2.2.1,.sl (.sl .i) (specs.getD st1.toNat (0,0,[],[])).2.2.2])] ?_;refine zQ h (fun hb12 h=>?_) (fun hb12 h=>?_)
   ·refine zo ?_;refine zB [(2,.bool true)] [] ?_;refine zr ?_;refine d5 ?_;refine b9 ?_;obtain rfl:=zj h
    try rw [← hd3 _ rfl] at ho2
    have h:=ho2
    try simp only at h
    refine b9 ?_;refine d5 ?_;refine b9 ?_;obtain rfl:=zj h;exact zR [] [] []
   refine zk ?_;refine AW.have1 (fun _:Unit=>O8 specs st1=some x4) (fun _=>⟨fr [(0,.sl Y3 specs),(3,.ii st1),(4,.bp 4 0)],b6 [(4,.box 24 [.ii (specs.getD st1.toNat (0,0,[],[])).1,.ii (specs.getD st1.toNat (0,0,[],[])).2.1,.sl (.sl .i) (specs.getD st1.toNat (0,0,[],[])).2.2.1,.sl (.sl .i) (specs.getD st1.toNat (0,0,[],[])).2.2.2])],gt⟩) (fun _ h=>?_) (fun hk_lineallaw02_Large_k3=>?_)
   ·as_aux_lemma =>
     unfold O8 at h;refine zo ?_;refine zB [(0,.sl Y3 specs),(3,.ii st1),(4,.bp 4 0),(6,.ii 0)] [(4,.box 24 [.ii (specs.getD st1.toNat (0,0,[],[])).1,.ii (specs.getD st1.toNat (0,0,[],[])).2.1,.sl (.sl .i) (specs.getD st1.toNat (0,0,[],[])).2.2.1,.sl (.sl .i) (specs.getD st1.toNat (0,0,[],[])).2.2.2])] ?_;refine AW.block ?_;obtain ⟨rv17,hw13,ho14⟩:=zw h;refine AW.loopO (B7 specs st1) (fun st3=>⟨fr [(0,.sl Y3 specs),(3,.ii st1),(4,.bp 4 0),(6,.ii st3)],b6 [(4,.box 24 [.ii (specs.getD st1.toNat (0,0,[],[])).1,.ii (specs.getD st1.toNat (0,0,[],[])).2.1,.sl (.sl .i) (specs.getD st1.toNat (0,0,[],[])).2.2.1,.sl (.sl .i) (specs.getD st1.toNat (0,0,[],[])).2.2.2])],gt⟩) 0 hw13 (zL [] [] []) ?_
     as_aux_lemma =>
      intro st3 x16 h hd15;unfold B7 at h;refine AW.seq ?_;refine zo ?_;refine zB [(0,.sl Y3 specs),(3,.ii st1),(4,.bp 4 0),(6,.ii st3),(45,.bool (decide (st3<((specs.getD st1.toNat (0,0,[],[])).2.2.2.length:Int))))] [(4,.box 24 [.ii (specs.getD st1.toNat (0,0,[],[])).1,.ii (specs.getD st1.toNat (0,0,[],[])).2.1,.sl (.sl .i) (specs.getD st1.toNat (0,0,[],[])).2.2.1,.sl (.sl .i) (specs.getD st1.toNat (0,0,[],[])).2.2.2])] ?_;refine zQ h (fun hb18 h=>?_) (fun hb18 h=>?_)
      ·refine zk ?_;refine AW.seq ?_;refine AW.block ?_;refine zo ?_;obtain ⟨c19,h⟩:=b4.1 h;obtain ⟨c20,h⟩:=b4.1 h;refine zS 5 [(0,.sl Y3 specs),(3,.ii st1),(4,.bp 4 0),(6,.ii st3),(52,.sl .i ((specs.getD st1.toNat (0,0,[],[])).2.2.2.getD st3.toNat []))] [(4,.box 24 [.ii (specs.getD st1.toNat (0,0,[],[])).1,.ii (specs.getD st1.toNat (0,0,[],[])).2.1,.sl (.sl .i) (specs.getD st1.toNat (0,0,[],[])).2.2.1,.sl (.sl .i) (specs.getD st1.toNat (0,0,[],[])).2.2.2])] ?_;refine zB [(0,.sl Y3 specs),(3,.ii st1),(4,.bp 4 0),(6,.ii st3),(54,.bool (decide (20<(((specs.getD st1.toNat (0,0,[],[])).2.2.2.getD st3.toNat []).length:Int))))] [(4,.box 24 [.ii (specs.getD st1.toNat (0,0,[],[])).1,.ii (specs.getD st1.toNat (0,0,[],[])).2.1,.sl (.sl .i) (specs.getD st1.toNat (0,0,[],[])).2.2.1,.sl (.sl .i) (specs.getD st1.toNat (0,0,[],[])).2.2.2])] ?_;refine zQ h (fun hb21 h=>?_) (fun hb21 h=>?_)
       ·refine zo ?_;refine zB [(2,.bool true)] [] ?_;refine AW.ret ?_;refine d5 ?_;refine b9 ?_;obtain rfl:=zj h
        try rw [← hd15 _ rfl] at ho14
        have h:=ho14
        try simp only at h
        refine b9 ?_;refine d5 ?_;refine d5 ?_;refine b9 ?_;obtain rfl:=zj h
        try rw [← hd3 _ rfl] at ho2
        have h:=ho2
        try simp only at h
        refine b9 ?_;refine d5 ?_;refine b9 ?_;obtain rfl:=zj h;exact zR [] [] []
       refine zm ?_;refine f7 ?_;refine AW.ops ?_;obtain ⟨c22,h⟩:=b4.1 h;refine zA [(0,.sl Y3 specs),(3,.ii st1),(4,.bp 4 0),(6,.ii (st3+1))] [(4,.box 24 [.ii (specs.getD st1.toNat (0,0,[],[])).1,.ii (specs.getD st1.toNat (0,0,[],[])).2.1,.sl (.sl .i) (specs.getD st1.toNat (0,0,[],[])).2.2.1,.sl (.sl .i) (specs.getD st1.toNat (0,0,[],[])).2.2.2])] ?_;obtain rfl:=zj h;exact ⟨_,rfl,zL [] [] []⟩
      refine AW.exit ?_;refine g4 ?_;obtain rfl:=zj h
      try rw [← hd15 _ rfl] at ho14
      have h:=ho14
      try simp only at h
      refine g4 ?_;refine j5 ?_;refine l8 ?_;refine f7 ?_;exact AW.weaken (zL [] [] []) (hk_lineallaw02_Large_k2 () h)
   refine AW.seq ?_;refine zo ?_;refine zB [(0,.sl Y3 specs),(3,.ii st1),(4,.bp 4 0),(5,.ii 0)] [(4,.box 24 [.ii (specs.getD st1.toNat (0,0,[],[])).1,.ii (specs.getD st1.toNat (0,0,[],[])).2.1,.sl (.sl .i) (specs.getD st1.toNat (0,0,[],[])).2.2.1,.sl (.sl .i) (specs.getD st1.toNat (0,0,[],[])).2.2.2])] ?_;refine AW.block ?_;obtain ⟨rv27,hw23,ho24⟩:=zw h;refine AW.loopO (B8 specs st1) (fun st2=>⟨fr [(0,.sl Y3 specs),(3,.ii st1),(4,.bp 4 0),(5,.ii st2)],b6 [(4,.box 24 [.ii (specs.getD st1.toNat (0,0,[],[])).1,.ii (specs.getD st1.toNat (0,0,[],[])).2.1,.sl (.sl .i) (specs.getD st1.toNat (0,0,[],[])).2.2.1,.sl (.sl .i) (specs.getD st1.toNat (0,0,[],[])).2.2.2])],gt⟩) 0 hw23 (zL [] [] []) ?_
   as_aux_lemma =>
    intro st2 x26 h hd25;unfold B8 at h;refine AW.seq ?_;refine zo ?_;refine zB [(0,.sl Y3 specs),(3,.ii st1),(4,.bp 4 0),(5,.ii st2),(31,.bool (decide (st2<((specs.getD st1.toNat (0,0,[],[])).2.2.1.length:Int))))] [(4,.box 24 [.ii (specs.getD st1.toNat (0,0,[],[])).1,.ii (specs.getD st1.toNat (0,0,[],[])).2.1,.sl (.sl .i) (specs.getD st1.toNat (0,0,[],[])).2.2.1,.sl (.sl .i) (specs.getD st1.toNat (0,0,[],[])).2.2.2])] ?_;refine zQ h (fun hb28 h=>?_) (fun hb28 h=>?_)
    ·refine zk ?_;refine AW.seq ?_;refine AW.block ?_;refine zo ?_;obtain ⟨c29,h⟩:=b4.1 h;obtain ⟨c30,h⟩:=b4.1 h;refine zS 5 [(0,.sl Y3 specs),(3,.ii st1),(4,.bp 4 0),(5,.ii st2),(38,.sl .i ((specs.getD st1.toNat (0,0,[],[])).2.2.1.getD st2.toNat []))] [(4,.box 24 [.ii (specs.getD st1.toNat (0,0,[],[])).1,.ii (specs.getD st1.toNat (0,0,[],[])).2.1,.sl (.sl .i) (specs.getD st1.toNat (0,0,[],[])).2.2.1,.sl (.sl .i) (specs.getD st1.toNat (0,0,[],[])).2.2.2])] ?_;refine zB [(0,.sl Y3 specs),(3,.ii st1),(4,.bp 4 0),(5,.ii st2),(40,.bool (decide (20<(((specs.getD st1.toNat (0,0,[],[])).2.2.1.getD st2.toNat []).length:Int))))] [(4,.box 24 [.ii (specs.getD st1.toNat (0,0,[],[])).1,.ii (specs.getD st1.toNat (0,0,[],[])).2.1,.sl (.sl .i) (specs.getD st1.toNat (0,0,[],[])).2.2.1,.sl (.sl .i) (specs.getD st1.toNat (0,0,[],[])).2.2.2])] ?_;refine zQ h (fun hb31 h=>?_) (fun hb31 h=>?_)
     ·refine zo ?_;refine zB [(2,.bool true)] [] ?_;refine AW.ret ?_;refine d5 ?_;refine b9 ?_;obtain rfl:=zj h
      try rw [← hd25 _ rfl] at ho24
      have h:=ho24
      try simp only at h
      refine b9 ?_;refine d5 ?_;refine b9 ?_;refine d5 ?_;refine b9 ?_;obtain rfl:=zj h
      try rw [← hd3 _ rfl] at ho2
      have h:=ho2
      try simp only at h
      refine b9 ?_;refine d5 ?_;refine b9 ?_;obtain rfl:=zj h;exact zR [] [] []
     refine zm ?_;refine f7 ?_;refine AW.ops ?_;obtain ⟨c32,h⟩:=b4.1 h;refine zA [(0,.sl Y3 specs),(3,.ii st1),(4,.bp 4 0),(5,.ii (st2+1))] [(4,.box 24 [.ii (specs.getD st1.toNat (0,0,[],[])).1,.ii (specs.getD st1.toNat (0,0,[],[])).2.1,.sl (.sl .i) (specs.getD st1.toNat (0,0,[],[])).2.2.1,.sl (.sl .i) (specs.getD st1.toNat (0,0,[],[])).2.2.2])] ?_;obtain rfl:=zj h;exact ⟨_,rfl,zL [] [] []⟩
    refine AW.exit ?_;refine g4 ?_;obtain rfl:=zj h
    try rw [← hd25 _ rfl] at ho24
    have h:=ho24
    try simp only at h
    refine g4 ?_;refine j5 ?_;refine f7 ?_;exact AW.weaken (zL [] [] []) (hk_lineallaw02_Large_k3 () h)
  refine AW.exit ?_;refine g4 ?_;obtain rfl:=zj h
  try rw [← hd3 _ rfl] at ho2
  have h:=ho2
  try simp only at h
  refine g4 ?_;refine j5 ?_;refine f7 ?_;exact AW.weaken (zL [] [] []) (hk_lineallaw02_Large_k1 () h)
theorem a4h (x0:(Int×Int×(List (List Int))×(List (List Int)))×(List (List (Int×Int×Int×Int)))×(List (List Int))) {r:Bool} (h:O7 x0=some r):HC Tryz.prog 7 [] [.agg [.ii x0.1.1,.ii x0.1.2.1,.sl (.sl .i) x0.1.2.2.1,.sl (.sl .i) x0.1.2.2.2,.sl (.sl Y4) x0.2.1,.sl (.sl .i) x0.2.2]] [] (.bool r):=by
 unfold O7 at h;refine zH Tryz.func7 [.tmp 2] 49 ?_;refine zo ?_;refine zB [(1,.bp 1 0)] [(1,.box 27 [.ii x0.1.1,.ii x0.1.2.1,.sl (.sl .i) x0.1.2.2.1,.sl (.sl .i) x0.1.2.2.2,.sl (.sl Y4) x0.2.1,.sl (.sl .i) x0.2.2])] ?_;refine AW.have1 (fun _:Unit=>O6 x0=some r) (fun _=>⟨fr [(1,.bp 1 0)],b6 [(1,.box 27 [.ii x0.1.1,.ii x0.1.2.1,.sl (.sl .i) x0.1.2.2.1,.sl (.sl .i) x0.1.2.2.2,.sl (.sl Y4) x0.2.1,.sl (.sl .i) x0.2.2])],gt⟩) (fun _ h=>?_) (fun hk_lineallaw08_Large_k1=>?_)
 ·as_aux_lemma =>
   unfold O6 at h;refine AW.have1 (fun _:Unit=>O5 x0=some r) (fun _=>⟨fr [(1,.bp 1 0)],b6 [(1,.box 27 [.ii x0.1.1,.ii x0.1.2.1,.sl (.sl .i) x0.1.2.2.1,.sl (.sl .i) x0.1.2.2.2,.sl (.sl Y4) x0.2.1,.sl (.sl .i) x0.2.2])],gt⟩) (fun _ h=>?_) (fun hk_lineallaw08_Large_k2=>?_)
   ·as_aux_lemma =>
     unfold O5 at h;refine zo ?_;refine zS 3 [(1,.bp 1 0),(35,.own 35)] [(1,.box 27 [.ii x0.1.1,.ii x0.1.2.1,.sl (.sl .i) x0.1.2.2.1,.sl (.sl .i) x0.1.2.2.2,.sl (.sl Y4) x0.2.1,.sl (.sl .i) x0.2.2]),(35,.arr 24 Y3 [x0.1])] ?_;obtain ⟨v0,hv1,h⟩:=zw h;refine zC [35] [] (a4i [x0.1] hv1) [(1,.bp 1 0),(36,.bool v0)] [(1,.box 27 [.ii x0.1.1,.ii x0.1.2.1,.sl (.sl .i) x0.1.2.2.1,.sl (.sl .i) x0.1.2.2.2,.sl (.sl Y4) x0.2.1,.sl (.sl .i) x0.2.2])] ?_;refine zS 1 [(1,.bp 1 0),(37,.bool v0)] [(1,.box 27 [.ii x0.1.1,.ii x0.1.2.1,.sl (.sl .i) x0.1.2.2.1,.sl (.sl .i) x0.1.2.2.2,.sl (.sl Y4) x0.2.1,.sl (.sl .i) x0.2.2])] ?_;rcases zI h with ⟨hb2,h⟩|⟨hb2,h⟩
     ·refine zS 4 [(1,.bp 1 0),(37,.bool true),(41,.cv (undef))] [(1,.box 27 [.ii x0.1.1,.ii x0.1.2.1,.sl (.sl .i) x0.1.2.2.1,.sl (.sl .i) x0.1.2.2.2,.sl (.sl Y4) x0.2.1,.sl (.sl .i) x0.2.2])] ?_;refine zS 5 [(43,.bool true),(46,.cv (undef))] [] ?_;refine zB [(2,.bool true)] [] ?_;refine AW.ret ?_;obtain rfl:=zj h;exact zR [] [] []
     refine zS 5 [(1,.bp 1 0),(42,.bool (decide (10<(x0.2.1.length:Int))))] [(1,.box 27 [.ii x0.1.1,.ii x0.1.2.1,.sl (.sl .i) x0.1.2.2.1,.sl (.sl .i) x0.1.2.2.2,.sl (.sl Y4) x0.2.1,.sl (.sl .i) x0.2.2])] ?_;refine zS 1 [(1,.bp 1 0),(43,.bool (decide (10<(x0.2.1.length:Int))))] [(1,.box 27 [.ii x0.1.1,.ii x0.1.2.1,.sl (.sl .i) x0.1.2.2.1,.sl (.sl .i) x0.1.2.2.2,.sl (.sl Y4) x0.2.1,.sl (.sl .i) x0.2.2])] ?_;rcases zI h with ⟨hb3,h⟩|⟨hb3,h⟩
     ·refine zS 4 [(43,.bool true),(47,.cv (undef))] [] ?_;refine zB [(2,.bool true)] [] ?_;refine AW.ret ?_;obtain rfl:=zj h;exact zR [] [] []
     refine zS 5 [(48,.bool (decide (10<(x0.2.2.length:Int))))] [] ?_;refine zB [(2,.bool (decide (10<(x0.2.2.length:Int))))] [] ?_;refine AW.ret ?_;obtain rfl:=zj h;exact zR [] [] []
   refine AW.seq ?_;refine zo ?_;refine zB [(1,.bp 1 0),(4,.ii 0)] [(1,.box 27 [.ii x0.1.1,.ii x0.1.2.1,.sl (.sl .i) x0.1.2.2.1,.sl (.sl .i) x0.1.2.2.2,.sl (.sl Y4) x0.2.1,.sl (.sl .i) x0.2.2])] ?_;refine AW.block ?_;obtain ⟨rv8,hw4,ho5⟩:=zw h;refine AW.loopO (B5 x0) (fun st2=>⟨fr [(1,.bp 1 0),(4,.ii st2)],b6 [(1,.box 27 [.ii x0.1.1,.ii x0.1.2.1,.sl (.sl .i) x0.1.2.2.1,.sl (.sl .i) x0.1.2.2.2,.sl (.sl Y4) x0.2.1,.sl (.sl .i) x0.2.2])],gt⟩) 0 hw4 (zL [] [] []) ?_
   as_aux_lemma =>
    intro st2 x7 h hd6;unfold B5 at h;refine AW.seq ?_;refine zo ?_;refine zB [(1,.bp 1 0),(4,.ii st2),(23,.bool (decide (st2<(x0.2.2.length:Int))))] [(1,.box 27 [.ii x0.1.1,.ii x0.1.2.1,.sl (.sl .i) x0.1.2.2.1,.sl (.sl .i) x0.1.2.2.2,.sl (.sl Y4) x0.2.1,.sl (.sl .i) x0.2.2])] ?_;refine zQ h (fun hb9 h=>?_) (fun hb9 h=>?_)
    ·refine zk ?_;refine AW.seq ?_;refine AW.block ?_;refine zo ?_;obtain ⟨c10,h⟩:=b4.1 h;obtain ⟨c11,h⟩:=b4.1 h;refine zS 5 [(1,.bp 1 0),(4,.ii st2),(30,.sl .i (x0.2.2.getD st2.toNat []))] [(1,.box 27 [.ii x0.1.1,.ii x0.1.2.1,.sl (.sl .i) x0.1.2.2.1,.sl (.sl .i) x0.1.2.2.2,.sl (.sl Y4) x0.2.1,.sl (.sl .i) x0.2.2])] ?_;refine zB [(1,.bp 1 0),(4,.ii st2),(32,.bool (decide (20<((x0.2.2.getD st2.toNat []).length:Int))))] [(1,.box 27 [.ii x0.1.1,.ii x0.1.2.1,.sl (.sl .i) x0.1.2.2.1,.sl (.sl .i) x0.1.2.2.2,.sl (.sl Y4) x0.2.1,.sl (.sl .i) x0.2.2])] ?_;refine zQ h (fun hb12 h=>?_) (fun hb12 h=>?_)
     ·refine zo ?_;refine zB [(2,.bool true)] [] ?_;refine AW.ret ?_;refine d5 ?_;refine b9 ?_;obtain rfl:=zj h
      try rw [← hd6 _ rfl] at ho5
      have h:=ho5
      try simp only at h
      refine b9 ?_;refine d5 ?_;refine b9 ?_;obtain rfl:=zj h;exact zR [] [] []
     refine zm ?_;refine f7 ?_;refine AW.ops ?_;obtain ⟨c13,h⟩:=b4.1 h;refine zA [(1,.bp 1 0),(4,.ii (st2+1))] [(1,.box 27 [.ii x0.1.1,.ii x0.1.2.1,.sl (.sl .i) x0.1.2.2.1,.sl (.sl .i) x0.1.2.2.2,.sl (.sl Y4) x0.2.1,.sl (.sl .i) x0.2.2])] ?_;obtain rfl:=zj h;exact ⟨_,rfl,zL [] [] []⟩
    refine AW.exit ?_;refine g4 ?_;obtain rfl:=zj h
    try rw [← hd6 _ rfl] at ho5
    have h:=ho5
    try simp only at h
    refine g4 ?_;refine j5 ?_;refine f7 ?_;exact AW.weaken (zL [] [] []) (hk_lineallaw08_Large_k2 () h)
 refine AW.seq ?_;refine zo ?_;refine zB [(1,.bp 1 0),(3,.ii 0)] [(1,.box 27 [.ii x0.1.1,.ii x0.1.2.1,.sl (.sl .i) x0.1.2.2.1,.sl (.sl .i) x0.1.2.2.2,.sl (.sl Y4) x0.2.1,.sl (.sl .i) x0.2.2])] ?_;refine AW.block ?_;obtain ⟨rv18,hw14,ho15⟩:=zw h;refine AW.loopO (B6 x0) (fun st1=>⟨fr [(1,.bp 1 0),(3,.ii st1)],b6 [(1,.box 27 [.ii x0.1.1,.ii x0.1.2.1,.sl (.sl .i) x0.1.2.2.1,.sl (.sl .i) x0.1.2.2.2,.sl (.sl Y4) x0.2.1,.sl (.sl .i) x0.2.2])],gt⟩) 0 hw14 (zL [] [] []) ?_
 as_aux_lemma =>
  intro st1 x17 h hd16;unfold B6 at h;refine AW.seq ?_;refine zo ?_;refine zB [(1,.bp 1 0),(3,.ii st1),(9,.bool (decide (st1<(x0.2.1.length:Int))))] [(1,.box 27 [.ii x0.1.1,.ii x0.1.2.1,.sl (.sl .i) x0.1.2.2.1,.sl (.sl .i) x0.1.2.2.2,.sl (.sl Y4) x0.2.1,.sl (.sl .i) x0.2.2])] ?_;refine zQ h (fun hb19 h=>?_) (fun hb19 h=>?_)
  ·refine zk ?_;refine AW.seq ?_;refine AW.block ?_;refine zo ?_;obtain ⟨c20,h⟩:=b4.1 h;obtain ⟨c21,h⟩:=b4.1 h;refine zS 5 [(1,.bp 1 0),(3,.ii st1),(16,.sl Y4 (x0.2.1.getD st1.toNat []))] [(1,.box 27 [.ii x0.1.1,.ii x0.1.2.1,.sl (.sl .i) x0.1.2.2.1,.sl (.sl .i) x0.1.2.2.2,.sl (.sl Y4) x0.2.1,.sl (.sl .i) x0.2.2])] ?_;refine zB [(1,.bp 1 0),(3,.ii st1),(18,.bool (decide (30<((x0.2.1.getD st1.toNat []).length:Int))))] [(1,.box 27 [.ii x0.1.1,.ii x0.1.2.1,.sl (.sl .i) x0.1.2.2.1,.sl (.sl .i) x0.1.2.2.2,.sl (.sl Y4) x0.2.1,.sl (.sl .i) x0.2.2])] ?_;refine zQ h (fun hb22 h=>?_) (fun hb22 h=>?_)
   ·refine zo ?_;refine zB [(2,.bool true)] [] ?_;refine AW.ret ?_;refine d5 ?_;refine b9 ?_;obtain rfl:=zj h
    try rw [← hd16 _ rfl] at ho15
    have h:=ho15
    try simp only at h
    refine b9 ?_;refine d5 ?_;refine b9 ?_;obtain rfl:=zj h;exact zR [] [] []
   refine zm ?_;refine f7 ?_;refine AW.ops ?_;obtain ⟨c23,h⟩:=b4.1 h;refine zA [(1,.bp 1 0),(3,.ii (st1+1))] [(1,.box 27 [.ii x0.1.1,.ii x0.1.2.1,.sl (.sl .i) x0.1.2.2.1,.sl (.sl .i) x0.1.2.2.2,.sl (.sl Y4) x0.2.1,.sl (.sl .i) x0.2.2])] ?_;obtain rfl:=zj h;exact ⟨_,rfl,zL [] [] []⟩
  refine AW.exit ?_;refine g4 ?_;obtain rfl:=zj h
  try rw [← hd16 _ rfl] at ho15
  have h:=ho15
  try simp only at h
  refine g4 ?_;refine j5 ?_;refine f7 ?_;exact AW.weaken (zL [] [] []) (hk_lineallaw08_Large_k1 () h)
theorem a99 (l:Int×Int×Int×Int) {r:Int×Int} (h:a3e l=some r):HC Tryz.prog 160 [] [.agg [.ii l.1,.ii l.2.1,.ii l.2.2.1,.ii l.2.2.2]] [] (.agg [.ii l.1,.ii l.2.1,.ii r.1,.ii r.2]):=by
 unfold a3e at h;refine zH Tryz.func160 [.cell 2 60] 23 ?_;refine zo ?_;refine zB [(1,.bp 1 0),(2,.bp 2 0)] [(1,.box 60 [.ii l.1,.ii l.2.1,.ii l.2.2.1,.ii l.2.2.2]),(2,.box 60 [.ii 0,.ii 0,.ii 0,.ii 0])] ?_;refine zo ?_;refine zB [(1,.bp 1 0),(2,.bp 2 0),(4,.ii l.1)] [(1,.box 60 [.ii l.1,.ii l.2.1,.ii l.2.2.1,.ii l.2.2.2]),(2,.box 60 [.ii 0,.ii 0,.ii 0,.ii 0])] ?_;refine AW.block ?_;refine AW.seq ?_;refine zo ?_;refine zB [(1,.bp 1 0),(2,.bp 2 0),(4,.ii l.1),(12,.bool (decide (l.1=3)))] [(1,.box 60 [.ii l.1,.ii l.2.1,.ii l.2.2.1,.ii l.2.2.2]),(2,.box 60 [.ii 0,.ii 0,.ii 0,.ii 0])] ?_;refine zQ h (fun hb1 h=>?_) (fun hb1 h=>?_)
 ·refine zk ?_;refine zQ h (fun hb2 h=>?_) (fun hb2 h=>?_)
  ·refine zo ?_;refine zB [(2,.bp 2 0)] [(2,.box 60 [.ii l.1,.ii l.2.1,.ii l.2.2.1,.ii l.2.2.2])] ?_;refine AW.ret ?_;refine d5 ?_;obtain rfl:=zj h;exact zR [] [] []
  exact absurd (hb1.symm.trans hb2) (by decide)
 refine AW.ops ?_;refine zB [(1,.bp 1 0),(2,.bp 2 0),(4,.ii l.1),(12,.bool (decide (l.1=5)))] [(1,.box 60 [.ii l.1,.ii l.2.1,.ii l.2.2.1,.ii l.2.2.2]),(2,.box 60 [.ii 0,.ii 0,.ii 0,.ii 0])] ?_;refine zQ h (fun hb3 h=>?_) (fun hb3 h=>?_)
 ·refine zo ?_;refine zB [(2,.bp 2 0)] [(2,.box 60 [.ii l.1,.ii l.2.1,.ii l.2.2.1,.ii l.2.2.2])] ?_;refine AW.ret ?_;refine d5 ?_;obtain rfl:=zj h;exact zR [] [] []
 refine zo ?_;refine zB [(1,.bp 1 0),(2,.bp 2 0),(16,.bool (decide (l.1=7)))] [(1,.box 60 [.ii l.1,.ii l.2.1,.ii l.2.2.1,.ii l.2.2.2]),(2,.box 60 [.ii 0,.ii 0,.ii 0,.ii 0])] ?_;refine zQ h (fun hb4 h=>?_) (fun hb4 h=>?_)
 ·refine zo ?_;refine zS 5 [(2,.bp 2 0),(22,.agg [.ii l.1,.ii l.2.1,.ii 0,.ii 0])] [(2,.box 60 [.ii 0,.ii 0,.ii 0,.ii 0])] ?_;refine zB [(2,.bp 2 0)] [(2,.box 60 [.ii l.1,.ii l.2.1,.ii 0,.ii 0])] ?_;refine AW.ret ?_;refine d5 ?_;obtain rfl:=zj h;exact zR [] [] []
 refine zo ?_;refine zS 5 [(2,.bp 2 0),(6,.ii l.1),(8,.ii l.2.1),(9,.bp 1 2)] [(1,.box 60 [.ii l.1,.ii l.2.1,.ii l.2.2.1,.ii l.2.2.2]),(2,.box 60 [.ii 0,.ii 0,.ii 0,.ii 0])] ?_;refine zB [(2,.bp 2 0)] [(2,.box 60 [.ii l.1,.ii l.2.1,.ii l.2.2.1,.ii 0])] ?_;refine AW.ret ?_;refine d5 ?_;obtain rfl:=zj h;exact zR [] [] []
theorem D8 (number:Int) (end0:Int) {r:Bool} (h:z6 number end0=some r):HC Tryz.prog 67 [] [.ii number,.ii end0] [] (.bool r):=by
 unfold z6 at h;refine zH Tryz.func67 [.tmp 4] 12 ?_;refine zo ?_;refine zB [(0,.ii number),(1,.ii end0)] [] ?_;refine zo ?_;refine zS 3 [(0,.ii number),(1,.ii end0),(7,.bool (decide (0≤number)))] [] ?_;rcases zI h with ⟨hb1,h⟩|⟨hb1,h⟩
 ·refine zB [(4,.bool (decide (number<end0)))] [] ?_;refine AW.ret ?_;obtain rfl:=zj h;exact zR [] [] []
 refine zB [(4,.bool false)] [] ?_;refine AW.ret ?_;obtain rfl:=zj h;exact zR [] [] []
theorem o9 (register:Int) {r:Bool} (h:n6 register=some r):HC Tryz.prog 161 [] [.ii register] [] (.bool r):=by
 unfold n6 at h;refine zH Tryz.func161 [.tmp 2] 5 ?_;refine zo ?_;refine zB [(0,.ii register)] [] ?_;refine zo ?_;refine zS 1 [(3,.ii register)] [] ?_;obtain ⟨v0,hv1,h⟩:=zw h;refine zC [] [] (D8 register 4 hv1) [(4,.bool v0)] [] ?_;refine zB [(2,.bool v0)] [] ?_;refine AW.ret ?_;obtain rfl:=zj h;exact zR [] [] []
theorem a1V (cell:Int) {r:Bool} (h:V7 cell=some r):HC Tryz.prog 162 [] [.ii cell] [] (.bool r):=by
 unfold V7 at h;refine zH Tryz.func162 [.tmp 2] 5 ?_;refine zo ?_;refine zB [(0,.ii cell)] [] ?_;refine zo ?_;refine zS 1 [(3,.ii cell)] [] ?_;obtain ⟨v0,hv1,h⟩:=zw h;refine zC [] [] (D8 cell 3 hv1) [(4,.bool v0)] [] ?_;refine zB [(2,.bool v0)] [] ?_;refine AW.ret ?_;obtain rfl:=zj h;exact zR [] [] []
theorem a8m (l:Int×Int×Int×Int) (lines:Int) {r:Bool} (h:a1b l lines=some r):HC Tryz.prog 144 [] [.agg [.ii l.1,.ii l.2.1,.ii l.2.2.1,.ii l.2.2.2],.ii lines] [] (.bool r):=by
 unfold a1b at h;refine zH Tryz.func144 [.tmp 4] 87 ?_;refine zo ?_;refine zB [(1,.ii lines),(2,.bp 2 0)] [(2,.box 60 [.ii l.1,.ii l.2.1,.ii l.2.2.1,.ii l.2.2.2])] ?_;refine AW.seq ?_;refine AW.seq ?_;refine AW.drawTail m7 l7 3 [] [] (by decide) (by kernel_rfl) (by kernel_rfl) (by decide) ?_;dsimp only [List.take_succ_cons,List.take_zero];refine d7 2 (fun K' hK1=>?_)
 try dsimp only [y1,y2,y3,y4]
 simp only [go_sem]
 repeat with_reducible refine zN ?_
 refine hK1 _ ?_
 as_aux_lemma =>
  obtain ⟨v0,hv2,h⟩:=zw h;refine I6.call (by first|trivial|rfl) rfl rfl rfl (fun _ h=>h) [] [] (a99 l hv2) rfl (by (simp only [go_sem])<;>(with_reducible and_intros)<;>first|assumption|rfl|omega|(unfold maxLen; omega)) (by (simp only [go_sem])<;>(with_reducible and_intros)<;>first|assumption|rfl|omega|(unfold maxLen; omega)) rfl ?_;refine d7 0 (fun K' hK3=>?_)
  try dsimp only [y1,y2,y3,y4]
  simp only [go_sem]
  repeat with_reducible refine zN ?_
  refine hK3 _ ?_;refine g8 ?_;refine zT [(1,.ii lines),(2,.bp 2 0),(5,.agg [.ii l.1,.ii l.2.1,.ii l.2.2.1,.ii l.2.2.2]),(7,.agg [.ii l.1,.ii l.2.1,.ii v0.1,.ii v0.2])] [(2,.box 60 [.ii l.1,.ii l.2.1,.ii l.2.2.1,.ii l.2.2.2])] gt ?_;obtain ⟨c4,h⟩:=b4.1 h;obtain ⟨c5,h⟩:=b4.1 h;obtain ⟨c6,h⟩:=b4.1 h;obtain ⟨c7,h⟩:=b4.1 h;obtain ⟨c8,h⟩:=b4.1 h;obtain ⟨c9,h⟩:=b4.1 h;obtain ⟨c10,h⟩:=b4.1 h;obtain ⟨c11,h⟩:=b4.1 h;refine AO.aggEq (neg:=true) b72 (by decide) rfl rfl (lx:=[.ii l.1,.ii l.2.1,.ii l.2.2.1,.ii l.2.2.2]) (ly:=[.ii l.1,.ii l.2.1,.ii v0.1,.ii v0.2]) (by first|rfl|(simp only [go_sem])<;>(with_reducible and_intros)<;>first|assumption|rfl|omega|(unfold maxLen; omega)) (by first|rfl|(simp only [go_sem])<;>(with_reducible and_intros)<;>first|assumption|rfl|omega|(unfold maxLen; omega)) (by first|rfl|(simp only [go_sem])<;>(with_reducible and_intros)<;>first|assumption|rfl|omega|(unfold maxLen; omega)) (by first|rfl|(simp only [go_sem])<;>(with_reducible and_intros)<;>first|assumption|rfl|omega|(unfold maxLen; omega)) (by first|assumption|omega|(simp only [go_sem])<;>(with_reducible and_intros)<;>first|assumption|rfl|omega|(unfold maxLen; omega)) (by first|assumption|omega|(simp only [go_sem])<;>(with_reducible and_intros)<;>first|assumption|rfl|omega|(unfold maxLen; omega)) ?_;refine zT [(1,.ii lines),(2,.bp 2 0),(8,.bool (!(decide (l=(l.1,l.2.1,v0)))))] [(2,.box 60 [.ii l.1,.ii l.2.1,.ii l.2.2.1,.ii l.2.2.2])] gt ?_;refine zB [(1,.ii lines),(2,.bp 2 0),(8,.bool (!(decide (l=(l.1,l.2.1,v0)))))] [(2,.box 60 [.ii l.1,.ii l.2.1,.ii l.2.2.1,.ii l.2.2.2])] ?_;refine zQ h (fun hb12 h=>?_) (fun hb12 h=>?_)
  ·refine zo ?_;refine zB [(4,.bool false)] [] ?_;refine zr ?_;obtain rfl:=zj h;exact zR [] [] []
  refine zk ?_;refine AW.seq ?_;refine zo ?_;refine zB [(1,.ii lines),(2,.bp 2 0),(10,.ii l.1)] [(2,.box 60 [.ii l.1,.ii l.2.1,.ii l.2.2.1,.ii l.2.2.2])] ?_;refine AW.block ?_;refine zo ?_;refine zB [(1,.ii lines),(2,.bp 2 0),(10,.ii l.1),(11,.bool (decide (l.1=1)))] [(2,.box 60 [.ii l.1,.ii l.2.1,.ii l.2.2.1,.ii l.2.2.2])] ?_;refine zQ h (fun hb13 h=>?_) (fun hb13 h=>?_)
  ·refine zo ?_;refine zS 2 [(2,.bp 2 0),(14,.ii l.2.1)] [(2,.box 60 [.ii l.1,.ii l.2.1,.ii l.2.2.1,.ii l.2.2.2])] ?_;obtain ⟨v0_2,hv14,h⟩:=zw h;refine zC [] [] (o9 l.2.1 hv14) [(2,.bp 2 0),(15,.bool v0_2)] [(2,.box 60 [.ii l.1,.ii l.2.1,.ii l.2.2.1,.ii l.2.2.2])] ?_;refine zS 1 [(2,.bp 2 0),(16,.bool v0_2)] [(2,.box 60 [.ii l.1,.ii l.2.1,.ii l.2.2.1,.ii l.2.2.2])] ?_;rcases zI h with ⟨hb15,h⟩|⟨hb15,h⟩
   ·refine zS 2 [(16,.bool true),(18,.ii l.2.2.1)] [] ?_;obtain ⟨v0_3,hv16,h⟩:=zw h;refine zG [] [] (a1V l.2.2.1 hv16) [(16,.bool true),(19,.bool v0_3)] [] ?_;refine zB [(4,.bool v0_3)] [] ?_;refine AW.ret ?_;refine d5 ?_;refine b9 ?_;obtain rfl:=zj h;exact zR [] [] []
   refine zB [(4,.bool false)] [] ?_;refine AW.ret ?_;refine d5 ?_;refine b9 ?_;obtain rfl:=zj h;exact zR [] [] []
  refine zo ?_;refine zB [(1,.ii lines),(2,.bp 2 0),(10,.ii l.1),(21,.bool (decide (l.1=2)))] [(2,.box 60 [.ii l.1,.ii l.2.1,.ii l.2.2.1,.ii l.2.2.2])] ?_;refine zQ h (fun hb17 h=>?_) (fun hb17 h=>?_)
  ·refine zo ?_;refine zS 2 [(2,.bp 2 0),(24,.ii l.2.1)] [(2,.box 60 [.ii l.1,.ii l.2.1,.ii l.2.2.1,.ii l.2.2.2])] ?_;obtain ⟨v0_4,hv18,h⟩:=zw h;refine zC [] [] (a1V l.2.1 hv18) [(2,.bp 2 0),(25,.bool v0_4)] [(2,.box 60 [.ii l.1,.ii l.2.1,.ii l.2.2.1,.ii l.2.2.2])] ?_;refine zS 1 [(2,.bp 2 0),(26,.bool v0_4)] [(2,.box 60 [.ii l.1,.ii l.2.1,.ii l.2.2.1,.ii l.2.2.2])] ?_;rcases zI h with ⟨hb19,h⟩|⟨hb19,h⟩
   ·refine zS 2 [(26,.bool true),(28,.ii l.2.2.1)] [] ?_;obtain ⟨v0_5,hv20,h⟩:=zw h;refine zG [] [] (o9 l.2.2.1 hv20) [(26,.bool true),(29,.bool v0_5)] [] ?_;refine zB [(4,.bool v0_5)] [] ?_;refine AW.ret ?_;refine d5 ?_;refine b9 ?_;obtain rfl:=zj h;exact zR [] [] []
   refine zB [(4,.bool false)] [] ?_;refine AW.ret ?_;refine d5 ?_;refine b9 ?_;obtain rfl:=zj h;exact zR [] [] []
  refine zo ?_;refine zB [(1,.ii lines),(2,.bp 2 0),(10,.ii l.1),(31,.bool (decide (l.1=3)))] [(2,.box 60 [.ii l.1,.ii l.2.1,.ii l.2.2.1,.ii l.2.2.2])] ?_;refine zQ h (fun hb21 h=>?_) (fun hb21 h=>?_)
  ·refine zo ?_;refine zS 2 [(2,.bp 2 0),(34,.ii l.2.1)] [(2,.box 60 [.ii l.1,.ii l.2.1,.ii l.2.2.1,.ii l.2.2.2])] ?_;obtain ⟨v0_6,hv22,h⟩:=zw h;refine zC [] [] (a1V l.2.1 hv22) [(2,.bp 2 0),(35,.bool v0_6)] [(2,.box 60 [.ii l.1,.ii l.2.1,.ii l.2.2.1,.ii l.2.2.2])] ?_;refine zS 1 [(2,.bp 2 0),(36,.bool v0_6)] [(2,.box 60 [.ii l.1,.ii l.2.1,.ii l.2.2.1,.ii l.2.2.2])] ?_;rcases zI h with ⟨hb23,h⟩|⟨hb23,h⟩
   ·refine zS 2 [(2,.bp 2 0),(36,.bool true),(38,.ii l.2.2.1)] [(2,.box 60 [.ii l.1,.ii l.2.1,.ii l.2.2.1,.ii l.2.2.2])] ?_;obtain ⟨v0_7,hv24,h⟩:=zw h;refine zG [] [] (o9 l.2.2.1 hv24) [(2,.bp 2 0),(36,.bool true),(39,.bool v0_7)] [(2,.box 60 [.ii l.1,.ii l.2.1,.ii l.2.2.1,.ii l.2.2.2])] ?_;refine zS 2 [(2,.bp 2 0),(41,.bool v0_7)] [(2,.box 60 [.ii l.1,.ii l.2.1,.ii l.2.2.1,.ii l.2.2.2])] ?_;rcases zI h with ⟨hb25,h⟩|⟨hb25,h⟩
    ·refine zS 2 [(41,.bool true),(43,.ii l.2.2.2)] [] ?_;obtain ⟨v0_8,hv26,h⟩:=zw h;refine zG [] [] (o9 l.2.2.2 hv26) [(41,.bool true),(44,.bool v0_8)] [] ?_;refine zB [(4,.bool v0_8)] [] ?_;refine AW.ret ?_;refine d5 ?_;refine b9 ?_;obtain rfl:=zj h;exact zR [] [] []
    refine zB [(4,.bool false)] [] ?_;refine AW.ret ?_;refine d5 ?_;refine b9 ?_;obtain rfl:=zj h;exact zR [] [] []
   refine zS 5 [(2,.bp 2 0),(41,.bool false)] [(2,.box 60 [.ii l.1,.ii l.2.1,.ii l.2.2.1,.ii l.2.2.2])] ?_;refine zB [(4,.bool false)] [] ?_;refine AW.ret ?_;refine d5 ?_;refine b9 ?_;obtain rfl:=zj h;exact zR [] [] []
  refine zo ?_;refine zB [(1,.ii lines),(2,.bp 2 0),(10,.ii l.1),(46,.bool (decide (l.1=4)))] [(2,.box 60 [.ii l.1,.ii l.2.1,.ii l.2.2.1,.ii l.2.2.2])] ?_;refine zQ h (fun hb27 h=>?_) (fun hb27 h=>?_)
  ·refine zo ?_;refine zS 2 [(2,.bp 2 0),(49,.ii l.2.1)] [(2,.box 60 [.ii l.1,.ii l.2.1,.ii l.2.2.1,.ii l.2.2.2])] ?_;obtain ⟨v0_9,hv28,h⟩:=zw h;refine zC [] [] (o9 l.2.1 hv28) [(2,.bp 2 0),(50,.bool v0_9)] [(2,.box 60 [.ii l.1,.ii l.2.1,.ii l.2.2.1,.ii l.2.2.2])] ?_;refine zS 1 [(2,.bp 2 0),(51,.bool v0_9)] [(2,.box 60 [.ii l.1,.ii l.2.1,.ii l.2.2.1,.ii l.2.2.2])] ?_;rcases zI h with ⟨hb29,h⟩|⟨hb29,h⟩
   ·refine zS 2 [(51,.bool true),(53,.ii l.2.2.1)] [] ?_;obtain ⟨v0_10,hv30,h⟩:=zw h;refine zG [] [] (D8 l.2.2.1 10 hv30) [(51,.bool true),(54,.bool v0_10)] [] ?_;refine zB [(4,.bool v0_10)] [] ?_;refine AW.ret ?_;refine d5 ?_;refine b9 ?_;obtain rfl:=zj h;exact zR [] [] []
   refine zB [(4,.bool false)] [] ?_;refine AW.ret ?_;refine d5 ?_;refine b9 ?_;obtain rfl:=zj h;exact zR [] [] []
  refine zo ?_;refine zB [(1,.ii lines),(2,.bp 2 0),(10,.ii l.1),(56,.bool (decide (l.1=5)))] [(2,.box 60 [.ii l.1,.ii l.2.1,.ii l.2.2.1,.ii l.2.2.2])] ?_;refine zQ h (fun hb31 h=>?_) (fun hb31 h=>?_)
  ·refine zo ?_;refine zS 2 [(2,.bp 2 0),(59,.ii l.2.1)] [(2,.box 60 [.ii l.1,.ii l.2.1,.ii l.2.2.1,.ii l.2.2.2])] ?_;obtain ⟨v0_11,hv32,h⟩:=zw h;refine zC [] [] (o9 l.2.1 hv32) [(2,.bp 2 0),(60,.bool v0_11)] [(2,.box 60 [.ii l.1,.ii l.2.1,.ii l.2.2.1,.ii l.2.2.2])] ?_;refine zS 1 [(2,.bp 2 0),(61,.bool v0_11)] [(2,.box 60 [.ii l.1,.ii l.2.1,.ii l.2.2.1,.ii l.2.2.2])] ?_;rcases zI h with ⟨hb33,h⟩|⟨hb33,h⟩
   ·refine zS 2 [(2,.bp 2 0),(61,.bool true),(63,.ii l.2.2.1)] [(2,.box 60 [.ii l.1,.ii l.2.1,.ii l.2.2.1,.ii l.2.2.2])] ?_;obtain ⟨v0_12,hv34,h⟩:=zw h;refine zG [] [] (o9 l.2.2.1 hv34) [(2,.bp 2 0),(61,.bool true),(64,.bool v0_12)] [(2,.box 60 [.ii l.1,.ii l.2.1,.ii l.2.2.1,.ii l.2.2.2])] ?_;refine zS 2 [(2,.bp 2 0),(66,.bool v0_12)] [(2,.box 60 [.ii l.1,.ii l.2.1,.ii l.2.2.1,.ii l.2.2.2])] ?_;rcases zI h with ⟨hb35,h⟩|⟨hb35,h⟩
    ·refine zS 2 [(66,.bool true),(68,.ii l.2.2.2)] [] ?_;obtain ⟨v0_13,hv36,h⟩:=zw h;refine zG [] [] (o9 l.2.2.2 hv36) [(66,.bool true),(69,.bool v0_13)] [] ?_;refine zB [(4,.bool v0_13)] [] ?_;refine AW.ret ?_;refine d5 ?_;refine b9 ?_;obtain rfl:=zj h;exact zR [] [] []
    refine zB [(4,.bool false)] [] ?_;refine AW.ret ?_;refine d5 ?_;refine b9 ?_;obtain rfl:=zj h;exact zR [] [] []
   refine zS 5 [(2,.bp 2 0),(66,.bool false)] [(2,.box 60 [.ii l.1,.ii l.2.1,.ii l.2.2.1,.ii l.2.2.2])] ?_;refine zB [(4,.bool false)] [] ?_;refine AW.ret ?_;refine d5 ?_;refine b9 ?_;obtain rfl:=zj h;exact zR [] [] []
  refine zo ?_;refine zB [(1,.ii lines),(2,.bp 2 0),(10,.ii l.1),(71,.bool (decide (l.1=6)))] [(2,.box 60 [.ii l.1,.ii l.2.1,.ii l.2.2.1,.ii l.2.2.2])] ?_;refine zQ h (fun hb37 h=>?_) (fun hb37 h=>?_)
  ·refine zo ?_;refine zS 2 [(1,.ii lines),(2,.bp 2 0),(74,.ii l.2.1)] [(2,.box 60 [.ii l.1,.ii l.2.1,.ii l.2.2.1,.ii l.2.2.2])] ?_;obtain ⟨v0_14,hv38,h⟩:=zw h;refine zC [] [] (o9 l.2.1 hv38) [(1,.ii lines),(2,.bp 2 0),(75,.bool v0_14)] [(2,.box 60 [.ii l.1,.ii l.2.1,.ii l.2.2.1,.ii l.2.2.2])] ?_;refine zS 1 [(1,.ii lines),(2,.bp 2 0),(76,.bool v0_14)] [(2,.box 60 [.ii l.1,.ii l.2.1,.ii l.2.2.1,.ii l.2.2.2])] ?_;rcases zI h with ⟨hb39,h⟩|⟨hb39,h⟩
   ·refine zS 3 [(76,.bool true),(78,.ii l.2.2.1),(79,.ii lines)] [] ?_;obtain ⟨v0_15,hv40,h⟩:=zw h;refine zG [] [] (D8 l.2.2.1 lines hv40) [(76,.bool true),(80,.bool v0_15)] [] ?_;refine zB [(4,.bool v0_15)] [] ?_;refine AW.ret ?_;refine d5 ?_;refine b9 ?_;obtain rfl:=zj h;exact zR [] [] []
   refine zS 4 [(76,.bool false),(80,.cv (undef))] [] ?_;refine zB [(4,.bool false)] [] ?_;refine AW.ret ?_;refine d5 ?_;refine b9 ?_;obtain rfl:=zj h;exact zR [] [] []
  refine zo ?_;refine zB [(2,.bp 2 0),(82,.bool (decide (l.1=7)))] [(2,.box 60 [.ii l.1,.ii l.2.1,.ii l.2.2.1,.ii l.2.2.2])] ?_;refine zQ h (fun hb41 h=>?_) (fun hb41 h=>?_)
  ·refine zo ?_;refine zS 2 [(85,.ii l.2.1)] [] ?_;obtain ⟨v0_16,hv42,h⟩:=zw h;refine zC [] [] (o9 l.2.1 hv42) [(86,.bool v0_16)] [] ?_;refine zB [(4,.bool v0_16)] [] ?_;refine AW.ret ?_;refine d5 ?_;refine b9 ?_;obtain rfl:=zj h;exact zR [] [] []
  refine zm ?_;refine f7 ?_;refine zo ?_;refine zB [(4,.bool false)] [] ?_;refine AW.ret ?_;obtain rfl:=zj h;exact zR [] [] []
end Go.Proofs.YtanaeefeggokkaaGreat
