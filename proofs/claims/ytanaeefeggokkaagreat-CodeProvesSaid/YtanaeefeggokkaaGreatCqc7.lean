import Derived.Test.YtanaeefeggokkaaGreatCkp
import Derived.Test.YtanaeefeggokkaaGreatShk
import Derived.Test.YtanaeefeggokkaaGreatAvd
import Derived.Test.YtanaeefeggokkaaGreatCqc6
namespace Go.Proofs.YtanaeefeggokkaaGreat
open Go.RowKit
set_option linter.unusedSimpArgs false
set_option linter.unusedVariables false
set_option linter.constructorNameAsVariable false
set_option maxRecDepth 100000
set_option maxHeartbeats 40000000
theorem a0y (a:Int×Int×Int×Int×Int×Int) (b:Int×Int×Int×Int×Int×Int) {r:Bool} (h:L8 a b=some r):HC Tryz.prog 90 [] [.agg [.ii a.1,.ii a.2.1,.ii a.2.2.1,.ii a.2.2.2.1,.ii a.2.2.2.2.1,.ii a.2.2.2.2.2],.agg [.ii b.1,.ii b.2.1,.ii b.2.2.1,.ii b.2.2.2.1,.ii b.2.2.2.2.1,.ii b.2.2.2.2.2]] [] (.bool r):=by
 unfold L8 at h;refine zH Tryz.func90 [.tmp 4] 15 ?_;refine zo ?_;refine zB [(2,.bp 2 0),(3,.bp 3 0)] [(2,.box 62 [.ii a.1,.ii a.2.1,.ii a.2.2.1,.ii a.2.2.2.1,.ii a.2.2.2.2.1,.ii a.2.2.2.2.2]),(3,.box 62 [.ii b.1,.ii b.2.1,.ii b.2.2.1,.ii b.2.2.2.1,.ii b.2.2.2.2.1,.ii b.2.2.2.2.2])] ?_;refine zo ?_;refine zS 4 [(2,.bp 2 0),(3,.bp 3 0),(8,.bool (!(decide (a.2.2.2.2.2=0))))] [(2,.box 62 [.ii a.1,.ii a.2.1,.ii a.2.2.1,.ii a.2.2.2.1,.ii a.2.2.2.2.1,.ii a.2.2.2.2.2]),(3,.box 62 [.ii b.1,.ii b.2.1,.ii b.2.2.1,.ii b.2.2.2.1,.ii b.2.2.2.2.1,.ii b.2.2.2.2.2])] ?_;rcases zI h with ⟨hb1,h⟩|⟨hb1,h⟩
 ·refine zS 5 [(8,.bool true),(13,.bool (decide (a.2.2.2.2.2<b.2.2.2.2.1)))] [] ?_;refine zB [(4,.bool (decide (a.2.2.2.2.2<b.2.2.2.2.1)))] [] ?_;refine AW.ret ?_;obtain rfl:=zj h;exact zR [] [] []
 refine zS 4 [(8,.bool false),(10,.cv (undef)),(12,.cv (undef))] [] ?_;refine zB [(4,.bool false)] [] ?_;refine AW.ret ?_;obtain rfl:=zj h;exact zR [] [] []
theorem a6D (a:Int×Int×Int×Int×Int×Int) (b:Int×Int×Int×Int×Int×Int) {r:Bool} (h:Y9 a b=some r):HC Tryz.prog 123 [] [.agg [.ii a.1,.ii a.2.1,.ii a.2.2.1,.ii a.2.2.2.1,.ii a.2.2.2.2.1,.ii a.2.2.2.2.2],.agg [.ii b.1,.ii b.2.1,.ii b.2.2.1,.ii b.2.2.2.1,.ii b.2.2.2.2.1,.ii b.2.2.2.2.2]] [] (.bool r):=by
 unfold Y9 at h;refine zH Tryz.func123 [.tmp 4] 49 ?_;refine zo ?_;refine zB [(2,.bp 2 0),(3,.bp 3 0)] [(2,.box 62 [.ii a.1,.ii a.2.1,.ii a.2.2.1,.ii a.2.2.2.1,.ii a.2.2.2.2.1,.ii a.2.2.2.2.2]),(3,.box 62 [.ii b.1,.ii b.2.1,.ii b.2.2.1,.ii b.2.2.2.1,.ii b.2.2.2.2.1,.ii b.2.2.2.2.2])] ?_;refine AW.seq ?_;refine zo ?_;refine zS 5 [(2,.bp 2 0),(3,.bp 3 0),(9,.bool (decide (a.2.2.2.2.1=b.2.2.2.2.1)))] [(2,.box 62 [.ii a.1,.ii a.2.1,.ii a.2.2.1,.ii a.2.2.2.1,.ii a.2.2.2.2.1,.ii a.2.2.2.2.2]),(3,.box 62 [.ii b.1,.ii b.2.1,.ii b.2.2.1,.ii b.2.2.2.1,.ii b.2.2.2.2.1,.ii b.2.2.2.2.2])] ?_;refine zS 1 [(2,.bp 2 0),(3,.bp 3 0),(10,.bool (decide (a.2.2.2.2.1=b.2.2.2.2.1)))] [(2,.box 62 [.ii a.1,.ii a.2.1,.ii a.2.2.1,.ii a.2.2.2.1,.ii a.2.2.2.2.1,.ii a.2.2.2.2.2]),(3,.box 62 [.ii b.1,.ii b.2.1,.ii b.2.2.1,.ii b.2.2.2.1,.ii b.2.2.2.2.1,.ii b.2.2.2.2.2])] ?_;rcases zI h with ⟨hb1,h⟩|⟨hb1,h⟩
 ·refine zS 4 [(2,.bp 2 0),(3,.bp 3 0),(10,.bool true),(12,.cv (undef)),(14,.cv (undef))] [(2,.box 62 [.ii a.1,.ii a.2.1,.ii a.2.2.1,.ii a.2.2.2.1,.ii a.2.2.2.2.1,.ii a.2.2.2.2.2]),(3,.box 62 [.ii b.1,.ii b.2.1,.ii b.2.2.1,.ii b.2.2.2.1,.ii b.2.2.2.2.1,.ii b.2.2.2.2.2])] ?_;refine zS 5 [(2,.bp 2 0),(3,.bp 3 0),(17,.bool true),(19,.cv (undef))] [(2,.box 62 [.ii a.1,.ii a.2.1,.ii a.2.2.1,.ii a.2.2.2.1,.ii a.2.2.2.2.1,.ii a.2.2.2.2.2]),(3,.box 62 [.ii b.1,.ii b.2.1,.ii b.2.2.1,.ii b.2.2.2.1,.ii b.2.2.2.2.1,.ii b.2.2.2.2.2])] ?_;refine zB [(2,.bp 2 0),(3,.bp 3 0),(23,.bool true)] [(2,.box 62 [.ii a.1,.ii a.2.1,.ii a.2.2.1,.ii a.2.2.2.1,.ii a.2.2.2.2.1,.ii a.2.2.2.2.2]),(3,.box 62 [.ii b.1,.ii b.2.1,.ii b.2.2.1,.ii b.2.2.2.1,.ii b.2.2.2.2.1,.ii b.2.2.2.2.2])] ?_;refine AW.cond (b:=true) rfl (fun _=>?_) (fun hb2=>by cases hb2);refine zo ?_;refine zB [(4,.bool false)] [] ?_;refine zr ?_;obtain rfl:=zj h;exact zR [] [] []
 refine zS 5 [(2,.bp 2 0),(3,.bp 3 0),(10,.bool false),(15,.bool (decide (a.2.2.2.2.1=b.2.2.2.2.2)))] [(2,.box 62 [.ii a.1,.ii a.2.1,.ii a.2.2.1,.ii a.2.2.2.1,.ii a.2.2.2.2.1,.ii a.2.2.2.2.2]),(3,.box 62 [.ii b.1,.ii b.2.1,.ii b.2.2.1,.ii b.2.2.2.1,.ii b.2.2.2.2.1,.ii b.2.2.2.2.2])] ?_;refine zS 2 [(2,.bp 2 0),(3,.bp 3 0),(17,.bool (decide (a.2.2.2.2.1=b.2.2.2.2.2)))] [(2,.box 62 [.ii a.1,.ii a.2.1,.ii a.2.2.1,.ii a.2.2.2.1,.ii a.2.2.2.2.1,.ii a.2.2.2.2.2]),(3,.box 62 [.ii b.1,.ii b.2.1,.ii b.2.2.1,.ii b.2.2.2.1,.ii b.2.2.2.2.1,.ii b.2.2.2.2.2])] ?_;rcases zI h with ⟨hb3,h⟩|⟨hb3,h⟩
 ·refine zS 4 [(2,.bp 2 0),(3,.bp 3 0),(17,.bool true),(19,.cv (undef)),(21,.cv (undef))] [(2,.box 62 [.ii a.1,.ii a.2.1,.ii a.2.2.1,.ii a.2.2.2.1,.ii a.2.2.2.2.1,.ii a.2.2.2.2.2]),(3,.box 62 [.ii b.1,.ii b.2.1,.ii b.2.2.1,.ii b.2.2.2.1,.ii b.2.2.2.2.1,.ii b.2.2.2.2.2])] ?_;refine zB [(2,.bp 2 0),(3,.bp 3 0),(23,.bool true)] [(2,.box 62 [.ii a.1,.ii a.2.1,.ii a.2.2.1,.ii a.2.2.2.1,.ii a.2.2.2.2.1,.ii a.2.2.2.2.2]),(3,.box 62 [.ii b.1,.ii b.2.1,.ii b.2.2.1,.ii b.2.2.2.1,.ii b.2.2.2.2.1,.ii b.2.2.2.2.2])] ?_;refine AW.cond (b:=true) rfl (fun _=>?_) (fun hb4=>by cases hb4);refine zo ?_;refine zB [(4,.bool false)] [] ?_;refine zr ?_;obtain rfl:=zj h;exact zR [] [] []
 refine zS 5 [(2,.bp 2 0),(3,.bp 3 0),(17,.bool false),(22,.bool (decide (a.2.2.2.2.2=b.2.2.2.2.1)))] [(2,.box 62 [.ii a.1,.ii a.2.1,.ii a.2.2.1,.ii a.2.2.2.1,.ii a.2.2.2.2.1,.ii a.2.2.2.2.2]),(3,.box 62 [.ii b.1,.ii b.2.1,.ii b.2.2.1,.ii b.2.2.2.1,.ii b.2.2.2.2.1,.ii b.2.2.2.2.2])] ?_;refine zB [(2,.bp 2 0),(3,.bp 3 0),(23,.bool (decide (a.2.2.2.2.2=b.2.2.2.2.1)))] [(2,.box 62 [.ii a.1,.ii a.2.1,.ii a.2.2.1,.ii a.2.2.2.1,.ii a.2.2.2.2.1,.ii a.2.2.2.2.2]),(3,.box 62 [.ii b.1,.ii b.2.1,.ii b.2.2.1,.ii b.2.2.2.1,.ii b.2.2.2.2.1,.ii b.2.2.2.2.2])] ?_;refine zQ h (fun hb5 h=>?_) (fun hb5 h=>?_)
 ·refine zo ?_;refine zB [(4,.bool false)] [] ?_;refine zr ?_;obtain rfl:=zj h;exact zR [] [] []
 refine zk ?_;refine AW.have1 (fun _:Unit=>K5 a b=some r) (fun _=>⟨fr [(2,.bp 2 0),(3,.bp 3 0)],b6 [(2,.box 62 [.ii a.1,.ii a.2.1,.ii a.2.2.1,.ii a.2.2.2.1,.ii a.2.2.2.2.1,.ii a.2.2.2.2.2]),(3,.box 62 [.ii b.1,.ii b.2.1,.ii b.2.2.1,.ii b.2.2.2.1,.ii b.2.2.2.2.1,.ii b.2.2.2.2.2])],gt⟩) (fun _ h=>?_) (fun hk_history_apart_k1=>?_)
 ·as_aux_lemma =>
   unfold K5 at h;refine zo ?_;refine zS 5 [(2,.bp 2 0),(3,.bp 3 0),(38,.bool (!(decide (a.1=b.1))))] [(2,.box 62 [.ii a.1,.ii a.2.1,.ii a.2.2.1,.ii a.2.2.2.1,.ii a.2.2.2.2.1,.ii a.2.2.2.2.2]),(3,.box 62 [.ii b.1,.ii b.2.1,.ii b.2.2.1,.ii b.2.2.2.1,.ii b.2.2.2.2.1,.ii b.2.2.2.2.2])] ?_;refine zS 1 [(2,.bp 2 0),(3,.bp 3 0),(39,.bool (!(decide (a.1=b.1))))] [(2,.box 62 [.ii a.1,.ii a.2.1,.ii a.2.2.1,.ii a.2.2.2.1,.ii a.2.2.2.2.1,.ii a.2.2.2.2.2]),(3,.box 62 [.ii b.1,.ii b.2.1,.ii b.2.2.1,.ii b.2.2.2.1,.ii b.2.2.2.2.1,.ii b.2.2.2.2.2])] ?_;rcases zI h with ⟨hb6,h⟩|⟨hb6,h⟩
   ·refine zS 5 [(2,.bp 2 0),(3,.bp 3 0),(44,.bool true)] [(2,.box 62 [.ii a.1,.ii a.2.1,.ii a.2.2.1,.ii a.2.2.2.1,.ii a.2.2.2.2.1,.ii a.2.2.2.2.2]),(3,.box 62 [.ii b.1,.ii b.2.1,.ii b.2.2.1,.ii b.2.2.2.1,.ii b.2.2.2.2.1,.ii b.2.2.2.2.2])] ?_;refine zB [(4,.bool true)] [] ?_;refine AW.ret ?_;obtain rfl:=zj h;exact zR [] [] []
   refine zS 2 [(2,.bp 2 0),(3,.bp 3 0),(39,.bool false),(40,.agg [.ii a.1,.ii a.2.1,.ii a.2.2.1,.ii a.2.2.2.1,.ii a.2.2.2.2.1,.ii a.2.2.2.2.2]),(41,.agg [.ii b.1,.ii b.2.1,.ii b.2.2.1,.ii b.2.2.2.1,.ii b.2.2.2.2.1,.ii b.2.2.2.2.2])] [(2,.box 62 [.ii a.1,.ii a.2.1,.ii a.2.2.1,.ii a.2.2.2.1,.ii a.2.2.2.2.1,.ii a.2.2.2.2.2]),(3,.box 62 [.ii b.1,.ii b.2.1,.ii b.2.2.1,.ii b.2.2.2.1,.ii b.2.2.2.2.1,.ii b.2.2.2.2.2])] ?_;obtain ⟨v0,hv7,h⟩:=zw h;refine zG [] [] (a0y a b hv7) [(2,.bp 2 0),(3,.bp 3 0),(39,.bool false),(42,.bool v0)] [(2,.box 62 [.ii a.1,.ii a.2.1,.ii a.2.2.1,.ii a.2.2.2.1,.ii a.2.2.2.2.1,.ii a.2.2.2.2.2]),(3,.box 62 [.ii b.1,.ii b.2.1,.ii b.2.2.1,.ii b.2.2.2.1,.ii b.2.2.2.2.1,.ii b.2.2.2.2.2])] ?_;refine zS 2 [(2,.bp 2 0),(3,.bp 3 0),(44,.bool v0)] [(2,.box 62 [.ii a.1,.ii a.2.1,.ii a.2.2.1,.ii a.2.2.2.1,.ii a.2.2.2.2.1,.ii a.2.2.2.2.2]),(3,.box 62 [.ii b.1,.ii b.2.1,.ii b.2.2.1,.ii b.2.2.2.1,.ii b.2.2.2.2.1,.ii b.2.2.2.2.2])] ?_;rcases zI h with ⟨hb8,h⟩|⟨hb8,h⟩
   ·refine zB [(4,.bool true)] [] ?_;refine AW.ret ?_;obtain rfl:=zj h;exact zR [] [] []
   refine zS 2 [(44,.bool false),(45,.agg [.ii b.1,.ii b.2.1,.ii b.2.2.1,.ii b.2.2.2.1,.ii b.2.2.2.2.1,.ii b.2.2.2.2.2]),(46,.agg [.ii a.1,.ii a.2.1,.ii a.2.2.1,.ii a.2.2.2.1,.ii a.2.2.2.2.1,.ii a.2.2.2.2.2])] [] ?_;obtain ⟨v0_2,hv9,h⟩:=zw h;refine zG [] [] (a0y b a hv9) [(44,.bool false),(47,.bool v0_2)] [] ?_;refine zB [(4,.bool v0_2)] [] ?_;refine AW.ret ?_;obtain rfl:=zj h;exact zR [] [] []
 refine AW.seq ?_;refine zo ?_;refine zS 5 [(2,.bp 2 0),(3,.bp 3 0),(28,.bool (decide (a.2.2.2.2.2=b.2.2.2.2.2)))] [(2,.box 62 [.ii a.1,.ii a.2.1,.ii a.2.2.1,.ii a.2.2.2.1,.ii a.2.2.2.2.1,.ii a.2.2.2.2.2]),(3,.box 62 [.ii b.1,.ii b.2.1,.ii b.2.2.1,.ii b.2.2.2.1,.ii b.2.2.2.2.1,.ii b.2.2.2.2.2])] ?_;refine zS 1 [(2,.bp 2 0),(3,.bp 3 0),(29,.bool (decide (a.2.2.2.2.2=b.2.2.2.2.2)))] [(2,.box 62 [.ii a.1,.ii a.2.1,.ii a.2.2.1,.ii a.2.2.2.1,.ii a.2.2.2.2.1,.ii a.2.2.2.2.2]),(3,.box 62 [.ii b.1,.ii b.2.1,.ii b.2.2.1,.ii b.2.2.2.1,.ii b.2.2.2.2.1,.ii b.2.2.2.2.2])] ?_;rcases zI h with ⟨hb10,h⟩|⟨hb10,h⟩
 ·refine zB [(2,.bp 2 0),(3,.bp 3 0),(33,.bool (!(decide (a.2.2.2.2.2=0))))] [(2,.box 62 [.ii a.1,.ii a.2.1,.ii a.2.2.1,.ii a.2.2.2.1,.ii a.2.2.2.2.1,.ii a.2.2.2.2.2]),(3,.box 62 [.ii b.1,.ii b.2.1,.ii b.2.2.1,.ii b.2.2.2.1,.ii b.2.2.2.2.1,.ii b.2.2.2.2.2])] ?_;refine zQ h (fun hb11 h=>?_) (fun hb11 h=>?_)
  ·refine zo ?_;refine zB [(4,.bool false)] [] ?_;refine zr ?_;obtain rfl:=zj h;exact zR [] [] []
  refine zk ?_;exact AW.weaken (zL [] [] []) (hk_history_apart_k1 () h)
 refine zB [(2,.bp 2 0),(3,.bp 3 0),(33,.bool false)] [(2,.box 62 [.ii a.1,.ii a.2.1,.ii a.2.2.1,.ii a.2.2.2.1,.ii a.2.2.2.2.1,.ii a.2.2.2.2.2]),(3,.box 62 [.ii b.1,.ii b.2.1,.ii b.2.2.1,.ii b.2.2.2.1,.ii b.2.2.2.2.1,.ii b.2.2.2.2.2])] ?_;refine AW.cond (b:=false) rfl (fun hb12=>by cases hb12) (fun _=>?_);refine zk ?_;exact AW.weaken (zL [] [] []) (hk_history_apart_k1 () h)
theorem a6E (h0:ZH) {r:Bool} (h:Z0 h0=some r):HC Tryz.prog 87 [] [.sl Y0 h0] [] (.bool r):=by
 unfold Z0 at h;refine zH Tryz.func87 [.tmp 2] 34 ?_;refine zo ?_;refine zB [(0,.sl Y0 h0)] [] ?_;refine AW.seq ?_;refine zo ?_;refine zB [(0,.sl Y0 h0),(9,.bool (decide (8<(h0.length:Int))))] [] ?_;refine zQ h (fun hb1 h=>?_) (fun hb1 h=>?_)
 ·refine zo ?_;refine zB [(2,.bool false)] [] ?_;refine zr ?_;obtain rfl:=zj h;exact zR [] [] []
 refine zk ?_;refine AW.have1 (fun _:Unit=>W9=some r) (fun _=>⟨fr [],b6 [],gt⟩) (fun _ h=>?_) (fun hk_history_Valid_k1=>?_)
 ·as_aux_lemma =>
   unfold W9 at h;refine zo ?_;refine zB [(2,.bool true)] [] ?_;refine AW.ret ?_;obtain rfl:=zj h;exact zR [] [] []
 refine AW.seq ?_;refine zo ?_;refine zB [(0,.sl Y0 h0),(10,.sl Y0 h0),(11,.ii (h0.length:Int)),(12,.ii 0)] [] ?_;refine AW.block ?_;obtain ⟨rv6,hw2,ho3⟩:=zw h;refine AW.loopO (K7 h0) (fun st1=>⟨fr [(0,.sl Y0 h0),(10,.sl Y0 h0),(11,.ii (h0.length:Int)),(12,.ii st1)],b6 [],gt⟩) 0 hw2 (zL [] [] []) ?_
 as_aux_lemma =>
  intro st1 x5 h hd4;unfold K7 at h;refine zo ?_;refine zB [(0,.sl Y0 h0),(10,.sl Y0 h0),(11,.ii (h0.length:Int)),(12,.ii st1),(13,.bool (decide (st1<(h0.length:Int))))] [] ?_;refine AW.seq ?_;refine zQ h (fun hb7 h=>?_) (fun hb7 h=>?_)
  ·refine zk ?_;refine AW.have1 (fun _:Unit=>W8 st1=some x5) (fun _=>⟨fr [(0,.sl Y0 h0),(10,.sl Y0 h0),(11,.ii (h0.length:Int)),(12,.ii st1)],b6 [],gt⟩) (fun _ h=>?_) (fun hk_history_Valid_k2=>?_)
   ·as_aux_lemma =>
     unfold W8 at h;refine AW.ops ?_;obtain ⟨c8,h⟩:=b4.1 h;refine zA [(0,.sl Y0 h0),(10,.sl Y0 h0),(11,.ii (h0.length:Int)),(12,.ii (st1+1))] [] ?_;obtain rfl:=zj h;exact ⟨_,rfl,zL [] [] []⟩
   refine AW.seq ?_;refine AW.block ?_;refine zo ?_;obtain ⟨c9,h⟩:=b4.1 h;obtain ⟨c10,h⟩:=b4.1 h;refine zS 5 [(0,.sl Y0 h0),(3,.ii st1),(4,.bp 4 0),(10,.sl Y0 h0),(11,.ii (h0.length:Int)),(12,.ii st1),(16,.agg [.ii (h0.getD st1.toNat (0,0,0,0,0,0)).1,.ii (h0.getD st1.toNat (0,0,0,0,0,0)).2.1,.ii (h0.getD st1.toNat (0,0,0,0,0,0)).2.2.1,.ii (h0.getD st1.toNat (0,0,0,0,0,0)).2.2.2.1,.ii (h0.getD st1.toNat (0,0,0,0,0,0)).2.2.2.2.1,.ii (h0.getD st1.toNat (0,0,0,0,0,0)).2.2.2.2.2])] [(4,.box 62 [.ii 0,.ii 0,.ii 0,.ii 0,.ii 0,.ii 0])] ?_;refine zB [(0,.sl Y0 h0),(3,.ii st1),(4,.bp 4 0),(10,.sl Y0 h0),(11,.ii (h0.length:Int)),(12,.ii st1)] [(4,.box 62 [.ii (h0.getD st1.toNat (0,0,0,0,0,0)).1,.ii (h0.getD st1.toNat (0,0,0,0,0,0)).2.1,.ii (h0.getD st1.toNat (0,0,0,0,0,0)).2.2.1,.ii (h0.getD st1.toNat (0,0,0,0,0,0)).2.2.2.1,.ii (h0.getD st1.toNat (0,0,0,0,0,0)).2.2.2.2.1,.ii (h0.getD st1.toNat (0,0,0,0,0,0)).2.2.2.2.2])] ?_;refine AW.seq ?_;refine zo ?_;refine zS 1 [(0,.sl Y0 h0),(3,.ii st1),(4,.bp 4 0),(10,.sl Y0 h0),(11,.ii (h0.length:Int)),(12,.ii st1),(17,.agg [.ii (h0.getD st1.toNat (0,0,0,0,0,0)).1,.ii (h0.getD st1.toNat (0,0,0,0,0,0)).2.1,.ii (h0.getD st1.toNat (0,0,0,0,0,0)).2.2.1,.ii (h0.getD st1.toNat (0,0,0,0,0,0)).2.2.2.1,.ii (h0.getD st1.toNat (0,0,0,0,0,0)).2.2.2.2.1,.ii (h0.getD st1.toNat (0,0,0,0,0,0)).2.2.2.2.2])] [(4,.box 62 [.ii (h0.getD st1.toNat (0,0,0,0,0,0)).1,.ii (h0.getD st1.toNat (0,0,0,0,0,0)).2.1,.ii (h0.getD st1.toNat (0,0,0,0,0,0)).2.2.1,.ii (h0.getD st1.toNat (0,0,0,0,0,0)).2.2.2.1,.ii (h0.getD st1.toNat (0,0,0,0,0,0)).2.2.2.2.1,.ii (h0.getD st1.toNat (0,0,0,0,0,0)).2.2.2.2.2])] ?_;obtain ⟨v0,hv11,h⟩:=zw h;refine zC [] [] (a5V (h0.getD st1.toNat (0,0,0,0,0,0)) hv11) [(0,.sl Y0 h0),(3,.ii st1),(4,.bp 4 0),(10,.sl Y0 h0),(11,.ii (h0.length:Int)),(12,.ii st1),(18,.bool v0)] [(4,.box 62 [.ii (h0.getD st1.toNat (0,0,0,0,0,0)).1,.ii (h0.getD st1.toNat (0,0,0,0,0,0)).2.1,.ii (h0.getD st1.toNat (0,0,0,0,0,0)).2.2.1,.ii (h0.getD st1.toNat (0,0,0,0,0,0)).2.2.2.1,.ii (h0.getD st1.toNat (0,0,0,0,0,0)).2.2.2.2.1,.ii (h0.getD st1.toNat (0,0,0,0,0,0)).2.2.2.2.2])] ?_;refine zB [(0,.sl Y0 h0),(3,.ii st1),(4,.bp 4 0),(10,.sl Y0 h0),(11,.ii (h0.length:Int)),(12,.ii st1),(19,.bool (!v0))] [(4,.box 62 [.ii (h0.getD st1.toNat (0,0,0,0,0,0)).1,.ii (h0.getD st1.toNat (0,0,0,0,0,0)).2.1,.ii (h0.getD st1.toNat (0,0,0,0,0,0)).2.2.1,.ii (h0.getD st1.toNat (0,0,0,0,0,0)).2.2.2.1,.ii (h0.getD st1.toNat (0,0,0,0,0,0)).2.2.2.2.1,.ii (h0.getD st1.toNat (0,0,0,0,0,0)).2.2.2.2.2])] ?_;refine zQ h (fun hb12 h=>?_) (fun hb12 h=>?_)
   ·refine zo ?_;refine zB [(2,.bool false)] [] ?_;refine zr ?_;refine d5 ?_;refine b9 ?_;obtain rfl:=zj h
    try rw [← hd4 _ rfl] at ho3
    have h:=ho3
    try simp only at h
    refine b9 ?_;refine d5 ?_;refine b9 ?_;obtain rfl:=zj h;exact zR [] [] []
   refine zk ?_;refine zo ?_;obtain ⟨c13,h⟩:=b4.1 h;obtain ⟨c14,h⟩:=b4.1 h;refine zB [(0,.sl Y0 h0),(4,.bp 4 0),(10,.sl Y0 h0),(11,.ii (h0.length:Int)),(12,.ii st1),(22,.sl Y0 (h0.take st1.toNat)),(23,.ii ((h0.take st1.toNat).length:Int)),(24,.ii 0)] [(4,.box 62 [.ii (h0.getD st1.toNat (0,0,0,0,0,0)).1,.ii (h0.getD st1.toNat (0,0,0,0,0,0)).2.1,.ii (h0.getD st1.toNat (0,0,0,0,0,0)).2.2.1,.ii (h0.getD st1.toNat (0,0,0,0,0,0)).2.2.2.1,.ii (h0.getD st1.toNat (0,0,0,0,0,0)).2.2.2.2.1,.ii (h0.getD st1.toNat (0,0,0,0,0,0)).2.2.2.2.2])] ?_;refine AW.block ?_;obtain ⟨rv19,hw15,ho16⟩:=zw h;refine AW.loopO (K6 h0 st1) (fun st2=>⟨fr [(0,.sl Y0 h0),(4,.bp 4 0),(10,.sl Y0 h0),(11,.ii (h0.length:Int)),(12,.ii st1),(22,.sl Y0 (h0.take st1.toNat)),(23,.ii ((h0.take st1.toNat).length:Int)),(24,.ii st2)],b6 [(4,.box 62 [.ii (h0.getD st1.toNat (0,0,0,0,0,0)).1,.ii (h0.getD st1.toNat (0,0,0,0,0,0)).2.1,.ii (h0.getD st1.toNat (0,0,0,0,0,0)).2.2.1,.ii (h0.getD st1.toNat (0,0,0,0,0,0)).2.2.2.1,.ii (h0.getD st1.toNat (0,0,0,0,0,0)).2.2.2.2.1,.ii (h0.getD st1.toNat (0,0,0,0,0,0)).2.2.2.2.2])],gt⟩) 0 hw15 (zL [] [] []) ?_
   as_aux_lemma =>
    intro st2 x18 h hd17;unfold K6 at h;refine zo ?_;refine zB [(0,.sl Y0 h0),(4,.bp 4 0),(10,.sl Y0 h0),(11,.ii (h0.length:Int)),(12,.ii st1),(22,.sl Y0 (h0.take st1.toNat)),(23,.ii ((h0.take st1.toNat).length:Int)),(24,.ii st2),(25,.bool (decide (st2<((h0.take st1.toNat).length:Int))))] [(4,.box 62 [.ii (h0.getD st1.toNat (0,0,0,0,0,0)).1,.ii (h0.getD st1.toNat (0,0,0,0,0,0)).2.1,.ii (h0.getD st1.toNat (0,0,0,0,0,0)).2.2.1,.ii (h0.getD st1.toNat (0,0,0,0,0,0)).2.2.2.1,.ii (h0.getD st1.toNat (0,0,0,0,0,0)).2.2.2.2.1,.ii (h0.getD st1.toNat (0,0,0,0,0,0)).2.2.2.2.2])] ?_;refine AW.seq ?_;refine zQ h (fun hb20 h=>?_) (fun hb20 h=>?_)
    ·refine zk ?_;refine AW.seq ?_;refine AW.block ?_;refine zo ?_;obtain ⟨c21,h⟩:=b4.1 h;obtain ⟨c22,h⟩:=b4.1 h;refine zB [(0,.sl Y0 h0),(4,.bp 4 0),(6,.bp 6 0),(10,.sl Y0 h0),(11,.ii (h0.length:Int)),(12,.ii st1),(22,.sl Y0 (h0.take st1.toNat)),(23,.ii ((h0.take st1.toNat).length:Int)),(24,.ii st2)] [(4,.box 62 [.ii (h0.getD st1.toNat (0,0,0,0,0,0)).1,.ii (h0.getD st1.toNat (0,0,0,0,0,0)).2.1,.ii (h0.getD st1.toNat (0,0,0,0,0,0)).2.2.1,.ii (h0.getD st1.toNat (0,0,0,0,0,0)).2.2.2.1,.ii (h0.getD st1.toNat (0,0,0,0,0,0)).2.2.2.2.1,.ii (h0.getD st1.toNat (0,0,0,0,0,0)).2.2.2.2.2]),(6,.box 62 [.ii ((h0.take st1.toNat).getD st2.toNat (0,0,0,0,0,0)).1,.ii ((h0.take st1.toNat).getD st2.toNat (0,0,0,0,0,0)).2.1,.ii ((h0.take st1.toNat).getD st2.toNat (0,0,0,0,0,0)).2.2.1,.ii ((h0.take st1.toNat).getD st2.toNat (0,0,0,0,0,0)).2.2.2.1,.ii ((h0.take st1.toNat).getD st2.toNat (0,0,0,0,0,0)).2.2.2.2.1,.ii ((h0.take st1.toNat).getD st2.toNat (0,0,0,0,0,0)).2.2.2.2.2])] ?_;refine zo ?_;refine zS 2 [(0,.sl Y0 h0),(4,.bp 4 0),(10,.sl Y0 h0),(11,.ii (h0.length:Int)),(12,.ii st1),(22,.sl Y0 (h0.take st1.toNat)),(23,.ii ((h0.take st1.toNat).length:Int)),(24,.ii st2),(28,.agg [.ii (h0.getD st1.toNat (0,0,0,0,0,0)).1,.ii (h0.getD st1.toNat (0,0,0,0,0,0)).2.1,.ii (h0.getD st1.toNat (0,0,0,0,0,0)).2.2.1,.ii (h0.getD st1.toNat (0,0,0,0,0,0)).2.2.2.1,.ii (h0.getD st1.toNat (0,0,0,0,0,0)).2.2.2.2.1,.ii (h0.getD st1.toNat (0,0,0,0,0,0)).2.2.2.2.2]),(29,.agg [.ii ((h0.take st1.toNat).getD st2.toNat (0,0,0,0,0,0)).1,.ii ((h0.take st1.toNat).getD st2.toNat (0,0,0,0,0,0)).2.1,.ii ((h0.take st1.toNat).getD st2.toNat (0,0,0,0,0,0)).2.2.1,.ii ((h0.take st1.toNat).getD st2.toNat (0,0,0,0,0,0)).2.2.2.1,.ii ((h0.take st1.toNat).getD st2.toNat (0,0,0,0,0,0)).2.2.2.2.1,.ii ((h0.take st1.toNat).getD st2.toNat (0,0,0,0,0,0)).2.2.2.2.2])] [(4,.box 62 [.ii (h0.getD st1.toNat (0,0,0,0,0,0)).1,.ii (h0.getD st1.toNat (0,0,0,0,0,0)).2.1,.ii (h0.getD st1.toNat (0,0,0,0,0,0)).2.2.1,.ii (h0.getD st1.toNat (0,0,0,0,0,0)).2.2.2.1,.ii (h0.getD st1.toNat (0,0,0,0,0,0)).2.2.2.2.1,.ii (h0.getD st1.toNat (0,0,0,0,0,0)).2.2.2.2.2])] ?_;obtain ⟨v0_2,hv23,h⟩:=zw h;refine zC [] [] (a6D (h0.getD st1.toNat (0,0,0,0,0,0)) ((h0.take st1.toNat).getD st2.toNat (0,0,0,0,0,0)) hv23) [(0,.sl Y0 h0),(4,.bp 4 0),(10,.sl Y0 h0),(11,.ii (h0.length:Int)),(12,.ii st1),(22,.sl Y0 (h0.take st1.toNat)),(23,.ii ((h0.take st1.toNat).length:Int)),(24,.ii st2),(30,.bool v0_2)] [(4,.box 62 [.ii (h0.getD st1.toNat (0,0,0,0,0,0)).1,.ii (h0.getD st1.toNat (0,0,0,0,0,0)).2.1,.ii (h0.getD st1.toNat (0,0,0,0,0,0)).2.2.1,.ii (h0.getD st1.toNat (0,0,0,0,0,0)).2.2.2.1,.ii (h0.getD st1.toNat (0,0,0,0,0,0)).2.2.2.2.1,.ii (h0.getD st1.toNat (0,0,0,0,0,0)).2.2.2.2.2])] ?_;refine zB [(0,.sl Y0 h0),(4,.bp 4 0),(10,.sl Y0 h0),(11,.ii (h0.length:Int)),(12,.ii st1),(22,.sl Y0 (h0.take st1.toNat)),(23,.ii ((h0.take st1.toNat).length:Int)),(24,.ii st2),(31,.bool (!v0_2))] [(4,.box 62 [.ii (h0.getD st1.toNat (0,0,0,0,0,0)).1,.ii (h0.getD st1.toNat (0,0,0,0,0,0)).2.1,.ii (h0.getD st1.toNat (0,0,0,0,0,0)).2.2.1,.ii (h0.getD st1.toNat (0,0,0,0,0,0)).2.2.2.1,.ii (h0.getD st1.toNat (0,0,0,0,0,0)).2.2.2.2.1,.ii (h0.getD st1.toNat (0,0,0,0,0,0)).2.2.2.2.2])] ?_;refine zQ h (fun hb24 h=>?_) (fun hb24 h=>?_)
     ·refine zo ?_;refine zB [(2,.bool false)] [] ?_;refine AW.ret ?_;refine d5 ?_;refine b9 ?_;obtain rfl:=zj h
      try rw [← hd17 _ rfl] at ho16
      have h:=ho16
      try simp only at h
      refine b9 ?_;refine d5 ?_;refine d5 ?_;refine b9 ?_;obtain rfl:=zj h
      try rw [← hd4 _ rfl] at ho3
      have h:=ho3
      try simp only at h
      refine b9 ?_;refine d5 ?_;refine b9 ?_;obtain rfl:=zj h;exact zR [] [] []
     refine zm ?_;refine f7 ?_;refine AW.ops ?_;obtain ⟨c25,h⟩:=b4.1 h;refine zA [(0,.sl Y0 h0),(4,.bp 4 0),(10,.sl Y0 h0),(11,.ii (h0.length:Int)),(12,.ii st1),(22,.sl Y0 (h0.take st1.toNat)),(23,.ii ((h0.take st1.toNat).length:Int)),(24,.ii (st2+1))] [(4,.box 62 [.ii (h0.getD st1.toNat (0,0,0,0,0,0)).1,.ii (h0.getD st1.toNat (0,0,0,0,0,0)).2.1,.ii (h0.getD st1.toNat (0,0,0,0,0,0)).2.2.1,.ii (h0.getD st1.toNat (0,0,0,0,0,0)).2.2.2.1,.ii (h0.getD st1.toNat (0,0,0,0,0,0)).2.2.2.2.1,.ii (h0.getD st1.toNat (0,0,0,0,0,0)).2.2.2.2.2])] ?_;obtain rfl:=zj h;exact ⟨_,rfl,zL [] [] []⟩
    refine AW.exit ?_;refine g4 ?_;obtain rfl:=zj h
    try rw [← hd17 _ rfl] at ho16
    have h:=ho16
    try simp only at h
    refine g4 ?_;refine j5 ?_;refine l8 ?_;refine f7 ?_;exact AW.weaken (zL [] [] []) (hk_history_Valid_k2 () h)
  refine AW.exit ?_;refine g4 ?_;obtain rfl:=zj h
  try rw [← hd4 _ rfl] at ho3
  have h:=ho3
  try simp only at h
  refine g4 ?_;refine j5 ?_;refine f7 ?_;exact AW.weaken (zL [] [] []) (hk_history_Valid_k1 () h)
theorem a7t (specs:ZS) (h0:ZH) {r:Bool} (h:a0v specs h0=some r):HC Tryz.prog 88 [] [.sl Y3 specs,.sl Y0 h0] [] (.bool r):=by
 unfold a0v at h;refine zH Tryz.func88 [.tmp 4] 30 ?_;refine zo ?_;refine zB [(0,.sl Y3 specs),(1,.sl Y0 h0)] [] ?_;refine AW.have1 (fun _:Unit=>a1p=some r) (fun _=>⟨fr [],b6 [],gt⟩) (fun _ h=>?_) (fun hk_history_fits_k1=>?_)
 ·as_aux_lemma =>
   unfold a1p at h;refine zo ?_;refine zB [(4,.bool true)] [] ?_;refine AW.ret ?_;obtain rfl:=zj h;exact zR [] [] []
 refine AW.seq ?_;refine zo ?_;refine zB [(0,.sl Y3 specs),(7,.sl Y0 h0),(8,.ii (h0.length:Int)),(9,.ii 0)] [] ?_;refine AW.block ?_;obtain ⟨rv5,hw1,ho2⟩:=zw h;refine AW.loopO (N2 specs h0) (fun st1=>⟨fr [(0,.sl Y3 specs),(7,.sl Y0 h0),(8,.ii (h0.length:Int)),(9,.ii st1)],b6 [],gt⟩) 0 hw1 (zL [] [] []) ?_
 as_aux_lemma =>
  intro st1 x4 h hd3;unfold N2 at h;refine zo ?_;refine zB [(0,.sl Y3 specs),(7,.sl Y0 h0),(8,.ii (h0.length:Int)),(9,.ii st1),(10,.bool (decide (st1<(h0.length:Int))))] [] ?_;refine AW.seq ?_;refine zQ h (fun hb6 h=>?_) (fun hb6 h=>?_)
  ·refine zk ?_;refine AW.seq ?_;refine AW.block ?_;refine zo ?_;obtain ⟨c7,h⟩:=b4.1 h;obtain ⟨c8,h⟩:=b4.1 h;refine zB [(0,.sl Y3 specs),(6,.bp 6 0),(7,.sl Y0 h0),(8,.ii (h0.length:Int)),(9,.ii st1)] [(6,.box 62 [.ii (h0.getD st1.toNat (0,0,0,0,0,0)).1,.ii (h0.getD st1.toNat (0,0,0,0,0,0)).2.1,.ii (h0.getD st1.toNat (0,0,0,0,0,0)).2.2.1,.ii (h0.getD st1.toNat (0,0,0,0,0,0)).2.2.2.1,.ii (h0.getD st1.toNat (0,0,0,0,0,0)).2.2.2.2.1,.ii (h0.getD st1.toNat (0,0,0,0,0,0)).2.2.2.2.2])] ?_;refine AW.seq ?_;refine AW.draw m7 l7 [] [] (by decide) (o8 (by kernel_rfl)) ?_
   as_aux_lemma =>
    refine d7 6 (fun K' hK9=>?_)
    try dsimp only [y1,y2,y3,y4]
    simp only [go_sem,hb6]
    repeat with_reducible refine zN ?_
    refine hK9 _ ?_
    as_aux_lemma =>
     rcases zI h with ⟨hb10,h⟩|⟨hb10,h⟩
     ·simp only [hb10]
      as_aux_lemma =>
       refine d7 4 (fun K' hK11=>?_)
       try dsimp only [y1,y2,y3,y4]
       simp only [go_sem,hb6,hb10]
       repeat with_reducible refine zN ?_
       refine hK11 _ ?_
       as_aux_lemma =>
        refine d7 4 (fun K' hK12=>?_)
        try dsimp only [y1,y2,y3,y4]
        simp only [go_sem,hb6,hb10]
        repeat with_reducible refine zN ?_
        refine hK12 _ ?_
        as_aux_lemma =>
         refine d7 2 (fun K' hK13=>?_)
         try dsimp only [y1,y2,y3,y4]
         simp only [go_sem,hb6,hb10]
         repeat with_reducible refine zN ?_
         refine hK13 _ ?_;refine g8 ?_;refine f7 ?_;refine zV [(0,.sl Y3 specs),(7,.sl Y0 h0),(8,.ii (h0.length:Int)),(9,.ii st1),(28,.bool true)] [] gt ?_
         as_aux_lemma =>
          refine AW.cond (b:=true) rfl (fun _=>?_) (fun hb14=>by cases hb14);refine zo ?_;refine zB [(4,.bool false)] [] ?_;refine AW.ret ?_;refine d5 ?_;refine b9 ?_;obtain rfl:=zj h
          try rw [← hd3 _ rfl] at ho2
          have h:=ho2
          try simp only at h
          refine b9 ?_;refine d5 ?_;refine b9 ?_;obtain rfl:=zj h;exact zR [] [] []
     simp only [hb10]
     as_aux_lemma =>
      obtain ⟨c16,h⟩:=b4.1 h;obtain ⟨c17,h⟩:=b4.1 h;refine d7 6 (fun K' hK15=>?_)
      try dsimp only [y1,y2,y3,y4]
      simp only [go_sem,hb6,hb10]
      repeat with_reducible refine zN ?_
      refine hK15 _ ?_
      as_aux_lemma =>
       refine d7 4 (fun K' hK18=>?_)
       try dsimp only [y1,y2,y3,y4]
       simp only [go_sem,hb6,hb10]
       repeat with_reducible refine zN ?_
       refine hK18 _ ?_;refine g8 ?_;refine f7 ?_;refine zV [(0,.sl Y3 specs),(7,.sl Y0 h0),(8,.ii (h0.length:Int)),(9,.ii st1),(28,.bool (decide ((specs.getD (h0.getD st1.toNat (0,0,0,0,0,0)).2.1.toNat (0,0,[],[])).2.1≤(h0.getD st1.toNat (0,0,0,0,0,0)).2.2.1)))] [] gt ?_
       as_aux_lemma =>
        refine zQ h (fun hb19 h=>?_) (fun hb19 h=>?_)
        ·refine zo ?_;refine zB [(4,.bool false)] [] ?_;refine AW.ret ?_;refine d5 ?_;refine b9 ?_;obtain rfl:=zj h
         try rw [← hd3 _ rfl] at ho2
         have h:=ho2
         try simp only at h
         refine b9 ?_;refine d5 ?_;refine b9 ?_;obtain rfl:=zj h;exact zR [] [] []
        refine zm ?_;refine f7 ?_;refine AW.ops ?_;obtain ⟨c20,h⟩:=b4.1 h;refine zA [(0,.sl Y3 specs),(7,.sl Y0 h0),(8,.ii (h0.length:Int)),(9,.ii (st1+1))] [] ?_;obtain rfl:=zj h;exact ⟨_,rfl,zL [] [] []⟩
  refine AW.exit ?_;refine g4 ?_;obtain rfl:=zj h
  try rw [← hd3 _ rfl] at ho2
  have h:=ho2
  try simp only at h
  refine g4 ?_;refine j5 ?_;refine f7 ?_;exact AW.weaken (zL [] [] []) (hk_history_fits_k1 () h)
theorem X4 (specs:ZS) (h0:ZH) {r:Int} (h:F2 specs h0=some r):HC Tryz.prog 51 [] [.sl Y3 specs,.sl Y0 h0] [] (.ii r):=by
 unfold F2 at h;refine zH Tryz.func51 [.tmp 4] 20 ?_;refine zo ?_;refine zB [(0,.sl Y3 specs),(1,.sl Y0 h0)] [] ?_;refine AW.seq ?_;refine zo ?_;refine zS 1 [(0,.sl Y3 specs),(1,.sl Y0 h0),(6,.sl Y3 specs)] [] ?_;obtain ⟨v0,hv1,h⟩:=zw h;refine zC [] [] (a3V specs hv1) [(0,.sl Y3 specs),(1,.sl Y0 h0),(7,.ii v0)] [] ?_;refine zB [(0,.sl Y3 specs),(1,.sl Y0 h0),(5,.ii v0)] [] ?_;refine zo ?_;refine zB [(0,.sl Y3 specs),(1,.sl Y0 h0),(5,.ii v0),(9,.bool (!(decide (v0=0))))] [] ?_;refine zQ h (fun hb2 h=>?_) (fun hb2 h=>?_)
 ·refine zo ?_;refine zB [(4,.ii v0)] [] ?_;refine zr ?_;obtain rfl:=zj h;exact zR [] [] []
 refine zk ?_;refine AW.seq ?_;refine zo ?_;refine zS 1 [(0,.sl Y3 specs),(1,.sl Y0 h0),(11,.sl Y0 h0)] [] ?_;obtain ⟨v0_2,hv3,h⟩:=zw h;refine zC [] [] (a6E h0 hv3) [(0,.sl Y3 specs),(1,.sl Y0 h0),(12,.bool v0_2)] [] ?_;refine zS 2 [(0,.sl Y3 specs),(1,.sl Y0 h0),(14,.bool (!v0_2))] [] ?_;rcases zI h with ⟨hb4,h⟩|⟨hb4,h⟩
 ·refine zS 4 [(14,.bool true),(18,.cv (undef))] [] ?_;refine zB [(19,.bool true)] [] ?_;refine AW.cond (b:=true) rfl (fun _=>?_) (fun hb5=>by cases hb5);refine zo ?_;refine zB [(4,.ii 20)] [] ?_;refine zr ?_;obtain rfl:=zj h;exact zR [] [] []
 refine zS 2 [(14,.bool false),(15,.sl Y3 specs),(16,.sl Y0 h0)] [] ?_;obtain ⟨v0_3,hv6,h⟩:=zw h;refine zG [] [] (a7t specs h0 hv6) [(14,.bool false),(17,.bool v0_3)] [] ?_;refine zB [(19,.bool (!v0_3))] [] ?_;refine zQ h (fun hb7 h=>?_) (fun hb7 h=>?_)
 ·refine zo ?_;refine zB [(4,.ii 20)] [] ?_;refine zr ?_;obtain rfl:=zj h;exact zR [] [] []
 refine zk ?_;refine zo ?_;refine zB [(4,.ii 0)] [] ?_;refine AW.ret ?_;obtain rfl:=zj h;exact zR [] [] []
theorem a4j (specs:ZS) (h0:ZH) {r:Unit} (h:T9 specs h0=some r):HC Tryz.prog 111 [] [.sl Y3 specs,.sl Y0 h0,.fn (.func 55) [] []] [(2000,.map true false Y6 .i [])] (.agg [.sl Y3 specs,.sl Y0 h0,.fn (.func 55) [] [],.own 2000]):=by
 unfold T9 at h;refine zH Tryz.func111 [.cell 6 168] 12 ?_;refine zo ?_;refine zB [(0,.sl Y3 specs),(1,.sl Y0 h0),(2,.fn (.func 55) [] []),(6,.bp 6 0)] [(6,.box 168 [.cv (.slice none 0 0),.cv (.slice none 0 0),.cv (.nilFunc),.cv (.map none)])] ?_;refine zo ?_;refine zS 3 [(6,.bp 6 0),(7,.sl Y3 specs),(8,.sl Y0 h0),(9,.fn (.func 55) [] [])] [(6,.box 168 [.cv (.slice none 0 0),.cv (.slice none 0 0),.cv (.nilFunc),.cv (.map none)])] ?_;refine AO.makeMap (ak:=true) (ae:=false) (kt:=Y6) (vt:=.i) (by decide) (by decide) rfl rfl ?_;refine zT [(6,.bp 6 0),(7,.sl Y3 specs),(8,.sl Y0 h0),(9,.fn (.func 55) [] []),(10,.own 10)] [(6,.box 168 [.cv (.slice none 0 0),.cv (.slice none 0 0),.cv (.nilFunc),.cv (.map none)]),(10,.map true false Y6 .i [])] gt ?_;refine zB [(6,.bp 6 0)] [(6,.box 168 [.sl Y3 specs,.sl Y0 h0,.fn (.func 55) [] [],.own 10]),(10,.map true false Y6 .i [])] ?_;refine AW.ret ?_;obtain rfl:=zj h;exact zR [] [] [(2000,10)]
theorem V2 (p:(Int×Int)×Int) (call:Int) {r:Unit} (h:D1 p call=some r):HC Tryz.prog 167 [] [.agg [.ii p.1.1,.ii p.1.2,.int .u64 p.2],.ii call] [] (.bool (!(decide ((a5h .u64 p.2 (a2C .u64 1 call))=0)))):=by
 unfold D1 at h;refine zH Tryz.func167 [.tmp 4] 11 ?_;refine zo ?_;refine zB [(1,.ii call),(2,.bp 2 0)] [(2,.box 172 [.ii p.1.1,.ii p.1.2,.int .u64 p.2])] ?_;refine AW.seq ?_;refine AW.draw m7 l7 [] [] (by decide) (by kernel_rfl) ?_
 as_aux_lemma =>
  obtain ⟨c2,h⟩:=b4.1 h;refine d7 6 (fun K' hK1=>?_)
  try dsimp only [y1,y2,y3,y4]
  simp only [go_sem]
  repeat with_reducible refine zN ?_
  refine hK1 _ ?_
  as_aux_lemma =>
   refine d7 1 (fun K' hK3=>?_)
   try dsimp only [y1,y2,y3,y4]
   simp only [go_sem]
   repeat with_reducible refine zN ?_
   refine hK3 _ ?_;refine g8 ?_;refine f7 ?_;refine zV [(4,.bool (!(decide ((a5h .u64 p.2 (a2C .u64 1 call))=0))))] [] gt ?_
   as_aux_lemma =>
    refine AW.ret ?_;obtain rfl:=zj h;exact zR [] [] []
theorem a3y (s:ZS) (s_2:ZH) (at0:(Int×Int)×Int) {r:Bool} (h:I4 s s_2 at0=some r):HC Tryz.prog 151 [] [.agg [.sl Y3 s,.sl Y0 s_2,.fn (.func 55) [] [],.one],.agg [.ii at0.1.1,.ii at0.1.2,.int .u64 at0.2]] [] (.bool r):=by
 unfold I4 at h;refine zH Tryz.func151 [.tmp 4] 25 ?_;refine zo ?_;refine zB [(2,.bp 2 0),(3,.bp 3 0)] [(2,.box 168 [.sl Y3 s,.sl Y0 s_2,.fn (.func 55) [] [],.one]),(3,.box 172 [.ii at0.1.1,.ii at0.1.2,.int .u64 at0.2])] ?_;refine AW.have1 (fun _:Unit=>S2=some r) (fun _=>⟨fr [],b6 [],gt⟩) (fun _ h=>?_) (fun hk_history_search_full_k1=>?_)
 ·as_aux_lemma =>
   unfold S2 at h;refine zo ?_;refine zB [(4,.bool true)] [] ?_;refine AW.ret ?_;obtain rfl:=zj h;exact zR [] [] []
 refine AW.seq ?_;refine zo ?_;refine zB [(3,.bp 3 0),(8,.sl Y0 s_2),(9,.ii (s_2.length:Int)),(10,.ii 0)] [(3,.box 172 [.ii at0.1.1,.ii at0.1.2,.int .u64 at0.2])] ?_;refine AW.block ?_;obtain ⟨rv5,hw1,ho2⟩:=zw h;refine AW.loopO (v6 s_2 at0) (fun st1=>⟨fr [(3,.bp 3 0),(8,.sl Y0 s_2),(9,.ii (s_2.length:Int)),(10,.ii st1)],b6 [(3,.box 172 [.ii at0.1.1,.ii at0.1.2,.int .u64 at0.2])],gt⟩) 0 hw1 (zL [] [] []) ?_
 as_aux_lemma =>
  intro st1 x4 h hd3;unfold v6 at h;refine zo ?_;refine zB [(3,.bp 3 0),(8,.sl Y0 s_2),(9,.ii (s_2.length:Int)),(10,.ii st1),(11,.bool (decide (st1<(s_2.length:Int))))] [(3,.box 172 [.ii at0.1.1,.ii at0.1.2,.int .u64 at0.2])] ?_;refine AW.seq ?_;refine zQ h (fun hb6 h=>?_) (fun hb6 h=>?_)
  ·refine zk ?_;refine AW.seq ?_;refine AW.block ?_;refine zo ?_;obtain ⟨c7,h⟩:=b4.1 h;obtain ⟨c8,h⟩:=b4.1 h;refine zS 5 [(3,.bp 3 0),(5,.ii st1),(6,.bp 6 0),(8,.sl Y0 s_2),(9,.ii (s_2.length:Int)),(10,.ii st1),(14,.agg [.ii (s_2.getD st1.toNat (0,0,0,0,0,0)).1,.ii (s_2.getD st1.toNat (0,0,0,0,0,0)).2.1,.ii (s_2.getD st1.toNat (0,0,0,0,0,0)).2.2.1,.ii (s_2.getD st1.toNat (0,0,0,0,0,0)).2.2.2.1,.ii (s_2.getD st1.toNat (0,0,0,0,0,0)).2.2.2.2.1,.ii (s_2.getD st1.toNat (0,0,0,0,0,0)).2.2.2.2.2])] [(3,.box 172 [.ii at0.1.1,.ii at0.1.2,.int .u64 at0.2]),(6,.box 62 [.ii 0,.ii 0,.ii 0,.ii 0,.ii 0,.ii 0])] ?_;refine zB [(3,.bp 3 0),(5,.ii st1),(6,.bp 6 0),(8,.sl Y0 s_2),(9,.ii (s_2.length:Int)),(10,.ii st1)] [(3,.box 172 [.ii at0.1.1,.ii at0.1.2,.int .u64 at0.2]),(6,.box 62 [.ii (s_2.getD st1.toNat (0,0,0,0,0,0)).1,.ii (s_2.getD st1.toNat (0,0,0,0,0,0)).2.1,.ii (s_2.getD st1.toNat (0,0,0,0,0,0)).2.2.1,.ii (s_2.getD st1.toNat (0,0,0,0,0,0)).2.2.2.1,.ii (s_2.getD st1.toNat (0,0,0,0,0,0)).2.2.2.2.1,.ii (s_2.getD st1.toNat (0,0,0,0,0,0)).2.2.2.2.2])] ?_;refine zo ?_;refine zS 4 [(3,.bp 3 0),(5,.ii st1),(8,.sl Y0 s_2),(9,.ii (s_2.length:Int)),(10,.ii st1),(18,.bool (!(decide ((s_2.getD st1.toNat (0,0,0,0,0,0)).2.2.2.2.2=0))))] [(3,.box 172 [.ii at0.1.1,.ii at0.1.2,.int .u64 at0.2])] ?_;rcases zI h with ⟨hb9,h⟩|⟨hb9,h⟩
   ·refine zS 2 [(3,.bp 3 0),(8,.sl Y0 s_2),(9,.ii (s_2.length:Int)),(10,.ii st1),(18,.bool true),(19,.agg [.ii at0.1.1,.ii at0.1.2,.int .u64 at0.2]),(20,.ii st1)] [(3,.box 172 [.ii at0.1.1,.ii at0.1.2,.int .u64 at0.2])] ?_;obtain ⟨v0,hv10,h⟩:=zw h;refine zG [] [] (V2 at0 st1 hv10) [(3,.bp 3 0),(8,.sl Y0 s_2),(9,.ii (s_2.length:Int)),(10,.ii st1),(18,.bool true),(21,.bool (!(decide ((a5h .u64 at0.2 (a2C .u64 1 st1))=0))))] [(3,.box 172 [.ii at0.1.1,.ii at0.1.2,.int .u64 at0.2])] ?_;refine zB [(3,.bp 3 0),(8,.sl Y0 s_2),(9,.ii (s_2.length:Int)),(10,.ii st1),(23,.bool (!(!(decide ((a5h .u64 at0.2 (a2C .u64 1 st1))=0)))))] [(3,.box 172 [.ii at0.1.1,.ii at0.1.2,.int .u64 at0.2])] ?_;refine zQ h (fun hb11 h=>?_) (fun hb11 h=>?_)
    ·refine zo ?_;refine zB [(4,.bool false)] [] ?_;refine AW.ret ?_;refine d5 ?_;refine b9 ?_;obtain rfl:=zj h
     try rw [← hd3 _ rfl] at ho2
     have h:=ho2
     try simp only at h
     refine b9 ?_;refine d5 ?_;refine b9 ?_;obtain rfl:=zj h;exact zR [] [] []
    refine zm ?_;refine f7 ?_;refine AW.ops ?_;obtain ⟨c12,h⟩:=b4.1 h;refine zA [(3,.bp 3 0),(8,.sl Y0 s_2),(9,.ii (s_2.length:Int)),(10,.ii (st1+1))] [(3,.box 172 [.ii at0.1.1,.ii at0.1.2,.int .u64 at0.2])] ?_;obtain rfl:=zj h;exact ⟨_,rfl,zL [] [] []⟩
   refine zS 4 [(3,.bp 3 0),(8,.sl Y0 s_2),(9,.ii (s_2.length:Int)),(10,.ii st1),(18,.bool false),(22,.cv (undef))] [(3,.box 172 [.ii at0.1.1,.ii at0.1.2,.int .u64 at0.2])] ?_;refine zB [(3,.bp 3 0),(8,.sl Y0 s_2),(9,.ii (s_2.length:Int)),(10,.ii st1),(23,.bool false)] [(3,.box 172 [.ii at0.1.1,.ii at0.1.2,.int .u64 at0.2])] ?_;refine AW.cond (b:=false) rfl (fun hb13=>by cases hb13) (fun _=>?_);refine zm ?_;refine f7 ?_;refine AW.ops ?_;obtain ⟨c14,h⟩:=b4.1 h;refine zA [(3,.bp 3 0),(8,.sl Y0 s_2),(9,.ii (s_2.length:Int)),(10,.ii (st1+1))] [(3,.box 172 [.ii at0.1.1,.ii at0.1.2,.int .u64 at0.2])] ?_;obtain rfl:=zj h;exact ⟨_,rfl,zL [] [] []⟩
  refine AW.exit ?_;refine g4 ?_;obtain rfl:=zj h
  try rw [← hd3 _ rfl] at ho2
  have h:=ho2
  try simp only at h
  refine g4 ?_;refine j5 ?_;refine f7 ?_;exact AW.weaken (zL [] [] []) (hk_history_search_full_k1 () h)
end Go.Proofs.YtanaeefeggokkaaGreat
