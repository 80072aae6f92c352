import Derived.Test.YteclokkdgmacpaaGrp
import Derived.Test.YteclokkdgmacpaaSh7
import Derived.Test.YteclokkdgmacpaaKoc12
import Derived.Test.YteclokkdgmacpaaKoc18
import Derived.Test.YteclokkdgmacpaaKoc6
import Derived.Test.YteclokkdgmacpaaKoc7
import Derived.Test.YteclokkdgmacpaaKoc8
import Derived.Test.YteclokkdgmacpaaKoc9
import Derived.Test.YteclokkdgmacpaaYa7
namespace Go.Proofs.Yteclokkdgmacpaa
open Go.RowKit
set_option linter.unusedSimpArgs false
set_option linter.unusedVariables false
set_option linter.constructorNameAsVariable false
set_option maxRecDepth 100000
set_option maxHeartbeats 40000000
theorem hc_linealtop_TopProgress (g:Int×(List (Int×Int×Int×Bool))) (ranks:List Int) (path:List Int) (circle:List Int) {r:Bool} (h:linealtop_TopProgress g ranks path circle=some r):HC Try.prog 14 [] [.agg [.ii g.1,.sl Y7 g.2],.sl (.int .i64) ranks,.sl (.int .i64) path,.sl (.int .i64) circle] [] (.bool r):=by
 unfold linealtop_TopProgress at h
 refine zH Try.func14 [.tmp 8] 242 ?_
 refine zo ?_
 refine zB [(1,.sl (.int .i64) ranks),(2,.sl (.int .i64) path),(3,.sl (.int .i64) circle),(4,.bp 4 0)] [(4,.box 24 [.ii g.1,.sl Y7 g.2])] ?_
 refine AW.seq ?_
 refine zo ?_
 refine zS 1 [(1,.sl (.int .i64) ranks),(2,.sl (.int .i64) path),(3,.sl (.int .i64) circle),(4,.bp 4 0),(30,.agg [.ii g.1,.sl Y7 g.2])] [(4,.box 24 [.ii g.1,.sl Y7 g.2])] ?_
 obtain ⟨v0,hv1,h⟩:=zw h
 refine zC [] [] (hc_lineallaw07_Long g hv1) [(1,.sl (.int .i64) ranks),(2,.sl (.int .i64) path),(3,.sl (.int .i64) circle),(4,.bp 4 0),(31,.bool (decide (100<(g.2.length:Int))))] [(4,.box 24 [.ii g.1,.sl Y7 g.2])] ?_
 refine zS 1 [(1,.sl (.int .i64) ranks),(2,.sl (.int .i64) path),(3,.sl (.int .i64) circle),(4,.bp 4 0),(32,.bool (decide (100<(g.2.length:Int))))] [(4,.box 24 [.ii g.1,.sl Y7 g.2])] ?_
 rcases zI h with ⟨hb2,h⟩|⟨hb2,h⟩
 ·refine zS 5 [(1,.sl (.int .i64) ranks),(2,.sl (.int .i64) path),(3,.sl (.int .i64) circle),(4,.bp 4 0),(37,.bool true)] [(4,.box 24 [.ii g.1,.sl Y7 g.2])] ?_
  refine zS 5 [(1,.sl (.int .i64) ranks),(2,.sl (.int .i64) path),(3,.sl (.int .i64) circle),(4,.bp 4 0),(42,.bool true)] [(4,.box 24 [.ii g.1,.sl Y7 g.2])] ?_
  refine zS 5 [(1,.sl (.int .i64) ranks),(2,.sl (.int .i64) path),(3,.sl (.int .i64) circle),(4,.bp 4 0),(47,.bool true)] [(4,.box 24 [.ii g.1,.sl Y7 g.2])] ?_
  refine zB [(1,.sl (.int .i64) ranks),(2,.sl (.int .i64) path),(3,.sl (.int .i64) circle),(4,.bp 4 0),(51,.bool true)] [(4,.box 24 [.ii g.1,.sl Y7 g.2])] ?_
  refine AW.cond (b:=true) rfl (fun _=>?_) (fun hb3=>by cases hb3)
  refine zo ?_
  obtain ⟨v0_2,hv4,h⟩:=zw h
  refine zC [] [] (hc_lineallaw07_Awake hv4) [(52,.bool v0_2)] [] ?_
  refine zB [(8,.bool v0_2)] [] ?_
  refine zr ?_
  obtain rfl:=zj h
  exact zR [] [] []
 refine zS 1 [(1,.sl (.int .i64) ranks),(2,.sl (.int .i64) path),(3,.sl (.int .i64) circle),(4,.bp 4 0),(32,.bool false),(33,.agg [.ii g.1,.sl Y7 g.2])] [(4,.box 24 [.ii g.1,.sl Y7 g.2])] ?_
 obtain ⟨v0_3,hv5,h⟩:=zw h
 refine zG [] [] (hc_linealref07_Valid g hv5) [(1,.sl (.int .i64) ranks),(2,.sl (.int .i64) path),(3,.sl (.int .i64) circle),(4,.bp 4 0),(32,.bool false),(34,.bool v0_3)] [(4,.box 24 [.ii g.1,.sl Y7 g.2])] ?_
 refine zS 3 [(1,.sl (.int .i64) ranks),(2,.sl (.int .i64) path),(3,.sl (.int .i64) circle),(4,.bp 4 0),(37,.bool (!v0_3))] [(4,.box 24 [.ii g.1,.sl Y7 g.2])] ?_
 rcases zI h with ⟨hb6,h⟩|⟨hb6,h⟩
 ·refine zS 5 [(1,.sl (.int .i64) ranks),(2,.sl (.int .i64) path),(3,.sl (.int .i64) circle),(4,.bp 4 0),(42,.bool true)] [(4,.box 24 [.ii g.1,.sl Y7 g.2])] ?_
  refine zS 5 [(1,.sl (.int .i64) ranks),(2,.sl (.int .i64) path),(3,.sl (.int .i64) circle),(4,.bp 4 0),(47,.bool true)] [(4,.box 24 [.ii g.1,.sl Y7 g.2])] ?_
  refine zB [(1,.sl (.int .i64) ranks),(2,.sl (.int .i64) path),(3,.sl (.int .i64) circle),(4,.bp 4 0),(51,.bool true)] [(4,.box 24 [.ii g.1,.sl Y7 g.2])] ?_
  refine AW.cond (b:=true) rfl (fun _=>?_) (fun hb7=>by cases hb7)
  refine zo ?_
  obtain ⟨v0_4,hv8,h⟩:=zw h
  refine zC [] [] (hc_lineallaw07_Awake hv8) [(52,.bool v0_4)] [] ?_
  refine zB [(8,.bool v0_4)] [] ?_
  refine zr ?_
  obtain rfl:=zj h
  exact zR [] [] []
 refine zS 5 [(1,.sl (.int .i64) ranks),(2,.sl (.int .i64) path),(3,.sl (.int .i64) circle),(4,.bp 4 0),(42,.bool (decide (100<(ranks.length:Int))))] [(4,.box 24 [.ii g.1,.sl Y7 g.2])] ?_
 rcases zI h with ⟨hb9,h⟩|⟨hb9,h⟩
 ·refine zS 5 [(1,.sl (.int .i64) ranks),(2,.sl (.int .i64) path),(3,.sl (.int .i64) circle),(4,.bp 4 0),(47,.bool true)] [(4,.box 24 [.ii g.1,.sl Y7 g.2])] ?_
  refine zB [(1,.sl (.int .i64) ranks),(2,.sl (.int .i64) path),(3,.sl (.int .i64) circle),(4,.bp 4 0),(51,.bool true)] [(4,.box 24 [.ii g.1,.sl Y7 g.2])] ?_
  refine AW.cond (b:=true) rfl (fun _=>?_) (fun hb10=>by cases hb10)
  refine zo ?_
  obtain ⟨v0_5,hv11,h⟩:=zw h
  refine zC [] [] (hc_lineallaw07_Awake hv11) [(52,.bool v0_5)] [] ?_
  refine zB [(8,.bool v0_5)] [] ?_
  refine zr ?_
  obtain rfl:=zj h
  exact zR [] [] []
 refine zS 5 [(1,.sl (.int .i64) ranks),(2,.sl (.int .i64) path),(3,.sl (.int .i64) circle),(4,.bp 4 0),(47,.bool (decide (1100<(path.length:Int))))] [(4,.box 24 [.ii g.1,.sl Y7 g.2])] ?_
 rcases zI h with ⟨hb12,h⟩|⟨hb12,h⟩
 ·refine zB [(1,.sl (.int .i64) ranks),(2,.sl (.int .i64) path),(3,.sl (.int .i64) circle),(4,.bp 4 0),(51,.bool true)] [(4,.box 24 [.ii g.1,.sl Y7 g.2])] ?_
  refine AW.cond (b:=true) rfl (fun _=>?_) (fun hb13=>by cases hb13)
  refine zo ?_
  obtain ⟨v0_6,hv14,h⟩:=zw h
  refine zC [] [] (hc_lineallaw07_Awake hv14) [(52,.bool v0_6)] [] ?_
  refine zB [(8,.bool v0_6)] [] ?_
  refine zr ?_
  obtain rfl:=zj h
  exact zR [] [] []
 refine zB [(1,.sl (.int .i64) ranks),(2,.sl (.int .i64) path),(3,.sl (.int .i64) circle),(4,.bp 4 0),(51,.bool (decide (1100<(circle.length:Int))))] [(4,.box 24 [.ii g.1,.sl Y7 g.2])] ?_
 refine zQ h (fun hb15 h=>?_) (fun hb15 h=>?_)
 ·refine zo ?_
  obtain ⟨v0_7,hv16,h⟩:=zw h
  refine zC [] [] (hc_lineallaw07_Awake hv16) [(52,.bool v0_7)] [] ?_
  refine zB [(8,.bool v0_7)] [] ?_
  refine zr ?_
  obtain rfl:=zj h
  exact zR [] [] []
 refine zk ?_
 refine zo ?_
 refine zB [(1,.sl (.int .i64) ranks),(2,.sl (.int .i64) path),(3,.sl (.int .i64) circle),(4,.bp 4 0),(9,.bp 9 0)] [(4,.box 24 [.ii g.1,.sl Y7 g.2]),(9,.box 67 (cellsX T67 (Ty.dflt T67)))] ?_
 refine AW.have1 (fun b4_2:(El T67)=>linealtop_TopProgress_k1 g b4_2=some r) (fun b4_2=>⟨fr [(4,.bp 4 0),(9,.bp 9 0)],hpGet [(4,.box 24 [.ii g.1,.sl Y7 g.2]),(9,.box 67 (cellsX T67 b4_2))],gt⟩) (fun b4_2 h=>?_) (fun hk_linealtop_TopProgress_k1=>?_)
 ·as_aux_lemma =>
   unfold linealtop_TopProgress_k1 at h
   refine zo ?_
   refine zS 1 [(9,.bp 9 0),(189,.agg [.ii g.1,.sl Y7 g.2])] [(9,.box 67 (cellsX T67 b4_2))] ?_
   obtain ⟨v0_15,hv17,h⟩:=zw h
   refine zC [] [] (hc_progress_Everybody g hv17) [(9,.bp 9 0),(190,.tup [.bool v0_15.1,.ii v0_15.2])] [(9,.box 67 (cellsX T67 b4_2))] ?_
   refine zB [(9,.bp 9 0),(27,.bool v0_15.1),(28,.ii v0_15.2)] [(9,.box 67 (cellsX T67 b4_2))] ?_
   refine AW.have1 (fun _:Unit=>linealtop_TopProgress_k5 b4_2=some r) (fun _=>⟨fr [(9,.bp 9 0)],hpGet [(9,.box 67 (cellsX T67 b4_2))],gt⟩) (fun _ h=>?_) (fun hk_linealtop_TopProgress_k5=>?_)
   ·as_aux_lemma =>
     unfold linealtop_TopProgress_k5 at h
     refine AW.have1 (fun _:Unit=>linealtop_TopProgress_k6=some r) (fun _=>⟨fr [],hpGet [],gt⟩) (fun _ h=>?_) (fun hk_linealtop_TopProgress_k6=>?_)
     ·as_aux_lemma =>
       unfold linealtop_TopProgress_k6 at h
       refine zo ?_
       obtain ⟨v0_16,hv18,h⟩:=zw h
       refine zC [] [] (hc_lineallaw07_Awake hv18) [(241,.bool v0_16)] [] ?_
       refine zB [(8,.bool v0_16)] [] ?_
       refine AW.ret ?_
       obtain rfl:=zj h
       exact zR [] [] []
     refine AW.seq ?_
     refine zo ?_
     refine zB [(9,.bp 9 0),(221,.ii 0)] [(9,.box 67 (cellsX T67 b4_2))] ?_
     refine AW.block ?_
     obtain ⟨rv23,hw19,ho20⟩:=zw h
     refine AW.loopO (linealtop_TopProgress_b3 b4_2) (fun st3=>⟨fr [(9,.bp 9 0),(221,.ii st3)],hpGet [(9,.box 67 (cellsX T67 b4_2))],gt⟩) 0 hw19 (zL [] [] []) ?_
     as_aux_lemma =>
      intro st3 x22 h hd21
      unfold linealtop_TopProgress_b3 at h
      refine zo ?_
      refine zB [(9,.bp 9 0),(221,.ii st3),(222,.bool (decide (st3<3)))] [(9,.box 67 (cellsX T67 b4_2))] ?_
      refine AW.seq ?_
      refine zQ h (fun hb24 h=>?_) (fun hb24 h=>?_)
      ·refine zk ?_
       refine AW.seq ?_
       refine AW.block ?_
       refine zo ?_
       refine zB [(9,.bp 9 0),(29,.ii st3),(221,.ii st3)] [(9,.box 67 (cellsX T67 b4_2))] ?_
       refine zo ?_
       have hx25:0<9:=by omega
       refine zS 4 [(9,.bp 9 0),(29,.ii st3),(221,.ii st3),(227,.bool (boolAt T67 b4_2 0))] [(9,.box 67 (cellsX T67 b4_2))] ?_
       rcases zI h with ⟨hb26,h⟩|⟨hb26,h⟩
       ·refine zS 4 [(9,.bp 9 0),(29,.ii st3),(221,.ii st3),(227,.bool true),(231,.cv (undef))] [(9,.box 67 (cellsX T67 b4_2))] ?_
        obtain ⟨c27,h⟩:=ck_some.1 h
        obtain ⟨c28,h⟩:=ck_some.1 h
        refine zS 5 [(9,.bp 9 0),(221,.ii st3),(233,.bool true),(236,.bp 9 (6+st3.toNat*1))] [(9,.box 67 (cellsX T67 b4_2))] ?_
        have hx29:(6+st3.toNat*1)<9:=by omega
        refine zB [(9,.bp 9 0),(221,.ii st3),(239,.bool (!(boolAt T67 b4_2 (6+st3.toNat*1))))] [(9,.box 67 (cellsX T67 b4_2))] ?_
        refine zQ h (fun hb30 h=>?_) (fun hb30 h=>?_)
        ·refine zo ?_
         refine zB [(8,.bool false)] [] ?_
         refine AW.ret ?_
         refine ablock_r ?_
         refine athen_r ?_
         obtain rfl:=zj h
         rw [← hd21 _ rfl] at ho20
         have h:=ho20
         try simp only at h
         refine athen_r ?_
         refine ablock_r ?_
         refine athen_r ?_
         obtain rfl:=zj h
         exact zR [] [] []
        refine zm ?_
        refine athen_n ?_
        refine AW.ops ?_
        obtain ⟨c31,h⟩:=ck_some.1 h
        refine zA [(9,.bp 9 0),(221,.ii (st3+1))] [(9,.box 67 (cellsX T67 b4_2))] ?_
        obtain rfl:=zj h
        exact ⟨_,rfl,zL [] [] []⟩
       obtain ⟨c32,h⟩:=ck_some.1 h
       obtain ⟨c33,h⟩:=ck_some.1 h
       have hx34:(3+st3.toNat*1)<9:=by omega
       refine zS 5 [(9,.bp 9 0),(29,.ii st3),(221,.ii st3),(232,.bool (boolAt T67 b4_2 (3+st3.toNat*1)))] [(9,.box 67 (cellsX T67 b4_2))] ?_
       refine zS 1 [(9,.bp 9 0),(29,.ii st3),(221,.ii st3),(233,.bool (boolAt T67 b4_2 (3+st3.toNat*1)))] [(9,.box 67 (cellsX T67 b4_2))] ?_
       rcases zI h with ⟨hb35,h⟩|⟨hb35,h⟩
       ·obtain ⟨c36,h⟩:=ck_some.1 h
        obtain ⟨c37,h⟩:=ck_some.1 h
        have hx38:(6+st3.toNat*1)<9:=by omega
        refine zS 5 [(9,.bp 9 0),(221,.ii st3),(233,.bool true),(238,.bool (!(boolAt T67 b4_2 (6+st3.toNat*1))))] [(9,.box 67 (cellsX T67 b4_2))] ?_
        refine zB [(9,.bp 9 0),(221,.ii st3),(239,.bool (!(boolAt T67 b4_2 (6+st3.toNat*1))))] [(9,.box 67 (cellsX T67 b4_2))] ?_
        refine zQ h (fun hb39 h=>?_) (fun hb39 h=>?_)
        ·refine zo ?_
         refine zB [(8,.bool false)] [] ?_
         refine AW.ret ?_
         refine ablock_r ?_
         refine athen_r ?_
         obtain rfl:=zj h
         rw [← hd21 _ rfl] at ho20
         have h:=ho20
         try simp only at h
         refine athen_r ?_
         refine ablock_r ?_
         refine athen_r ?_
         obtain rfl:=zj h
         exact zR [] [] []
        refine zm ?_
        refine athen_n ?_
        refine AW.ops ?_
        obtain ⟨c40,h⟩:=ck_some.1 h
        refine zA [(9,.bp 9 0),(221,.ii (st3+1))] [(9,.box 67 (cellsX T67 b4_2))] ?_
        obtain rfl:=zj h
        exact ⟨_,rfl,zL [] [] []⟩
       refine zS 4 [(9,.bp 9 0),(221,.ii st3),(233,.bool false),(237,.cv (undef))] [(9,.box 67 (cellsX T67 b4_2))] ?_
       refine zB [(9,.bp 9 0),(221,.ii st3),(239,.bool false)] [(9,.box 67 (cellsX T67 b4_2))] ?_
       refine AW.cond (b:=false) rfl (fun hb41=>by cases hb41) (fun _=>?_)
       refine zm ?_
       refine athen_n ?_
       refine AW.ops ?_
       obtain ⟨c42,h⟩:=ck_some.1 h
       refine zA [(9,.bp 9 0),(221,.ii (st3+1))] [(9,.box 67 (cellsX T67 b4_2))] ?_
       obtain rfl:=zj h
       exact ⟨_,rfl,zL [] [] []⟩
      refine AW.exit ?_
      refine athen_e ?_
      obtain rfl:=zj h
      rw [← hd21 _ rfl] at ho20
      have h:=ho20
      try simp only at h
      refine athen_e ?_
      refine ablock_s ?_
      refine athen_n ?_
      exact AW.weaken (zL [] [] []) (hk_linealtop_TopProgress_k6 () h)
   refine AW.seq ?_
   refine zo ?_
   refine zS 3 [(9,.bp 9 0),(27,.bool v0_15.1),(195,.bool (!(decide (v0_15.2=0))))] [(9,.box 67 (cellsX T67 b4_2))] ?_
   rcases zI h with ⟨hb43,h⟩|⟨hb43,h⟩
   ·refine zS 4 [(9,.bp 9 0),(27,.bool v0_15.1),(195,.bool true),(196,.cv (undef)),(199,.cv (undef))] [(9,.box 67 (cellsX T67 b4_2))] ?_
    refine zS 4 [(9,.bp 9 0),(27,.bool v0_15.1),(195,.bool true),(196,.cv (undef)),(200,.cv (undef)),(203,.cv (undef))] [(9,.box 67 (cellsX T67 b4_2))] ?_
    refine zS 4 [(9,.bp 9 0),(27,.bool v0_15.1),(195,.bool true),(196,.cv (undef)),(205,.cv (undef)),(207,.cv (undef))] [(9,.box 67 (cellsX T67 b4_2))] ?_
    refine zS 5 [(9,.bp 9 0),(27,.bool v0_15.1),(212,.bool true)] [(9,.box 67 (cellsX T67 b4_2))] ?_
    refine zS 4 [(9,.bp 9 0),(212,.bool true),(214,.cv (undef)),(216,.cv (undef))] [(9,.box 67 (cellsX T67 b4_2))] ?_
    refine zB [(9,.bp 9 0),(220,.bool true)] [(9,.box 67 (cellsX T67 b4_2))] ?_
    refine AW.cond (b:=true) rfl (fun _=>?_) (fun hb44=>by cases hb44)
    refine zo ?_
    refine zB [(8,.bool false)] [] ?_
    refine zr ?_
    obtain rfl:=zj h
    exact zR [] [] []
   have hx45:3<9:=by omega
   refine zS 5 [(9,.bp 9 0),(27,.bool v0_15.1),(195,.bool false),(196,.bool v0_15.1),(200,.bool (boolAt T67 b4_2 3))] [(9,.box 67 (cellsX T67 b4_2))] ?_
   rcases zI h with ⟨hb46,h⟩|⟨hb46,h⟩
   ·have hx47:4<9:=by omega
    refine zS 5 [(9,.bp 9 0),(27,.bool v0_15.1),(195,.bool false),(196,.bool v0_15.1),(205,.bool (boolAt T67 b4_2 4))] [(9,.box 67 (cellsX T67 b4_2))] ?_
    rcases zI h with ⟨hb48,h⟩|⟨hb48,h⟩
    ·have hx49:5<9:=by omega
     refine zS 5 [(9,.bp 9 0),(27,.bool v0_15.1),(195,.bool false),(210,.bool ((v0_15.1==(boolAt T67 b4_2 5)) != true))] [(9,.box 67 (cellsX T67 b4_2))] ?_
     refine zS 2 [(9,.bp 9 0),(27,.bool v0_15.1),(212,.bool ((v0_15.1==(boolAt T67 b4_2 5)) != true))] [(9,.box 67 (cellsX T67 b4_2))] ?_
     rcases zI h with ⟨hb50,h⟩|⟨hb50,h⟩
     ·refine zS 4 [(9,.bp 9 0),(212,.bool true),(214,.cv (undef)),(216,.cv (undef))] [(9,.box 67 (cellsX T67 b4_2))] ?_
      refine zB [(9,.bp 9 0),(220,.bool true)] [(9,.box 67 (cellsX T67 b4_2))] ?_
      refine AW.cond (b:=true) rfl (fun _=>?_) (fun hb51=>by cases hb51)
      refine zo ?_
      refine zB [(8,.bool false)] [] ?_
      refine zr ?_
      obtain rfl:=zj h
      exact zR [] [] []
     refine zS 2 [(9,.bp 9 0),(212,.bool false),(214,.bool v0_15.1)] [(9,.box 67 (cellsX T67 b4_2))] ?_
     rcases zI h with ⟨hb52,h⟩|⟨hb52,h⟩
     ·have hx53:0<9:=by omega
      refine zS 5 [(9,.bp 9 0),(212,.bool false),(219,.bool (!(boolAt T67 b4_2 0)))] [(9,.box 67 (cellsX T67 b4_2))] ?_
      refine zB [(9,.bp 9 0),(220,.bool (!(boolAt T67 b4_2 0)))] [(9,.box 67 (cellsX T67 b4_2))] ?_
      refine zQ h (fun hb54 h=>?_) (fun hb54 h=>?_)
      ·refine zo ?_
       refine zB [(8,.bool false)] [] ?_
       refine zr ?_
       obtain rfl:=zj h
       exact zR [] [] []
      refine zk ?_
      exact AW.weaken (zL [] [] []) (hk_linealtop_TopProgress_k5 () h)
     refine zS 4 [(9,.bp 9 0),(212,.bool false),(214,.bool false),(218,.cv (undef))] [(9,.box 67 (cellsX T67 b4_2))] ?_
     refine zB [(9,.bp 9 0),(220,.bool false)] [(9,.box 67 (cellsX T67 b4_2))] ?_
     refine AW.cond (b:=false) rfl (fun hb55=>by cases hb55) (fun _=>?_)
     refine zk ?_
     exact AW.weaken (zL [] [] []) (hk_linealtop_TopProgress_k5 () h)
    refine zS 5 [(9,.bp 9 0),(27,.bool v0_15.1),(195,.bool false),(210,.bool ((v0_15.1==false) != true))] [(9,.box 67 (cellsX T67 b4_2))] ?_
    refine zS 2 [(9,.bp 9 0),(27,.bool v0_15.1),(212,.bool ((v0_15.1==false) != true))] [(9,.box 67 (cellsX T67 b4_2))] ?_
    rcases zI h with ⟨hb56,h⟩|⟨hb56,h⟩
    ·refine zS 4 [(9,.bp 9 0),(212,.bool true),(214,.cv (undef)),(216,.cv (undef))] [(9,.box 67 (cellsX T67 b4_2))] ?_
     refine zB [(9,.bp 9 0),(220,.bool true)] [(9,.box 67 (cellsX T67 b4_2))] ?_
     refine AW.cond (b:=true) rfl (fun _=>?_) (fun hb57=>by cases hb57)
     refine zo ?_
     refine zB [(8,.bool false)] [] ?_
     refine zr ?_
     obtain rfl:=zj h
     exact zR [] [] []
    refine zS 2 [(9,.bp 9 0),(212,.bool false),(214,.bool v0_15.1)] [(9,.box 67 (cellsX T67 b4_2))] ?_
    rcases zI h with ⟨hb58,h⟩|⟨hb58,h⟩
    ·have hx59:0<9:=by omega
     refine zS 5 [(9,.bp 9 0),(212,.bool false),(219,.bool (!(boolAt T67 b4_2 0)))] [(9,.box 67 (cellsX T67 b4_2))] ?_
     refine zB [(9,.bp 9 0),(220,.bool (!(boolAt T67 b4_2 0)))] [(9,.box 67 (cellsX T67 b4_2))] ?_
     refine zQ h (fun hb60 h=>?_) (fun hb60 h=>?_)
     ·refine zo ?_
      refine zB [(8,.bool false)] [] ?_
      refine zr ?_
      obtain rfl:=zj h
      exact zR [] [] []
     refine zk ?_
     exact AW.weaken (zL [] [] []) (hk_linealtop_TopProgress_k5 () h)
    refine zS 4 [(9,.bp 9 0),(212,.bool false),(214,.bool false),(218,.cv (undef))] [(9,.box 67 (cellsX T67 b4_2))] ?_
    refine zB [(9,.bp 9 0),(220,.bool false)] [(9,.box 67 (cellsX T67 b4_2))] ?_
    refine AW.cond (b:=false) rfl (fun hb61=>by cases hb61) (fun _=>?_)
    refine zk ?_
    exact AW.weaken (zL [] [] []) (hk_linealtop_TopProgress_k5 () h)
   refine zS 5 [(9,.bp 9 0),(27,.bool v0_15.1),(195,.bool false),(196,.bool v0_15.1),(205,.bool false)] [(9,.box 67 (cellsX T67 b4_2))] ?_
   refine zS 5 [(9,.bp 9 0),(27,.bool v0_15.1),(195,.bool false),(210,.bool ((v0_15.1==false) != true))] [(9,.box 67 (cellsX T67 b4_2))] ?_
   refine zS 2 [(9,.bp 9 0),(27,.bool v0_15.1),(212,.bool ((v0_15.1==false) != true))] [(9,.box 67 (cellsX T67 b4_2))] ?_
   rcases zI h with ⟨hb62,h⟩|⟨hb62,h⟩
   ·refine zS 4 [(9,.bp 9 0),(212,.bool true),(214,.cv (undef)),(216,.cv (undef))] [(9,.box 67 (cellsX T67 b4_2))] ?_
    refine zB [(9,.bp 9 0),(220,.bool true)] [(9,.box 67 (cellsX T67 b4_2))] ?_
    refine AW.cond (b:=true) rfl (fun _=>?_) (fun hb63=>by cases hb63)
    refine zo ?_
    refine zB [(8,.bool false)] [] ?_
    refine zr ?_
    obtain rfl:=zj h
    exact zR [] [] []
   refine zS 2 [(9,.bp 9 0),(212,.bool false),(214,.bool v0_15.1)] [(9,.box 67 (cellsX T67 b4_2))] ?_
   rcases zI h with ⟨hb64,h⟩|⟨hb64,h⟩
   ·have hx65:0<9:=by omega
    refine zS 5 [(9,.bp 9 0),(212,.bool false),(219,.bool (!(boolAt T67 b4_2 0)))] [(9,.box 67 (cellsX T67 b4_2))] ?_
    refine zB [(9,.bp 9 0),(220,.bool (!(boolAt T67 b4_2 0)))] [(9,.box 67 (cellsX T67 b4_2))] ?_
    refine zQ h (fun hb66 h=>?_) (fun hb66 h=>?_)
    ·refine zo ?_
     refine zB [(8,.bool false)] [] ?_
     refine zr ?_
     obtain rfl:=zj h
     exact zR [] [] []
    refine zk ?_
    exact AW.weaken (zL [] [] []) (hk_linealtop_TopProgress_k5 () h)
   refine zS 4 [(9,.bp 9 0),(212,.bool false),(214,.bool false),(218,.cv (undef))] [(9,.box 67 (cellsX T67 b4_2))] ?_
   refine zB [(9,.bp 9 0),(220,.bool false)] [(9,.box 67 (cellsX T67 b4_2))] ?_
   refine AW.cond (b:=false) rfl (fun hb67=>by cases hb67) (fun _=>?_)
   refine zk ?_
   exact AW.weaken (zL [] [] []) (hk_linealtop_TopProgress_k5 () h)
 refine AW.seq ?_
 refine zo ?_
 refine zB [(1,.sl (.int .i64) ranks),(2,.sl (.int .i64) path),(3,.sl (.int .i64) circle),(4,.bp 4 0),(9,.bp 9 0),(53,.ii 0)] [(4,.box 24 [.ii g.1,.sl Y7 g.2]),(9,.box 67 (cellsX T67 (Ty.dflt T67)))] ?_
 refine AW.block ?_
 obtain ⟨rv72,hw68,ho69⟩:=zw h
 refine AW.loopO (linealtop_TopProgress_b1 g ranks path circle) (fun st1=>⟨fr [(1,.sl (.int .i64) ranks),(2,.sl (.int .i64) path),(3,.sl (.int .i64) circle),(4,.bp 4 0),(9,.bp 9 0),(53,.ii st1.2)],hpGet [(4,.box 24 [.ii g.1,.sl Y7 g.2]),(9,.box 67 (cellsX T67 st1.1))],gt⟩) ((Ty.dflt T67),0) hw68 (zL [] [] []) ?_
 as_aux_lemma =>
  intro st1 x71 h hd70
  unfold linealtop_TopProgress_b1 at h
  refine zo ?_
  refine zB [(1,.sl (.int .i64) ranks),(2,.sl (.int .i64) path),(3,.sl (.int .i64) circle),(4,.bp 4 0),(9,.bp 9 0),(53,.ii st1.2),(54,.bool (decide (st1.2<3)))] [(4,.box 24 [.ii g.1,.sl Y7 g.2]),(9,.box 67 (cellsX T67 st1.1))] ?_
  refine AW.seq ?_
  refine zQ h (fun hb73 h=>?_) (fun hb73 h=>?_)
  ·refine zk ?_
   refine AW.have1 (fun b4:(El T67)=>linealtop_TopProgress_k2 st1 b4=some x71) (fun b4=>⟨fr [(1,.sl (.int .i64) ranks),(2,.sl (.int .i64) path),(3,.sl (.int .i64) circle),(4,.bp 4 0),(9,.bp 9 0),(53,.ii st1.2)],hpGet [(4,.box 24 [.ii g.1,.sl Y7 g.2]),(9,.box 67 (cellsX T67 b4))],gt⟩) (fun b4 h=>?_) (fun hk_linealtop_TopProgress_k2=>?_)
   ·as_aux_lemma =>
     unfold linealtop_TopProgress_k2 at h
     refine AW.ops ?_
     obtain ⟨c74,h⟩:=ck_some.1 h
     refine zA [(1,.sl (.int .i64) ranks),(2,.sl (.int .i64) path),(3,.sl (.int .i64) circle),(4,.bp 4 0),(9,.bp 9 0),(53,.ii (st1.2+1))] [(4,.box 24 [.ii g.1,.sl Y7 g.2]),(9,.box 67 (cellsX T67 b4))] ?_
     obtain rfl:=zj h
     exact ⟨_,rfl,zL [] [] []⟩
   refine AW.seq ?_
   refine AW.block ?_
   refine zo ?_
   refine zB [(1,.sl (.int .i64) ranks),(2,.sl (.int .i64) path),(3,.sl (.int .i64) circle),(4,.bp 4 0),(9,.bp 9 0),(10,.ii st1.2),(53,.ii st1.2)] [(4,.box 24 [.ii g.1,.sl Y7 g.2]),(9,.box 67 (cellsX T67 st1.1))] ?_
   refine zo ?_
   refine zB [(1,.sl (.int .i64) ranks),(2,.sl (.int .i64) path),(3,.sl (.int .i64) circle),(4,.bp 4 0),(9,.bp 9 0),(10,.ii st1.2),(53,.ii st1.2),(56,.ii 0)] [(4,.box 24 [.ii g.1,.sl Y7 g.2]),(9,.box 67 (cellsX T67 st1.1))] ?_
   refine AW.block ?_
   obtain ⟨rv79,hw75,ho76⟩:=zw h
   refine AW.loopO (linealtop_TopProgress_b2 g ranks path circle st1) (fun st2=>⟨fr [(1,.sl (.int .i64) ranks),(2,.sl (.int .i64) path),(3,.sl (.int .i64) circle),(4,.bp 4 0),(9,.bp 9 0),(10,.ii st1.2),(53,.ii st1.2),(56,.ii st2.2)],hpGet [(4,.box 24 [.ii g.1,.sl Y7 g.2]),(9,.box 67 (cellsX T67 st2.1))],gt⟩) (st1.1,0) hw75 (zL [] [] []) ?_
   as_aux_lemma =>
    intro st2 x78 h hd77
    unfold linealtop_TopProgress_b2 at h
    refine zo ?_
    refine zB [(1,.sl (.int .i64) ranks),(2,.sl (.int .i64) path),(3,.sl (.int .i64) circle),(4,.bp 4 0),(9,.bp 9 0),(10,.ii st1.2),(53,.ii st1.2),(56,.ii st2.2),(57,.bool (decide (st2.2<3)))] [(4,.box 24 [.ii g.1,.sl Y7 g.2]),(9,.box 67 (cellsX T67 st2.1))] ?_
    refine AW.seq ?_
    refine zQ h (fun hb80 h=>?_) (fun hb80 h=>?_)
    ·refine zk ?_
     refine AW.seq ?_
     refine AW.block ?_
     refine zo ?_
     refine zB [(1,.sl (.int .i64) ranks),(2,.sl (.int .i64) path),(3,.sl (.int .i64) circle),(4,.bp 4 0),(9,.bp 9 0),(10,.ii st1.2),(11,.ii st2.2),(53,.ii st1.2),(56,.ii st2.2)] [(4,.box 24 [.ii g.1,.sl Y7 g.2]),(9,.box 67 (cellsX T67 st2.1))] ?_
     refine AW.have1 (fun _:Unit=>linealtop_TopProgress_k3 g ranks path circle st1 st2=some x78) (fun _=>⟨fr [(1,.sl (.int .i64) ranks),(2,.sl (.int .i64) path),(3,.sl (.int .i64) circle),(4,.bp 4 0),(9,.bp 9 0),(10,.ii st1.2),(11,.ii st2.2),(53,.ii st1.2),(56,.ii st2.2)],hpGet [(4,.box 24 [.ii g.1,.sl Y7 g.2]),(9,.box 67 (cellsX T67 st2.1))],gt⟩) (fun _ h=>?_) (fun hk_linealtop_TopProgress_k3=>?_)
     ·as_aux_lemma =>
       unfold linealtop_TopProgress_k3 at h
       refine zo ?_
       refine zS 3 [(1,.sl (.int .i64) ranks),(2,.sl (.int .i64) path),(3,.sl (.int .i64) circle),(4,.bp 4 0),(9,.bp 9 0),(10,.ii st1.2),(11,.ii st2.2),(53,.ii st1.2),(56,.ii st2.2),(66,.agg [.ii g.1,.sl Y7 g.2]),(67,.ii st1.2),(68,.ii st2.2)] [(4,.box 24 [.ii g.1,.sl Y7 g.2]),(9,.box 67 (cellsX T67 st2.1))] ?_
       obtain ⟨v0_8,hv81,h⟩:=zw h
       refine zC [] [] (hc_progress_Ranks g st1.2 st2.2 hv81) [(1,.sl (.int .i64) ranks),(2,.sl (.int .i64) path),(3,.sl (.int .i64) circle),(4,.bp 4 0),(9,.bp 9 0),(10,.ii st1.2),(11,.ii st2.2),(53,.ii st1.2),(56,.ii st2.2),(69,.tup [.own 79000,.ii v0_8.2])] [(4,.box 24 [.ii g.1,.sl Y7 g.2]),(9,.box 67 (cellsX T67 st2.1)),(79000,.arr 3 (.int .i64) v0_8.1)] ?_
       refine zB [(1,.sl (.int .i64) ranks),(2,.sl (.int .i64) path),(3,.sl (.int .i64) circle),(4,.bp 4 0),(9,.bp 9 0),(10,.ii st1.2),(11,.ii st2.2),(12,.own 79000),(13,.ii v0_8.2),(53,.ii st1.2),(56,.ii st2.2)] [(4,.box 24 [.ii g.1,.sl Y7 g.2]),(9,.box 67 (cellsX T67 st2.1)),(79000,.arr 3 (.int .i64) v0_8.1)] ?_
       refine zo ?_
       refine zS 3 [(1,.sl (.int .i64) ranks),(2,.sl (.int .i64) path),(3,.sl (.int .i64) circle),(4,.bp 4 0),(9,.bp 9 0),(10,.ii st1.2),(11,.ii st2.2),(12,.own 79000),(13,.ii v0_8.2),(53,.ii st1.2),(56,.ii st2.2),(73,.agg [.ii g.1,.sl Y7 g.2]),(74,.ii st1.2),(75,.ii st2.2)] [(4,.box 24 [.ii g.1,.sl Y7 g.2]),(9,.box 67 (cellsX T67 st2.1)),(79000,.arr 3 (.int .i64) v0_8.1)] ?_
       obtain ⟨v0_9,hv82,h⟩:=zw h
       refine zC [] [] (hc_progress_Lasso g st1.2 st2.2 hv82) [(1,.sl (.int .i64) ranks),(2,.sl (.int .i64) path),(3,.sl (.int .i64) circle),(4,.bp 4 0),(9,.bp 9 0),(10,.ii st1.2),(11,.ii st2.2),(12,.own 79000),(13,.ii v0_8.2),(53,.ii st1.2),(56,.ii st2.2),(76,.tup [.sl (.int .i64) v0_9.1,.own 86000,.ii v0_9.2.2])] [(4,.box 24 [.ii g.1,.sl Y7 g.2]),(9,.box 67 (cellsX T67 st2.1)),(79000,.arr 3 (.int .i64) v0_8.1),(86000,.arr 3 (.int .i64) v0_9.2.1)] ?_
       refine zS 5 [(1,.sl (.int .i64) ranks),(2,.sl (.int .i64) path),(3,.sl (.int .i64) circle),(4,.bp 4 0),(9,.bp 9 0),(10,.ii st1.2),(11,.ii st2.2),(12,.own 79000),(13,.ii v0_8.2),(14,.sl (.int .i64) v0_9.1),(53,.ii st1.2),(56,.ii st2.2),(78,.own 86000),(79,.ii v0_9.2.2)] [(4,.box 24 [.ii g.1,.sl Y7 g.2]),(9,.box 67 (cellsX T67 st2.1)),(79000,.arr 3 (.int .i64) v0_8.1),(86000,.arr 3 (.int .i64) v0_9.2.1)] ?_
       refine zB [(1,.sl (.int .i64) ranks),(2,.sl (.int .i64) path),(3,.sl (.int .i64) circle),(4,.bp 4 0),(9,.bp 9 0),(10,.ii st1.2),(11,.ii st2.2),(12,.own 79000),(13,.ii v0_8.2),(14,.sl (.int .i64) v0_9.1),(15,.own 86000),(16,.ii v0_9.2.2),(53,.ii st1.2),(56,.ii st2.2)] [(4,.box 24 [.ii g.1,.sl Y7 g.2]),(9,.box 67 (cellsX T67 st2.1)),(79000,.arr 3 (.int .i64) v0_8.1),(86000,.arr 3 (.int .i64) v0_9.2.1)] ?_
       refine zo ?_
       refine zS 3 [(1,.sl (.int .i64) ranks),(2,.sl (.int .i64) path),(3,.sl (.int .i64) circle),(4,.bp 4 0),(9,.bp 9 0),(10,.ii st1.2),(11,.ii st2.2),(12,.own 79000),(13,.ii v0_8.2),(14,.sl (.int .i64) v0_9.1),(15,.own 86000),(16,.ii v0_9.2.2),(53,.ii st1.2),(56,.ii st2.2),(81,.agg [.ii g.1,.sl Y7 g.2]),(82,.ii st1.2),(83,.ii st2.2)] [(4,.box 24 [.ii g.1,.sl Y7 g.2]),(9,.box 67 (cellsX T67 st2.1)),(79000,.arr 3 (.int .i64) v0_8.1),(86000,.arr 3 (.int .i64) v0_9.2.1)] ?_
       obtain ⟨v0_10,hv83,h⟩:=zw h
       refine zC [] [] (hc_progress_Holds g st1.2 st2.2 hv83) [(1,.sl (.int .i64) ranks),(2,.sl (.int .i64) path),(3,.sl (.int .i64) circle),(4,.bp 4 0),(9,.bp 9 0),(10,.ii st1.2),(11,.ii st2.2),(12,.own 79000),(13,.ii v0_8.2),(14,.sl (.int .i64) v0_9.1),(15,.own 86000),(16,.ii v0_9.2.2),(53,.ii st1.2),(56,.ii st2.2),(84,.tup [.bool v0_10.1,.ii v0_10.2])] [(4,.box 24 [.ii g.1,.sl Y7 g.2]),(9,.box 67 (cellsX T67 st2.1)),(79000,.arr 3 (.int .i64) v0_8.1),(86000,.arr 3 (.int .i64) v0_9.2.1)] ?_
       refine zB [(1,.sl (.int .i64) ranks),(2,.sl (.int .i64) path),(3,.sl (.int .i64) circle),(4,.bp 4 0),(9,.bp 9 0),(10,.ii st1.2),(11,.ii st2.2),(12,.own 79000),(13,.ii v0_8.2),(14,.sl (.int .i64) v0_9.1),(15,.own 86000),(16,.ii v0_9.2.2),(17,.bool v0_10.1),(18,.ii v0_10.2),(53,.ii st1.2),(56,.ii st2.2)] [(4,.box 24 [.ii g.1,.sl Y7 g.2]),(9,.box 67 (cellsX T67 st2.1)),(79000,.arr 3 (.int .i64) v0_8.1),(86000,.arr 3 (.int .i64) v0_9.2.1)] ?_
       refine zo ?_
       refine zS 4 [(1,.sl (.int .i64) ranks),(2,.sl (.int .i64) path),(3,.sl (.int .i64) circle),(4,.bp 4 0),(9,.bp 9 0),(10,.ii st1.2),(11,.ii st2.2),(12,.own 79000),(13,.ii v0_8.2),(14,.sl (.int .i64) v0_9.1),(15,.own 86000),(16,.ii v0_9.2.2),(17,.bool v0_10.1),(18,.ii v0_10.2),(53,.ii st1.2),(56,.ii st2.2),(88,.agg [.ii g.1,.sl Y7 g.2]),(89,.ii st1.2),(90,.ii st2.2),(91,.sl (.int .i64) ranks)] [(4,.box 24 [.ii g.1,.sl Y7 g.2]),(9,.box 67 (cellsX T67 st2.1)),(79000,.arr 3 (.int .i64) v0_8.1),(86000,.arr 3 (.int .i64) v0_9.2.1)] ?_
       obtain ⟨v0_11,hv84,h⟩:=zw h
       refine zC [] [] (hc_progress_Prove g st1.2 st2.2 ranks hv84) [(1,.sl (.int .i64) ranks),(2,.sl (.int .i64) path),(3,.sl (.int .i64) circle),(4,.bp 4 0),(9,.bp 9 0),(10,.ii st1.2),(11,.ii st2.2),(12,.own 79000),(13,.ii v0_8.2),(14,.sl (.int .i64) v0_9.1),(15,.own 86000),(16,.ii v0_9.2.2),(17,.bool v0_10.1),(18,.ii v0_10.2),(53,.ii st1.2),(56,.ii st2.2),(92,.tup [.bool v0_11.1,.ii v0_11.2])] [(4,.box 24 [.ii g.1,.sl Y7 g.2]),(9,.box 67 (cellsX T67 st2.1)),(79000,.arr 3 (.int .i64) v0_8.1),(86000,.arr 3 (.int .i64) v0_9.2.1)] ?_
       refine zB [(1,.sl (.int .i64) ranks),(2,.sl (.int .i64) path),(3,.sl (.int .i64) circle),(4,.bp 4 0),(9,.bp 9 0),(10,.ii st1.2),(11,.ii st2.2),(12,.own 79000),(13,.ii v0_8.2),(14,.sl (.int .i64) v0_9.1),(15,.own 86000),(16,.ii v0_9.2.2),(17,.bool v0_10.1),(18,.ii v0_10.2),(19,.bool v0_11.1),(20,.ii v0_11.2),(53,.ii st1.2),(56,.ii st2.2)] [(4,.box 24 [.ii g.1,.sl Y7 g.2]),(9,.box 67 (cellsX T67 st2.1)),(79000,.arr 3 (.int .i64) v0_8.1),(86000,.arr 3 (.int .i64) v0_9.2.1)] ?_
       refine zo ?_
       refine zS 5 [(1,.sl (.int .i64) ranks),(2,.sl (.int .i64) path),(3,.sl (.int .i64) circle),(4,.bp 4 0),(9,.bp 9 0),(10,.ii st1.2),(11,.ii st2.2),(12,.own 79000),(13,.ii v0_8.2),(14,.sl (.int .i64) v0_9.1),(15,.own 86000),(16,.ii v0_9.2.2),(17,.bool v0_10.1),(18,.ii v0_10.2),(19,.bool v0_11.1),(20,.ii v0_11.2),(53,.ii st1.2),(56,.ii st2.2),(96,.agg [.ii g.1,.sl Y7 g.2]),(97,.ii st1.2),(98,.ii st2.2),(99,.sl (.int .i64) path),(100,.sl (.int .i64) circle)] [(4,.box 24 [.ii g.1,.sl Y7 g.2]),(9,.box 67 (cellsX T67 st2.1)),(79000,.arr 3 (.int .i64) v0_8.1),(86000,.arr 3 (.int .i64) v0_9.2.1)] ?_
       obtain ⟨v0_12,hv85,h⟩:=zw h
       refine zC [] [] (hc_progress_Refutes g st1.2 st2.2 path circle hv85) [(1,.sl (.int .i64) ranks),(2,.sl (.int .i64) path),(3,.sl (.int .i64) circle),(4,.bp 4 0),(9,.bp 9 0),(10,.ii st1.2),(11,.ii st2.2),(12,.own 79000),(13,.ii v0_8.2),(14,.sl (.int .i64) v0_9.1),(15,.own 86000),(16,.ii v0_9.2.2),(17,.bool v0_10.1),(18,.ii v0_10.2),(19,.bool v0_11.1),(20,.ii v0_11.2),(53,.ii st1.2),(56,.ii st2.2),(101,.tup [.bool v0_12.1,.ii v0_12.2])] [(4,.box 24 [.ii g.1,.sl Y7 g.2]),(9,.box 67 (cellsX T67 st2.1)),(79000,.arr 3 (.int .i64) v0_8.1),(86000,.arr 3 (.int .i64) v0_9.2.1)] ?_
       refine zB [(1,.sl (.int .i64) ranks),(2,.sl (.int .i64) path),(3,.sl (.int .i64) circle),(4,.bp 4 0),(9,.bp 9 0),(10,.ii st1.2),(11,.ii st2.2),(12,.own 79000),(13,.ii v0_8.2),(14,.sl (.int .i64) v0_9.1),(15,.own 86000),(16,.ii v0_9.2.2),(17,.bool v0_10.1),(18,.ii v0_10.2),(19,.bool v0_11.1),(20,.ii v0_11.2),(21,.bool v0_12.1),(22,.ii v0_12.2),(53,.ii st1.2),(56,.ii st2.2)] [(4,.box 24 [.ii g.1,.sl Y7 g.2]),(9,.box 67 (cellsX T67 st2.1)),(79000,.arr 3 (.int .i64) v0_8.1),(86000,.arr 3 (.int .i64) v0_9.2.1)] ?_
       refine AW.have1 (fun _:Unit=>linealtop_TopProgress_k4 g st1 st2 v0_8 v0_9 v0_10=some x78) (fun _=>⟨fr [(1,.sl (.int .i64) ranks),(2,.sl (.int .i64) path),(3,.sl (.int .i64) circle),(4,.bp 4 0),(9,.bp 9 0),(10,.ii st1.2),(11,.ii st2.2),(12,.own 79000),(13,.ii v0_8.2),(14,.sl (.int .i64) v0_9.1),(15,.own 86000),(16,.ii v0_9.2.2),(17,.bool v0_10.1),(53,.ii st1.2),(56,.ii st2.2)],hpGet [(4,.box 24 [.ii g.1,.sl Y7 g.2]),(9,.box 67 (cellsX T67 st2.1)),(79000,.arr 3 (.int .i64) v0_8.1),(86000,.arr 3 (.int .i64) v0_9.2.1)],gt⟩) (fun _ h=>?_) (fun hk_linealtop_TopProgress_k4=>?_)
       ·as_aux_lemma =>
         unfold linealtop_TopProgress_k4 at h
         refine AW.seq ?_
         refine zo ?_
         refine zB [(1,.sl (.int .i64) ranks),(2,.sl (.int .i64) path),(3,.sl (.int .i64) circle),(4,.bp 4 0),(9,.bp 9 0),(10,.ii st1.2),(11,.ii st2.2),(12,.own 79000),(13,.ii v0_8.2),(14,.sl (.int .i64) v0_9.1),(15,.own 86000),(16,.ii v0_9.2.2),(17,.bool v0_10.1),(53,.ii st1.2),(56,.ii st2.2),(143,.bool v0_10.1)] [(4,.box 24 [.ii g.1,.sl Y7 g.2]),(9,.box 67 (cellsX T67 st2.1)),(79000,.arr 3 (.int .i64) v0_8.1),(86000,.arr 3 (.int .i64) v0_9.2.1)] ?_
         refine zQ h (fun hb86 h=>?_) (fun hb86 h=>?_)
         ·refine zo ?_
          refine zS 4 [(1,.sl (.int .i64) ranks),(2,.sl (.int .i64) path),(3,.sl (.int .i64) circle),(4,.bp 4 0),(9,.bp 9 0),(10,.ii st1.2),(11,.ii st2.2),(16,.ii v0_9.2.2),(17,.bool v0_10.1),(53,.ii st1.2),(56,.ii st2.2),(145,.agg [.ii g.1,.sl Y7 g.2]),(146,.ii st1.2),(147,.ii st2.2),(148,.own 79000)] [(4,.box 24 [.ii g.1,.sl Y7 g.2]),(9,.box 67 (cellsX T67 st2.1)),(79000,.arr 3 (.int .i64) v0_8.1)] ?_
          obtain ⟨v0_13,hv87,h⟩:=zw h
          refine zC [79000] [] (hc_linealref07_Prove g st1.2 st2.2 v0_8.1 hv87) [(1,.sl (.int .i64) ranks),(2,.sl (.int .i64) path),(3,.sl (.int .i64) circle),(4,.bp 4 0),(9,.bp 9 0),(10,.ii st1.2),(11,.ii st2.2),(16,.ii v0_9.2.2),(17,.bool v0_10.1),(53,.ii st1.2),(56,.ii st2.2),(149,.tup [.bool v0_13.1,.ii v0_13.2])] [(4,.box 24 [.ii g.1,.sl Y7 g.2]),(9,.box 67 (cellsX T67 st2.1))] ?_
          refine zB [(1,.sl (.int .i64) ranks),(2,.sl (.int .i64) path),(3,.sl (.int .i64) circle),(4,.bp 4 0),(9,.bp 9 0),(10,.ii st1.2),(11,.ii st2.2),(16,.ii v0_9.2.2),(17,.bool v0_10.1),(23,.bool v0_13.1),(24,.ii v0_13.2),(53,.ii st1.2),(56,.ii st2.2)] [(4,.box 24 [.ii g.1,.sl Y7 g.2]),(9,.box 67 (cellsX T67 st2.1))] ?_
          refine zo ?_
          refine zS 3 [(1,.sl (.int .i64) ranks),(2,.sl (.int .i64) path),(3,.sl (.int .i64) circle),(4,.bp 4 0),(9,.bp 9 0),(10,.ii st1.2),(11,.ii st2.2),(17,.bool v0_10.1),(23,.bool v0_13.1),(24,.ii v0_13.2),(53,.ii st1.2),(56,.ii st2.2),(154,.bool (!(decide (v0_9.2.2=5))))] [(4,.box 24 [.ii g.1,.sl Y7 g.2]),(9,.box 67 (cellsX T67 st2.1))] ?_
          rcases zI h with ⟨hb88,h⟩|⟨hb88,h⟩
          ·refine zS 5 [(1,.sl (.int .i64) ranks),(2,.sl (.int .i64) path),(3,.sl (.int .i64) circle),(4,.bp 4 0),(9,.bp 9 0),(10,.ii st1.2),(11,.ii st2.2),(17,.bool v0_10.1),(53,.ii st1.2),(56,.ii st2.2),(158,.bool true),(159,.cv (undef))] [(4,.box 24 [.ii g.1,.sl Y7 g.2]),(9,.box 67 (cellsX T67 st2.1))] ?_
           refine zB [(1,.sl (.int .i64) ranks),(2,.sl (.int .i64) path),(3,.sl (.int .i64) circle),(4,.bp 4 0),(9,.bp 9 0),(10,.ii st1.2),(11,.ii st2.2),(17,.bool v0_10.1),(53,.ii st1.2),(56,.ii st2.2),(161,.bool true)] [(4,.box 24 [.ii g.1,.sl Y7 g.2]),(9,.box 67 (cellsX T67 st2.1))] ?_
           refine AW.cond (b:=true) rfl (fun _=>?_) (fun hb89=>by cases hb89)
           refine zo ?_
           refine zB [(8,.bool false)] [] ?_
           refine zr ?_
           refine ablock_r ?_
           refine athen_r ?_
           obtain rfl:=zj h
           rw [← hd77 _ rfl] at ho76
           have h:=ho76
           try simp only at h
           refine athen_r ?_
           refine ablock_r ?_
           refine ablock_r ?_
           refine athen_r ?_
           obtain rfl:=zj h
           rw [← hd70 _ rfl] at ho69
           have h:=ho69
           try simp only at h
           refine athen_r ?_
           refine ablock_r ?_
           refine athen_r ?_
           obtain rfl:=zj h
           exact zR [] [] []
          refine zS 4 [(1,.sl (.int .i64) ranks),(2,.sl (.int .i64) path),(3,.sl (.int .i64) circle),(4,.bp 4 0),(9,.bp 9 0),(10,.ii st1.2),(11,.ii st2.2),(17,.bool v0_10.1),(23,.bool v0_13.1),(53,.ii st1.2),(56,.ii st2.2),(158,.bool (!(decide (v0_13.2=0))))] [(4,.box 24 [.ii g.1,.sl Y7 g.2]),(9,.box 67 (cellsX T67 st2.1))] ?_
          rcases zI h with ⟨hb90,h⟩|⟨hb90,h⟩
          ·refine zB [(1,.sl (.int .i64) ranks),(2,.sl (.int .i64) path),(3,.sl (.int .i64) circle),(4,.bp 4 0),(9,.bp 9 0),(10,.ii st1.2),(11,.ii st2.2),(17,.bool v0_10.1),(53,.ii st1.2),(56,.ii st2.2),(161,.bool true)] [(4,.box 24 [.ii g.1,.sl Y7 g.2]),(9,.box 67 (cellsX T67 st2.1))] ?_
           refine AW.cond (b:=true) rfl (fun _=>?_) (fun hb91=>by cases hb91)
           refine zo ?_
           refine zB [(8,.bool false)] [] ?_
           refine zr ?_
           refine ablock_r ?_
           refine athen_r ?_
           obtain rfl:=zj h
           rw [← hd77 _ rfl] at ho76
           have h:=ho76
           try simp only at h
           refine athen_r ?_
           refine ablock_r ?_
           refine ablock_r ?_
           refine athen_r ?_
           obtain rfl:=zj h
           rw [← hd70 _ rfl] at ho69
           have h:=ho69
           try simp only at h
           refine athen_r ?_
           refine ablock_r ?_
           refine athen_r ?_
           obtain rfl:=zj h
           exact zR [] [] []
          refine zB [(1,.sl (.int .i64) ranks),(2,.sl (.int .i64) path),(3,.sl (.int .i64) circle),(4,.bp 4 0),(9,.bp 9 0),(10,.ii st1.2),(11,.ii st2.2),(17,.bool v0_10.1),(53,.ii st1.2),(56,.ii st2.2),(161,.bool (!v0_13.1))] [(4,.box 24 [.ii g.1,.sl Y7 g.2]),(9,.box 67 (cellsX T67 st2.1))] ?_
          refine zQ h (fun hb92 h=>?_) (fun hb92 h=>?_)
          ·refine zo ?_
           refine zB [(8,.bool false)] [] ?_
           refine zr ?_
           refine ablock_r ?_
           refine athen_r ?_
           obtain rfl:=zj h
           rw [← hd77 _ rfl] at ho76
           have h:=ho76
           try simp only at h
           refine athen_r ?_
           refine ablock_r ?_
           refine ablock_r ?_
           refine athen_r ?_
           obtain rfl:=zj h
           rw [← hd70 _ rfl] at ho69
           have h:=ho69
           try simp only at h
           refine athen_r ?_
           refine ablock_r ?_
           refine athen_r ?_
           obtain rfl:=zj h
           exact zR [] [] []
          refine zk ?_
          refine AW.ops ?_
          obtain ⟨c93,h⟩:=ck_some.1 h
          obtain ⟨c94,h⟩:=ck_some.1 h
          obtain ⟨c95,h⟩:=ck_some.1 h
          obtain ⟨c96,h⟩:=ck_some.1 h
          refine zS 5 [(1,.sl (.int .i64) ranks),(2,.sl (.int .i64) path),(3,.sl (.int .i64) circle),(4,.bp 4 0),(9,.bp 9 0),(10,.ii st1.2),(53,.ii st1.2),(56,.ii st2.2),(183,.bool v0_10.1),(185,.bp 9 ((0+st1.2.toNat*3)+st2.2.toNat*1))] [(4,.box 24 [.ii g.1,.sl Y7 g.2]),(9,.box 67 (cellsX T67 st2.1))] ?_
          have hx97:((0+st1.2.toNat*3)+st2.2.toNat*1)<9:=by omega
          refine zA [(1,.sl (.int .i64) ranks),(2,.sl (.int .i64) path),(3,.sl (.int .i64) circle),(4,.bp 4 0),(9,.bp 9 0),(10,.ii st1.2),(53,.ii st1.2),(56,.ii st2.2)] [(4,.box 24 [.ii g.1,.sl Y7 g.2]),(9,.box 67 (cellsX T67 (setBool T67 st2.1 ((0+st1.2.toNat*3)+st2.2.toNat*1) v0_10.1)))] ?_
          refine ablock_n ?_
          refine athen_n ?_
          refine AW.ops ?_
          obtain ⟨c98,h⟩:=ck_some.1 h
          refine zA [(1,.sl (.int .i64) ranks),(2,.sl (.int .i64) path),(3,.sl (.int .i64) circle),(4,.bp 4 0),(9,.bp 9 0),(10,.ii st1.2),(53,.ii st1.2),(56,.ii (st2.2+1))] [(4,.box 24 [.ii g.1,.sl Y7 g.2]),(9,.box 67 (cellsX T67 (setBool T67 st2.1 ((0+st1.2.toNat*3)+st2.2.toNat*1) v0_10.1)))] ?_
          obtain rfl:=zj h
          exact ⟨_,rfl,zL [] [] []⟩
         refine zo ?_
         refine zS 5 [(1,.sl (.int .i64) ranks),(2,.sl (.int .i64) path),(3,.sl (.int .i64) circle),(4,.bp 4 0),(9,.bp 9 0),(10,.ii st1.2),(11,.ii st2.2),(13,.ii v0_8.2),(17,.bool v0_10.1),(53,.ii st1.2),(56,.ii st2.2),(163,.agg [.ii g.1,.sl Y7 g.2]),(164,.ii st1.2),(165,.ii st2.2),(166,.sl (.int .i64) v0_9.1),(167,.own 86000)] [(4,.box 24 [.ii g.1,.sl Y7 g.2]),(9,.box 67 (cellsX T67 st2.1)),(86000,.arr 3 (.int .i64) v0_9.2.1)] ?_
         obtain ⟨v0_14,hv99,h⟩:=zw h
         refine zC [86000] [] (hc_linealref07_Refutes g st1.2 st2.2 v0_9.1 v0_9.2.1 hv99) [(1,.sl (.int .i64) ranks),(2,.sl (.int .i64) path),(3,.sl (.int .i64) circle),(4,.bp 4 0),(9,.bp 9 0),(10,.ii st1.2),(11,.ii st2.2),(13,.ii v0_8.2),(17,.bool v0_10.1),(53,.ii st1.2),(56,.ii st2.2),(168,.tup [.bool v0_14.1,.ii v0_14.2])] [(4,.box 24 [.ii g.1,.sl Y7 g.2]),(9,.box 67 (cellsX T67 st2.1))] ?_
         refine zB [(1,.sl (.int .i64) ranks),(2,.sl (.int .i64) path),(3,.sl (.int .i64) circle),(4,.bp 4 0),(9,.bp 9 0),(10,.ii st1.2),(11,.ii st2.2),(13,.ii v0_8.2),(17,.bool v0_10.1),(25,.bool v0_14.1),(26,.ii v0_14.2),(53,.ii st1.2),(56,.ii st2.2)] [(4,.box 24 [.ii g.1,.sl Y7 g.2]),(9,.box 67 (cellsX T67 st2.1))] ?_
         refine zo ?_
         refine zS 3 [(1,.sl (.int .i64) ranks),(2,.sl (.int .i64) path),(3,.sl (.int .i64) circle),(4,.bp 4 0),(9,.bp 9 0),(10,.ii st1.2),(11,.ii st2.2),(17,.bool v0_10.1),(25,.bool v0_14.1),(26,.ii v0_14.2),(53,.ii st1.2),(56,.ii st2.2),(173,.bool (!(decide (v0_8.2=5))))] [(4,.box 24 [.ii g.1,.sl Y7 g.2]),(9,.box 67 (cellsX T67 st2.1))] ?_
         rcases zI h with ⟨hb100,h⟩|⟨hb100,h⟩
         ·refine zS 5 [(1,.sl (.int .i64) ranks),(2,.sl (.int .i64) path),(3,.sl (.int .i64) circle),(4,.bp 4 0),(9,.bp 9 0),(10,.ii st1.2),(11,.ii st2.2),(17,.bool v0_10.1),(53,.ii st1.2),(56,.ii st2.2),(177,.bool true),(178,.cv (undef))] [(4,.box 24 [.ii g.1,.sl Y7 g.2]),(9,.box 67 (cellsX T67 st2.1))] ?_
          refine zB [(1,.sl (.int .i64) ranks),(2,.sl (.int .i64) path),(3,.sl (.int .i64) circle),(4,.bp 4 0),(9,.bp 9 0),(10,.ii st1.2),(11,.ii st2.2),(17,.bool v0_10.1),(53,.ii st1.2),(56,.ii st2.2),(180,.bool true)] [(4,.box 24 [.ii g.1,.sl Y7 g.2]),(9,.box 67 (cellsX T67 st2.1))] ?_
          refine AW.cond (b:=true) rfl (fun _=>?_) (fun hb101=>by cases hb101)
          refine zo ?_
          refine zB [(8,.bool false)] [] ?_
          refine zr ?_
          refine ablock_r ?_
          refine athen_r ?_
          obtain rfl:=zj h
          rw [← hd77 _ rfl] at ho76
          have h:=ho76
          try simp only at h
          refine athen_r ?_
          refine ablock_r ?_
          refine ablock_r ?_
          refine athen_r ?_
          obtain rfl:=zj h
          rw [← hd70 _ rfl] at ho69
          have h:=ho69
          try simp only at h
          refine athen_r ?_
          refine ablock_r ?_
          refine athen_r ?_
          obtain rfl:=zj h
          exact zR [] [] []
         refine zS 4 [(1,.sl (.int .i64) ranks),(2,.sl (.int .i64) path),(3,.sl (.int .i64) circle),(4,.bp 4 0),(9,.bp 9 0),(10,.ii st1.2),(11,.ii st2.2),(17,.bool v0_10.1),(25,.bool v0_14.1),(53,.ii st1.2),(56,.ii st2.2),(177,.bool (!(decide (v0_14.2=0))))] [(4,.box 24 [.ii g.1,.sl Y7 g.2]),(9,.box 67 (cellsX T67 st2.1))] ?_
         rcases zI h with ⟨hb102,h⟩|⟨hb102,h⟩
         ·refine zB [(1,.sl (.int .i64) ranks),(2,.sl (.int .i64) path),(3,.sl (.int .i64) circle),(4,.bp 4 0),(9,.bp 9 0),(10,.ii st1.2),(11,.ii st2.2),(17,.bool v0_10.1),(53,.ii st1.2),(56,.ii st2.2),(180,.bool true)] [(4,.box 24 [.ii g.1,.sl Y7 g.2]),(9,.box 67 (cellsX T67 st2.1))] ?_
          refine AW.cond (b:=true) rfl (fun _=>?_) (fun hb103=>by cases hb103)
          refine zo ?_
          refine zB [(8,.bool false)] [] ?_
          refine zr ?_
          refine ablock_r ?_
          refine athen_r ?_
          obtain rfl:=zj h
          rw [← hd77 _ rfl] at ho76
          have h:=ho76
          try simp only at h
          refine athen_r ?_
          refine ablock_r ?_
          refine ablock_r ?_
          refine athen_r ?_
          obtain rfl:=zj h
          rw [← hd70 _ rfl] at ho69
          have h:=ho69
          try simp only at h
          refine athen_r ?_
          refine ablock_r ?_
          refine athen_r ?_
          obtain rfl:=zj h
          exact zR [] [] []
         refine zB [(1,.sl (.int .i64) ranks),(2,.sl (.int .i64) path),(3,.sl (.int .i64) circle),(4,.bp 4 0),(9,.bp 9 0),(10,.ii st1.2),(11,.ii st2.2),(17,.bool v0_10.1),(53,.ii st1.2),(56,.ii st2.2),(180,.bool (!v0_14.1))] [(4,.box 24 [.ii g.1,.sl Y7 g.2]),(9,.box 67 (cellsX T67 st2.1))] ?_
         refine zQ h (fun hb104 h=>?_) (fun hb104 h=>?_)
         ·refine zo ?_
          refine zB [(8,.bool false)] [] ?_
          refine zr ?_
          refine ablock_r ?_
          refine athen_r ?_
          obtain rfl:=zj h
          rw [← hd77 _ rfl] at ho76
          have h:=ho76
          try simp only at h
          refine athen_r ?_
          refine ablock_r ?_
          refine ablock_r ?_
          refine athen_r ?_
          obtain rfl:=zj h
          rw [← hd70 _ rfl] at ho69
          have h:=ho69
          try simp only at h
          refine athen_r ?_
          refine ablock_r ?_
          refine athen_r ?_
          obtain rfl:=zj h
          exact zR [] [] []
         refine zk ?_
         refine AW.ops ?_
         obtain ⟨c105,h⟩:=ck_some.1 h
         obtain ⟨c106,h⟩:=ck_some.1 h
         obtain ⟨c107,h⟩:=ck_some.1 h
         obtain ⟨c108,h⟩:=ck_some.1 h
         refine zS 5 [(1,.sl (.int .i64) ranks),(2,.sl (.int .i64) path),(3,.sl (.int .i64) circle),(4,.bp 4 0),(9,.bp 9 0),(10,.ii st1.2),(53,.ii st1.2),(56,.ii st2.2),(183,.bool v0_10.1),(185,.bp 9 ((0+st1.2.toNat*3)+st2.2.toNat*1))] [(4,.box 24 [.ii g.1,.sl Y7 g.2]),(9,.box 67 (cellsX T67 st2.1))] ?_
         have hx109:((0+st1.2.toNat*3)+st2.2.toNat*1)<9:=by omega
         refine zA [(1,.sl (.int .i64) ranks),(2,.sl (.int .i64) path),(3,.sl (.int .i64) circle),(4,.bp 4 0),(9,.bp 9 0),(10,.ii st1.2),(53,.ii st1.2),(56,.ii st2.2)] [(4,.box 24 [.ii g.1,.sl Y7 g.2]),(9,.box 67 (cellsX T67 (setBool T67 st2.1 ((0+st1.2.toNat*3)+st2.2.toNat*1) v0_10.1)))] ?_
         refine ablock_n ?_
         refine athen_n ?_
         refine AW.ops ?_
         obtain ⟨c110,h⟩:=ck_some.1 h
         refine zA [(1,.sl (.int .i64) ranks),(2,.sl (.int .i64) path),(3,.sl (.int .i64) circle),(4,.bp 4 0),(9,.bp 9 0),(10,.ii st1.2),(53,.ii st1.2),(56,.ii (st2.2+1))] [(4,.box 24 [.ii g.1,.sl Y7 g.2]),(9,.box 67 (cellsX T67 (setBool T67 st2.1 ((0+st1.2.toNat*3)+st2.2.toNat*1) v0_10.1)))] ?_
         obtain rfl:=zj h
         exact ⟨_,rfl,zL [] [] []⟩
       refine AW.seq ?_
       refine zo ?_
       refine zS 3 [(1,.sl (.int .i64) ranks),(2,.sl (.int .i64) path),(3,.sl (.int .i64) circle),(4,.bp 4 0),(9,.bp 9 0),(10,.ii st1.2),(11,.ii st2.2),(12,.own 79000),(13,.ii v0_8.2),(14,.sl (.int .i64) v0_9.1),(15,.own 86000),(16,.ii v0_9.2.2),(17,.bool v0_10.1),(19,.bool v0_11.1),(20,.ii v0_11.2),(21,.bool v0_12.1),(22,.ii v0_12.2),(53,.ii st1.2),(56,.ii st2.2),(106,.bool (!(decide (v0_10.2=0))))] [(4,.box 24 [.ii g.1,.sl Y7 g.2]),(9,.box 67 (cellsX T67 st2.1)),(79000,.arr 3 (.int .i64) v0_8.1),(86000,.arr 3 (.int .i64) v0_9.2.1)] ?_
       rcases zI h with ⟨hb111,h⟩|⟨hb111,h⟩
       ·refine zS 4 [(1,.sl (.int .i64) ranks),(2,.sl (.int .i64) path),(3,.sl (.int .i64) circle),(4,.bp 4 0),(9,.bp 9 0),(10,.ii st1.2),(11,.ii st2.2),(12,.own 79000),(13,.ii v0_8.2),(14,.sl (.int .i64) v0_9.1),(15,.own 86000),(16,.ii v0_9.2.2),(17,.bool v0_10.1),(19,.bool v0_11.1),(20,.ii v0_11.2),(21,.bool v0_12.1),(22,.ii v0_12.2),(53,.ii st1.2),(56,.ii st2.2),(106,.bool true),(110,.cv (undef))] [(4,.box 24 [.ii g.1,.sl Y7 g.2]),(9,.box 67 (cellsX T67 st2.1)),(79000,.arr 3 (.int .i64) v0_8.1),(86000,.arr 3 (.int .i64) v0_9.2.1)] ?_
        refine zS 5 [(1,.sl (.int .i64) ranks),(2,.sl (.int .i64) path),(3,.sl (.int .i64) circle),(4,.bp 4 0),(9,.bp 9 0),(10,.ii st1.2),(11,.ii st2.2),(12,.own 79000),(13,.ii v0_8.2),(14,.sl (.int .i64) v0_9.1),(15,.own 86000),(16,.ii v0_9.2.2),(17,.bool v0_10.1),(19,.bool v0_11.1),(20,.ii v0_11.2),(21,.bool v0_12.1),(22,.ii v0_12.2),(53,.ii st1.2),(56,.ii st2.2),(112,.bool true),(113,.cv (undef)),(115,.cv (undef))] [(4,.box 24 [.ii g.1,.sl Y7 g.2]),(9,.box 67 (cellsX T67 st2.1)),(79000,.arr 3 (.int .i64) v0_8.1),(86000,.arr 3 (.int .i64) v0_9.2.1)] ?_
        refine zS 5 [(1,.sl (.int .i64) ranks),(2,.sl (.int .i64) path),(3,.sl (.int .i64) circle),(4,.bp 4 0),(9,.bp 9 0),(10,.ii st1.2),(11,.ii st2.2),(12,.own 79000),(13,.ii v0_8.2),(14,.sl (.int .i64) v0_9.1),(15,.own 86000),(16,.ii v0_9.2.2),(17,.bool v0_10.1),(19,.bool v0_11.1),(20,.ii v0_11.2),(21,.bool v0_12.1),(22,.ii v0_12.2),(53,.ii st1.2),(56,.ii st2.2),(118,.bool true),(120,.cv (undef))] [(4,.box 24 [.ii g.1,.sl Y7 g.2]),(9,.box 67 (cellsX T67 st2.1)),(79000,.arr 3 (.int .i64) v0_8.1),(86000,.arr 3 (.int .i64) v0_9.2.1)] ?_
        refine zS 4 [(1,.sl (.int .i64) ranks),(2,.sl (.int .i64) path),(3,.sl (.int .i64) circle),(4,.bp 4 0),(9,.bp 9 0),(10,.ii st1.2),(11,.ii st2.2),(12,.own 79000),(13,.ii v0_8.2),(14,.sl (.int .i64) v0_9.1),(15,.own 86000),(16,.ii v0_9.2.2),(17,.bool v0_10.1),(19,.bool v0_11.1),(21,.bool v0_12.1),(22,.ii v0_12.2),(53,.ii st1.2),(56,.ii st2.2),(118,.bool true),(124,.cv (undef))] [(4,.box 24 [.ii g.1,.sl Y7 g.2]),(9,.box 67 (cellsX T67 st2.1)),(79000,.arr 3 (.int .i64) v0_8.1),(86000,.arr 3 (.int .i64) v0_9.2.1)] ?_
        refine zS 5 [(1,.sl (.int .i64) ranks),(2,.sl (.int .i64) path),(3,.sl (.int .i64) circle),(4,.bp 4 0),(9,.bp 9 0),(10,.ii st1.2),(11,.ii st2.2),(12,.own 79000),(13,.ii v0_8.2),(14,.sl (.int .i64) v0_9.1),(15,.own 86000),(16,.ii v0_9.2.2),(17,.bool v0_10.1),(19,.bool v0_11.1),(21,.bool v0_12.1),(53,.ii st1.2),(56,.ii st2.2),(129,.bool true)] [(4,.box 24 [.ii g.1,.sl Y7 g.2]),(9,.box 67 (cellsX T67 st2.1)),(79000,.arr 3 (.int .i64) v0_8.1),(86000,.arr 3 (.int .i64) v0_9.2.1)] ?_
        refine zS 5 [(1,.sl (.int .i64) ranks),(2,.sl (.int .i64) path),(3,.sl (.int .i64) circle),(4,.bp 4 0),(9,.bp 9 0),(10,.ii st1.2),(11,.ii st2.2),(12,.own 79000),(13,.ii v0_8.2),(14,.sl (.int .i64) v0_9.1),(15,.own 86000),(16,.ii v0_9.2.2),(17,.bool v0_10.1),(21,.bool v0_12.1),(53,.ii st1.2),(56,.ii st2.2),(130,.bool true),(132,.cv (undef)),(134,.cv (undef))] [(4,.box 24 [.ii g.1,.sl Y7 g.2]),(9,.box 67 (cellsX T67 st2.1)),(79000,.arr 3 (.int .i64) v0_8.1),(86000,.arr 3 (.int .i64) v0_9.2.1)] ?_
        refine zS 5 [(1,.sl (.int .i64) ranks),(2,.sl (.int .i64) path),(3,.sl (.int .i64) circle),(4,.bp 4 0),(9,.bp 9 0),(10,.ii st1.2),(11,.ii st2.2),(12,.own 79000),(13,.ii v0_8.2),(14,.sl (.int .i64) v0_9.1),(15,.own 86000),(16,.ii v0_9.2.2),(17,.bool v0_10.1),(53,.ii st1.2),(56,.ii st2.2),(137,.bool true),(139,.cv (undef))] [(4,.box 24 [.ii g.1,.sl Y7 g.2]),(9,.box 67 (cellsX T67 st2.1)),(79000,.arr 3 (.int .i64) v0_8.1),(86000,.arr 3 (.int .i64) v0_9.2.1)] ?_
        refine zB [(1,.sl (.int .i64) ranks),(2,.sl (.int .i64) path),(3,.sl (.int .i64) circle),(4,.bp 4 0),(9,.bp 9 0),(10,.ii st1.2),(11,.ii st2.2),(12,.own 79000),(13,.ii v0_8.2),(14,.sl (.int .i64) v0_9.1),(15,.own 86000),(16,.ii v0_9.2.2),(17,.bool v0_10.1),(53,.ii st1.2),(56,.ii st2.2),(142,.bool true)] [(4,.box 24 [.ii g.1,.sl Y7 g.2]),(9,.box 67 (cellsX T67 st2.1)),(79000,.arr 3 (.int .i64) v0_8.1),(86000,.arr 3 (.int .i64) v0_9.2.1)] ?_
        refine AW.cond (b:=true) rfl (fun _=>?_) (fun hb112=>by cases hb112)
        refine zo ?_
        refine zB [(8,.bool false)] [] ?_
        refine zr ?_
        refine ablock_r ?_
        refine athen_r ?_
        obtain rfl:=zj h
        rw [← hd77 _ rfl] at ho76
        have h:=ho76
        try simp only at h
        refine athen_r ?_
        refine ablock_r ?_
        refine ablock_r ?_
        refine athen_r ?_
        obtain rfl:=zj h
        rw [← hd70 _ rfl] at ho69
        have h:=ho69
        try simp only at h
        refine athen_r ?_
        refine ablock_r ?_
        refine athen_r ?_
        obtain rfl:=zj h
        exact zR [] [] []
       refine zS 5 [(1,.sl (.int .i64) ranks),(2,.sl (.int .i64) path),(3,.sl (.int .i64) circle),(4,.bp 4 0),(9,.bp 9 0),(10,.ii st1.2),(11,.ii st2.2),(12,.own 79000),(13,.ii v0_8.2),(14,.sl (.int .i64) v0_9.1),(15,.own 86000),(16,.ii v0_9.2.2),(17,.bool v0_10.1),(19,.bool v0_11.1),(20,.ii v0_11.2),(21,.bool v0_12.1),(22,.ii v0_12.2),(53,.ii st1.2),(56,.ii st2.2),(111,.bool ((v0_10.1==(decide (v0_8.2=0))) != true))] [(4,.box 24 [.ii g.1,.sl Y7 g.2]),(9,.box 67 (cellsX T67 st2.1)),(79000,.arr 3 (.int .i64) v0_8.1),(86000,.arr 3 (.int .i64) v0_9.2.1)] ?_
       refine zS 1 [(1,.sl (.int .i64) ranks),(2,.sl (.int .i64) path),(3,.sl (.int .i64) circle),(4,.bp 4 0),(9,.bp 9 0),(10,.ii st1.2),(11,.ii st2.2),(12,.own 79000),(13,.ii v0_8.2),(14,.sl (.int .i64) v0_9.1),(15,.own 86000),(16,.ii v0_9.2.2),(17,.bool v0_10.1),(19,.bool v0_11.1),(20,.ii v0_11.2),(21,.bool v0_12.1),(22,.ii v0_12.2),(53,.ii st1.2),(56,.ii st2.2),(112,.bool ((v0_10.1==(decide (v0_8.2=0))) != true))] [(4,.box 24 [.ii g.1,.sl Y7 g.2]),(9,.box 67 (cellsX T67 st2.1)),(79000,.arr 3 (.int .i64) v0_8.1),(86000,.arr 3 (.int .i64) v0_9.2.1)] ?_
       rcases zI h with ⟨hb113,h⟩|⟨hb113,h⟩
       ·refine zS 4 [(1,.sl (.int .i64) ranks),(2,.sl (.int .i64) path),(3,.sl (.int .i64) circle),(4,.bp 4 0),(9,.bp 9 0),(10,.ii st1.2),(11,.ii st2.2),(12,.own 79000),(13,.ii v0_8.2),(14,.sl (.int .i64) v0_9.1),(15,.own 86000),(16,.ii v0_9.2.2),(17,.bool v0_10.1),(19,.bool v0_11.1),(20,.ii v0_11.2),(21,.bool v0_12.1),(22,.ii v0_12.2),(53,.ii st1.2),(56,.ii st2.2),(112,.bool true),(116,.cv (undef))] [(4,.box 24 [.ii g.1,.sl Y7 g.2]),(9,.box 67 (cellsX T67 st2.1)),(79000,.arr 3 (.int .i64) v0_8.1),(86000,.arr 3 (.int .i64) v0_9.2.1)] ?_
        refine zS 5 [(1,.sl (.int .i64) ranks),(2,.sl (.int .i64) path),(3,.sl (.int .i64) circle),(4,.bp 4 0),(9,.bp 9 0),(10,.ii st1.2),(11,.ii st2.2),(12,.own 79000),(13,.ii v0_8.2),(14,.sl (.int .i64) v0_9.1),(15,.own 86000),(16,.ii v0_9.2.2),(17,.bool v0_10.1),(19,.bool v0_11.1),(20,.ii v0_11.2),(21,.bool v0_12.1),(22,.ii v0_12.2),(53,.ii st1.2),(56,.ii st2.2),(118,.bool true),(121,.cv (undef))] [(4,.box 24 [.ii g.1,.sl Y7 g.2]),(9,.box 67 (cellsX T67 st2.1)),(79000,.arr 3 (.int .i64) v0_8.1),(86000,.arr 3 (.int .i64) v0_9.2.1)] ?_
        refine zS 5 [(1,.sl (.int .i64) ranks),(2,.sl (.int .i64) path),(3,.sl (.int .i64) circle),(4,.bp 4 0),(9,.bp 9 0),(10,.ii st1.2),(11,.ii st2.2),(12,.own 79000),(13,.ii v0_8.2),(14,.sl (.int .i64) v0_9.1),(15,.own 86000),(16,.ii v0_9.2.2),(17,.bool v0_10.1),(19,.bool v0_11.1),(21,.bool v0_12.1),(22,.ii v0_12.2),(53,.ii st1.2),(56,.ii st2.2),(126,.bool true)] [(4,.box 24 [.ii g.1,.sl Y7 g.2]),(9,.box 67 (cellsX T67 st2.1)),(79000,.arr 3 (.int .i64) v0_8.1),(86000,.arr 3 (.int .i64) v0_9.2.1)] ?_
        refine zS 5 [(1,.sl (.int .i64) ranks),(2,.sl (.int .i64) path),(3,.sl (.int .i64) circle),(4,.bp 4 0),(9,.bp 9 0),(10,.ii st1.2),(11,.ii st2.2),(12,.own 79000),(13,.ii v0_8.2),(14,.sl (.int .i64) v0_9.1),(15,.own 86000),(16,.ii v0_9.2.2),(17,.bool v0_10.1),(21,.bool v0_12.1),(53,.ii st1.2),(56,.ii st2.2),(130,.bool true),(131,.cv (undef))] [(4,.box 24 [.ii g.1,.sl Y7 g.2]),(9,.box 67 (cellsX T67 st2.1)),(79000,.arr 3 (.int .i64) v0_8.1),(86000,.arr 3 (.int .i64) v0_9.2.1)] ?_
        refine zS 4 [(1,.sl (.int .i64) ranks),(2,.sl (.int .i64) path),(3,.sl (.int .i64) circle),(4,.bp 4 0),(9,.bp 9 0),(10,.ii st1.2),(11,.ii st2.2),(12,.own 79000),(13,.ii v0_8.2),(14,.sl (.int .i64) v0_9.1),(15,.own 86000),(16,.ii v0_9.2.2),(17,.bool v0_10.1),(21,.bool v0_12.1),(53,.ii st1.2),(56,.ii st2.2),(130,.bool true),(135,.cv (undef))] [(4,.box 24 [.ii g.1,.sl Y7 g.2]),(9,.box 67 (cellsX T67 st2.1)),(79000,.arr 3 (.int .i64) v0_8.1),(86000,.arr 3 (.int .i64) v0_9.2.1)] ?_
        refine zS 5 [(1,.sl (.int .i64) ranks),(2,.sl (.int .i64) path),(3,.sl (.int .i64) circle),(4,.bp 4 0),(9,.bp 9 0),(10,.ii st1.2),(11,.ii st2.2),(12,.own 79000),(13,.ii v0_8.2),(14,.sl (.int .i64) v0_9.1),(15,.own 86000),(16,.ii v0_9.2.2),(17,.bool v0_10.1),(53,.ii st1.2),(56,.ii st2.2),(137,.bool true),(139,.cv (undef)),(140,.cv (undef))] [(4,.box 24 [.ii g.1,.sl Y7 g.2]),(9,.box 67 (cellsX T67 st2.1)),(79000,.arr 3 (.int .i64) v0_8.1),(86000,.arr 3 (.int .i64) v0_9.2.1)] ?_
        refine zB [(1,.sl (.int .i64) ranks),(2,.sl (.int .i64) path),(3,.sl (.int .i64) circle),(4,.bp 4 0),(9,.bp 9 0),(10,.ii st1.2),(11,.ii st2.2),(12,.own 79000),(13,.ii v0_8.2),(14,.sl (.int .i64) v0_9.1),(15,.own 86000),(16,.ii v0_9.2.2),(17,.bool v0_10.1),(53,.ii st1.2),(56,.ii st2.2),(142,.bool true)] [(4,.box 24 [.ii g.1,.sl Y7 g.2]),(9,.box 67 (cellsX T67 st2.1)),(79000,.arr 3 (.int .i64) v0_8.1),(86000,.arr 3 (.int .i64) v0_9.2.1)] ?_
        refine AW.cond (b:=true) rfl (fun _=>?_) (fun hb114=>by cases hb114)
        refine zo ?_
        refine zB [(8,.bool false)] [] ?_
        refine zr ?_
        refine ablock_r ?_
        refine athen_r ?_
        obtain rfl:=zj h
        rw [← hd77 _ rfl] at ho76
        have h:=ho76
        try simp only at h
        refine athen_r ?_
        refine ablock_r ?_
        refine ablock_r ?_
        refine athen_r ?_
        obtain rfl:=zj h
        rw [← hd70 _ rfl] at ho69
        have h:=ho69
        try simp only at h
        refine athen_r ?_
        refine ablock_r ?_
        refine athen_r ?_
        obtain rfl:=zj h
        exact zR [] [] []
       refine zS 5 [(1,.sl (.int .i64) ranks),(2,.sl (.int .i64) path),(3,.sl (.int .i64) circle),(4,.bp 4 0),(9,.bp 9 0),(10,.ii st1.2),(11,.ii st2.2),(12,.own 79000),(13,.ii v0_8.2),(14,.sl (.int .i64) v0_9.1),(15,.own 86000),(16,.ii v0_9.2.2),(17,.bool v0_10.1),(19,.bool v0_11.1),(20,.ii v0_11.2),(21,.bool v0_12.1),(22,.ii v0_12.2),(53,.ii st1.2),(56,.ii st2.2),(117,.bool ((v0_10.1==(decide (v0_9.2.2=0))) != false))] [(4,.box 24 [.ii g.1,.sl Y7 g.2]),(9,.box 67 (cellsX T67 st2.1)),(79000,.arr 3 (.int .i64) v0_8.1),(86000,.arr 3 (.int .i64) v0_9.2.1)] ?_
       refine zS 1 [(1,.sl (.int .i64) ranks),(2,.sl (.int .i64) path),(3,.sl (.int .i64) circle),(4,.bp 4 0),(9,.bp 9 0),(10,.ii st1.2),(11,.ii st2.2),(12,.own 79000),(13,.ii v0_8.2),(14,.sl (.int .i64) v0_9.1),(15,.own 86000),(16,.ii v0_9.2.2),(17,.bool v0_10.1),(19,.bool v0_11.1),(20,.ii v0_11.2),(21,.bool v0_12.1),(22,.ii v0_12.2),(53,.ii st1.2),(56,.ii st2.2),(118,.bool ((v0_10.1==(decide (v0_9.2.2=0))) != false))] [(4,.box 24 [.ii g.1,.sl Y7 g.2]),(9,.box 67 (cellsX T67 st2.1)),(79000,.arr 3 (.int .i64) v0_8.1),(86000,.arr 3 (.int .i64) v0_9.2.1)] ?_
       rcases zI h with ⟨hb115,h⟩|⟨hb115,h⟩
       ·refine zS 4 [(1,.sl (.int .i64) ranks),(2,.sl (.int .i64) path),(3,.sl (.int .i64) circle),(4,.bp 4 0),(9,.bp 9 0),(10,.ii st1.2),(11,.ii st2.2),(12,.own 79000),(13,.ii v0_8.2),(14,.sl (.int .i64) v0_9.1),(15,.own 86000),(16,.ii v0_9.2.2),(17,.bool v0_10.1),(19,.bool v0_11.1),(21,.bool v0_12.1),(22,.ii v0_12.2),(53,.ii st1.2),(56,.ii st2.2),(118,.bool true),(121,.cv (undef)),(122,.cv (undef))] [(4,.box 24 [.ii g.1,.sl Y7 g.2]),(9,.box 67 (cellsX T67 st2.1)),(79000,.arr 3 (.int .i64) v0_8.1),(86000,.arr 3 (.int .i64) v0_9.2.1)] ?_
        refine zS 5 [(1,.sl (.int .i64) ranks),(2,.sl (.int .i64) path),(3,.sl (.int .i64) circle),(4,.bp 4 0),(9,.bp 9 0),(10,.ii st1.2),(11,.ii st2.2),(12,.own 79000),(13,.ii v0_8.2),(14,.sl (.int .i64) v0_9.1),(15,.own 86000),(16,.ii v0_9.2.2),(17,.bool v0_10.1),(19,.bool v0_11.1),(21,.bool v0_12.1),(53,.ii st1.2),(56,.ii st2.2),(126,.bool true),(127,.cv (undef))] [(4,.box 24 [.ii g.1,.sl Y7 g.2]),(9,.box 67 (cellsX T67 st2.1)),(79000,.arr 3 (.int .i64) v0_8.1),(86000,.arr 3 (.int .i64) v0_9.2.1)] ?_
        refine zS 5 [(1,.sl (.int .i64) ranks),(2,.sl (.int .i64) path),(3,.sl (.int .i64) circle),(4,.bp 4 0),(9,.bp 9 0),(10,.ii st1.2),(11,.ii st2.2),(12,.own 79000),(13,.ii v0_8.2),(14,.sl (.int .i64) v0_9.1),(15,.own 86000),(16,.ii v0_9.2.2),(17,.bool v0_10.1),(21,.bool v0_12.1),(53,.ii st1.2),(56,.ii st2.2),(130,.bool true),(132,.cv (undef))] [(4,.box 24 [.ii g.1,.sl Y7 g.2]),(9,.box 67 (cellsX T67 st2.1)),(79000,.arr 3 (.int .i64) v0_8.1),(86000,.arr 3 (.int .i64) v0_9.2.1)] ?_
        refine zS 5 [(1,.sl (.int .i64) ranks),(2,.sl (.int .i64) path),(3,.sl (.int .i64) circle),(4,.bp 4 0),(9,.bp 9 0),(10,.ii st1.2),(11,.ii st2.2),(12,.own 79000),(13,.ii v0_8.2),(14,.sl (.int .i64) v0_9.1),(15,.own 86000),(16,.ii v0_9.2.2),(17,.bool v0_10.1),(21,.bool v0_12.1),(53,.ii st1.2),(56,.ii st2.2),(137,.bool true)] [(4,.box 24 [.ii g.1,.sl Y7 g.2]),(9,.box 67 (cellsX T67 st2.1)),(79000,.arr 3 (.int .i64) v0_8.1),(86000,.arr 3 (.int .i64) v0_9.2.1)] ?_
        refine zS 4 [(1,.sl (.int .i64) ranks),(2,.sl (.int .i64) path),(3,.sl (.int .i64) circle),(4,.bp 4 0),(9,.bp 9 0),(10,.ii st1.2),(11,.ii st2.2),(12,.own 79000),(13,.ii v0_8.2),(14,.sl (.int .i64) v0_9.1),(15,.own 86000),(16,.ii v0_9.2.2),(17,.bool v0_10.1),(53,.ii st1.2),(56,.ii st2.2),(137,.bool true),(141,.cv (undef))] [(4,.box 24 [.ii g.1,.sl Y7 g.2]),(9,.box 67 (cellsX T67 st2.1)),(79000,.arr 3 (.int .i64) v0_8.1),(86000,.arr 3 (.int .i64) v0_9.2.1)] ?_
        refine zB [(1,.sl (.int .i64) ranks),(2,.sl (.int .i64) path),(3,.sl (.int .i64) circle),(4,.bp 4 0),(9,.bp 9 0),(10,.ii st1.2),(11,.ii st2.2),(12,.own 79000),(13,.ii v0_8.2),(14,.sl (.int .i64) v0_9.1),(15,.own 86000),(16,.ii v0_9.2.2),(17,.bool v0_10.1),(53,.ii st1.2),(56,.ii st2.2),(142,.bool true)] [(4,.box 24 [.ii g.1,.sl Y7 g.2]),(9,.box 67 (cellsX T67 st2.1)),(79000,.arr 3 (.int .i64) v0_8.1),(86000,.arr 3 (.int .i64) v0_9.2.1)] ?_
        refine AW.cond (b:=true) rfl (fun _=>?_) (fun hb116=>by cases hb116)
        refine zo ?_
        refine zB [(8,.bool false)] [] ?_
        refine zr ?_
        refine ablock_r ?_
        refine athen_r ?_
        obtain rfl:=zj h
        rw [← hd77 _ rfl] at ho76
        have h:=ho76
        try simp only at h
        refine athen_r ?_
        refine ablock_r ?_
        refine ablock_r ?_
        refine athen_r ?_
        obtain rfl:=zj h
        rw [← hd70 _ rfl] at ho69
        have h:=ho69
        try simp only at h
        refine athen_r ?_
        refine ablock_r ?_
        refine athen_r ?_
        obtain rfl:=zj h
        exact zR [] [] []
       refine zS 3 [(1,.sl (.int .i64) ranks),(2,.sl (.int .i64) path),(3,.sl (.int .i64) circle),(4,.bp 4 0),(9,.bp 9 0),(10,.ii st1.2),(11,.ii st2.2),(12,.own 79000),(13,.ii v0_8.2),(14,.sl (.int .i64) v0_9.1),(15,.own 86000),(16,.ii v0_9.2.2),(17,.bool v0_10.1),(19,.bool v0_11.1),(20,.ii v0_11.2),(21,.bool v0_12.1),(22,.ii v0_12.2),(53,.ii st1.2),(56,.ii st2.2),(118,.bool false),(121,.bool (!(decide (v0_11.2=0))))] [(4,.box 24 [.ii g.1,.sl Y7 g.2]),(9,.box 67 (cellsX T67 st2.1)),(79000,.arr 3 (.int .i64) v0_8.1),(86000,.arr 3 (.int .i64) v0_9.2.1)] ?_
       rcases zI h with ⟨hb117,h⟩|⟨hb117,h⟩
       ·refine zS 5 [(1,.sl (.int .i64) ranks),(2,.sl (.int .i64) path),(3,.sl (.int .i64) circle),(4,.bp 4 0),(9,.bp 9 0),(10,.ii st1.2),(11,.ii st2.2),(12,.own 79000),(13,.ii v0_8.2),(14,.sl (.int .i64) v0_9.1),(15,.own 86000),(16,.ii v0_9.2.2),(17,.bool v0_10.1),(19,.bool v0_11.1),(21,.bool v0_12.1),(22,.ii v0_12.2),(53,.ii st1.2),(56,.ii st2.2),(126,.bool (!(decide (v0_11.2=2))))] [(4,.box 24 [.ii g.1,.sl Y7 g.2]),(9,.box 67 (cellsX T67 st2.1)),(79000,.arr 3 (.int .i64) v0_8.1),(86000,.arr 3 (.int .i64) v0_9.2.1)] ?_
        rcases zI h with ⟨hb118,h⟩|⟨hb118,h⟩
        ·refine zS 5 [(1,.sl (.int .i64) ranks),(2,.sl (.int .i64) path),(3,.sl (.int .i64) circle),(4,.bp 4 0),(9,.bp 9 0),(10,.ii st1.2),(11,.ii st2.2),(12,.own 79000),(13,.ii v0_8.2),(14,.sl (.int .i64) v0_9.1),(15,.own 86000),(16,.ii v0_9.2.2),(17,.bool v0_10.1),(21,.bool v0_12.1),(53,.ii st1.2),(56,.ii st2.2),(130,.bool true),(131,.cv (undef))] [(4,.box 24 [.ii g.1,.sl Y7 g.2]),(9,.box 67 (cellsX T67 st2.1)),(79000,.arr 3 (.int .i64) v0_8.1),(86000,.arr 3 (.int .i64) v0_9.2.1)] ?_
         refine zS 4 [(1,.sl (.int .i64) ranks),(2,.sl (.int .i64) path),(3,.sl (.int .i64) circle),(4,.bp 4 0),(9,.bp 9 0),(10,.ii st1.2),(11,.ii st2.2),(12,.own 79000),(13,.ii v0_8.2),(14,.sl (.int .i64) v0_9.1),(15,.own 86000),(16,.ii v0_9.2.2),(17,.bool v0_10.1),(21,.bool v0_12.1),(53,.ii st1.2),(56,.ii st2.2),(130,.bool true),(135,.cv (undef))] [(4,.box 24 [.ii g.1,.sl Y7 g.2]),(9,.box 67 (cellsX T67 st2.1)),(79000,.arr 3 (.int .i64) v0_8.1),(86000,.arr 3 (.int .i64) v0_9.2.1)] ?_
         refine zS 5 [(1,.sl (.int .i64) ranks),(2,.sl (.int .i64) path),(3,.sl (.int .i64) circle),(4,.bp 4 0),(9,.bp 9 0),(10,.ii st1.2),(11,.ii st2.2),(12,.own 79000),(13,.ii v0_8.2),(14,.sl (.int .i64) v0_9.1),(15,.own 86000),(16,.ii v0_9.2.2),(17,.bool v0_10.1),(53,.ii st1.2),(56,.ii st2.2),(137,.bool true),(139,.cv (undef)),(140,.cv (undef))] [(4,.box 24 [.ii g.1,.sl Y7 g.2]),(9,.box 67 (cellsX T67 st2.1)),(79000,.arr 3 (.int .i64) v0_8.1),(86000,.arr 3 (.int .i64) v0_9.2.1)] ?_
         refine zB [(1,.sl (.int .i64) ranks),(2,.sl (.int .i64) path),(3,.sl (.int .i64) circle),(4,.bp 4 0),(9,.bp 9 0),(10,.ii st1.2),(11,.ii st2.2),(12,.own 79000),(13,.ii v0_8.2),(14,.sl (.int .i64) v0_9.1),(15,.own 86000),(16,.ii v0_9.2.2),(17,.bool v0_10.1),(53,.ii st1.2),(56,.ii st2.2),(142,.bool true)] [(4,.box 24 [.ii g.1,.sl Y7 g.2]),(9,.box 67 (cellsX T67 st2.1)),(79000,.arr 3 (.int .i64) v0_8.1),(86000,.arr 3 (.int .i64) v0_9.2.1)] ?_
         refine AW.cond (b:=true) rfl (fun _=>?_) (fun hb119=>by cases hb119)
         refine zo ?_
         refine zB [(8,.bool false)] [] ?_
         refine zr ?_
         refine ablock_r ?_
         refine athen_r ?_
         obtain rfl:=zj h
         rw [← hd77 _ rfl] at ho76
         have h:=ho76
         try simp only at h
         refine athen_r ?_
         refine ablock_r ?_
         refine ablock_r ?_
         refine athen_r ?_
         obtain rfl:=zj h
         rw [← hd70 _ rfl] at ho69
         have h:=ho69
         try simp only at h
         refine athen_r ?_
         refine ablock_r ?_
         refine athen_r ?_
         obtain rfl:=zj h
         exact zR [] [] []
        refine zS 4 [(1,.sl (.int .i64) ranks),(2,.sl (.int .i64) path),(3,.sl (.int .i64) circle),(4,.bp 4 0),(9,.bp 9 0),(10,.ii st1.2),(11,.ii st2.2),(12,.own 79000),(13,.ii v0_8.2),(14,.sl (.int .i64) v0_9.1),(15,.own 86000),(16,.ii v0_9.2.2),(17,.bool v0_10.1),(19,.bool v0_11.1),(21,.bool v0_12.1),(53,.ii st1.2),(56,.ii st2.2),(130,.bool (!(decide (v0_12.2=0))))] [(4,.box 24 [.ii g.1,.sl Y7 g.2]),(9,.box 67 (cellsX T67 st2.1)),(79000,.arr 3 (.int .i64) v0_8.1),(86000,.arr 3 (.int .i64) v0_9.2.1)] ?_
        rcases zI h with ⟨hb120,h⟩|⟨hb120,h⟩
        ·refine zS 4 [(1,.sl (.int .i64) ranks),(2,.sl (.int .i64) path),(3,.sl (.int .i64) circle),(4,.bp 4 0),(9,.bp 9 0),(10,.ii st1.2),(11,.ii st2.2),(12,.own 79000),(13,.ii v0_8.2),(14,.sl (.int .i64) v0_9.1),(15,.own 86000),(16,.ii v0_9.2.2),(17,.bool v0_10.1),(21,.bool v0_12.1),(53,.ii st1.2),(56,.ii st2.2),(130,.bool true),(132,.cv (undef)),(134,.cv (undef))] [(4,.box 24 [.ii g.1,.sl Y7 g.2]),(9,.box 67 (cellsX T67 st2.1)),(79000,.arr 3 (.int .i64) v0_8.1),(86000,.arr 3 (.int .i64) v0_9.2.1)] ?_
         refine zS 5 [(1,.sl (.int .i64) ranks),(2,.sl (.int .i64) path),(3,.sl (.int .i64) circle),(4,.bp 4 0),(9,.bp 9 0),(10,.ii st1.2),(11,.ii st2.2),(12,.own 79000),(13,.ii v0_8.2),(14,.sl (.int .i64) v0_9.1),(15,.own 86000),(16,.ii v0_9.2.2),(17,.bool v0_10.1),(53,.ii st1.2),(56,.ii st2.2),(137,.bool true),(139,.cv (undef))] [(4,.box 24 [.ii g.1,.sl Y7 g.2]),(9,.box 67 (cellsX T67 st2.1)),(79000,.arr 3 (.int .i64) v0_8.1),(86000,.arr 3 (.int .i64) v0_9.2.1)] ?_
         refine zB [(1,.sl (.int .i64) ranks),(2,.sl (.int .i64) path),(3,.sl (.int .i64) circle),(4,.bp 4 0),(9,.bp 9 0),(10,.ii st1.2),(11,.ii st2.2),(12,.own 79000),(13,.ii v0_8.2),(14,.sl (.int .i64) v0_9.1),(15,.own 86000),(16,.ii v0_9.2.2),(17,.bool v0_10.1),(53,.ii st1.2),(56,.ii st2.2),(142,.bool true)] [(4,.box 24 [.ii g.1,.sl Y7 g.2]),(9,.box 67 (cellsX T67 st2.1)),(79000,.arr 3 (.int .i64) v0_8.1),(86000,.arr 3 (.int .i64) v0_9.2.1)] ?_
         refine AW.cond (b:=true) rfl (fun _=>?_) (fun hb121=>by cases hb121)
         refine zo ?_
         refine zB [(8,.bool false)] [] ?_
         refine zr ?_
         refine ablock_r ?_
         refine athen_r ?_
         obtain rfl:=zj h
         rw [← hd77 _ rfl] at ho76
         have h:=ho76
         try simp only at h
         refine athen_r ?_
         refine ablock_r ?_
         refine ablock_r ?_
         refine athen_r ?_
         obtain rfl:=zj h
         rw [← hd70 _ rfl] at ho69
         have h:=ho69
         try simp only at h
         refine athen_r ?_
         refine ablock_r ?_
         refine athen_r ?_
         obtain rfl:=zj h
         exact zR [] [] []
        refine zS 2 [(1,.sl (.int .i64) ranks),(2,.sl (.int .i64) path),(3,.sl (.int .i64) circle),(4,.bp 4 0),(9,.bp 9 0),(10,.ii st1.2),(11,.ii st2.2),(12,.own 79000),(13,.ii v0_8.2),(14,.sl (.int .i64) v0_9.1),(15,.own 86000),(16,.ii v0_9.2.2),(17,.bool v0_10.1),(21,.bool v0_12.1),(53,.ii st1.2),(56,.ii st2.2),(130,.bool false),(132,.bool v0_11.1)] [(4,.box 24 [.ii g.1,.sl Y7 g.2]),(9,.box 67 (cellsX T67 st2.1)),(79000,.arr 3 (.int .i64) v0_8.1),(86000,.arr 3 (.int .i64) v0_9.2.1)] ?_
        rcases zI h with ⟨hb122,h⟩|⟨hb122,h⟩
        ·refine zS 5 [(1,.sl (.int .i64) ranks),(2,.sl (.int .i64) path),(3,.sl (.int .i64) circle),(4,.bp 4 0),(9,.bp 9 0),(10,.ii st1.2),(11,.ii st2.2),(12,.own 79000),(13,.ii v0_8.2),(14,.sl (.int .i64) v0_9.1),(15,.own 86000),(16,.ii v0_9.2.2),(17,.bool v0_10.1),(21,.bool v0_12.1),(53,.ii st1.2),(56,.ii st2.2),(137,.bool (!v0_10.1))] [(4,.box 24 [.ii g.1,.sl Y7 g.2]),(9,.box 67 (cellsX T67 st2.1)),(79000,.arr 3 (.int .i64) v0_8.1),(86000,.arr 3 (.int .i64) v0_9.2.1)] ?_
         rcases zI h with ⟨hb123,h⟩|⟨hb123,h⟩
         ·refine zS 4 [(1,.sl (.int .i64) ranks),(2,.sl (.int .i64) path),(3,.sl (.int .i64) circle),(4,.bp 4 0),(9,.bp 9 0),(10,.ii st1.2),(11,.ii st2.2),(12,.own 79000),(13,.ii v0_8.2),(14,.sl (.int .i64) v0_9.1),(15,.own 86000),(16,.ii v0_9.2.2),(17,.bool v0_10.1),(53,.ii st1.2),(56,.ii st2.2),(137,.bool true),(141,.cv (undef))] [(4,.box 24 [.ii g.1,.sl Y7 g.2]),(9,.box 67 (cellsX T67 st2.1)),(79000,.arr 3 (.int .i64) v0_8.1),(86000,.arr 3 (.int .i64) v0_9.2.1)] ?_
          refine zB [(1,.sl (.int .i64) ranks),(2,.sl (.int .i64) path),(3,.sl (.int .i64) circle),(4,.bp 4 0),(9,.bp 9 0),(10,.ii st1.2),(11,.ii st2.2),(12,.own 79000),(13,.ii v0_8.2),(14,.sl (.int .i64) v0_9.1),(15,.own 86000),(16,.ii v0_9.2.2),(17,.bool v0_10.1),(53,.ii st1.2),(56,.ii st2.2),(142,.bool true)] [(4,.box 24 [.ii g.1,.sl Y7 g.2]),(9,.box 67 (cellsX T67 st2.1)),(79000,.arr 3 (.int .i64) v0_8.1),(86000,.arr 3 (.int .i64) v0_9.2.1)] ?_
          refine AW.cond (b:=true) rfl (fun _=>?_) (fun hb124=>by cases hb124)
          refine zo ?_
          refine zB [(8,.bool false)] [] ?_
          refine zr ?_
          refine ablock_r ?_
          refine athen_r ?_
          obtain rfl:=zj h
          rw [← hd77 _ rfl] at ho76
          have h:=ho76
          try simp only at h
          refine athen_r ?_
          refine ablock_r ?_
          refine ablock_r ?_
          refine athen_r ?_
          obtain rfl:=zj h
          rw [← hd70 _ rfl] at ho69
          have h:=ho69
          try simp only at h
          refine athen_r ?_
          refine ablock_r ?_
          refine athen_r ?_
          obtain rfl:=zj h
          exact zR [] [] []
         refine zS 2 [(1,.sl (.int .i64) ranks),(2,.sl (.int .i64) path),(3,.sl (.int .i64) circle),(4,.bp 4 0),(9,.bp 9 0),(10,.ii st1.2),(11,.ii st2.2),(12,.own 79000),(13,.ii v0_8.2),(14,.sl (.int .i64) v0_9.1),(15,.own 86000),(16,.ii v0_9.2.2),(17,.bool v0_10.1),(53,.ii st1.2),(56,.ii st2.2),(137,.bool false),(139,.bool v0_12.1)] [(4,.box 24 [.ii g.1,.sl Y7 g.2]),(9,.box 67 (cellsX T67 st2.1)),(79000,.arr 3 (.int .i64) v0_8.1),(86000,.arr 3 (.int .i64) v0_9.2.1)] ?_
         rcases zI h with ⟨hb125,h⟩|⟨hb125,h⟩
         ·refine zB [(1,.sl (.int .i64) ranks),(2,.sl (.int .i64) path),(3,.sl (.int .i64) circle),(4,.bp 4 0),(9,.bp 9 0),(10,.ii st1.2),(11,.ii st2.2),(12,.own 79000),(13,.ii v0_8.2),(14,.sl (.int .i64) v0_9.1),(15,.own 86000),(16,.ii v0_9.2.2),(17,.bool v0_10.1),(53,.ii st1.2),(56,.ii st2.2),(142,.bool v0_10.1)] [(4,.box 24 [.ii g.1,.sl Y7 g.2]),(9,.box 67 (cellsX T67 st2.1)),(79000,.arr 3 (.int .i64) v0_8.1),(86000,.arr 3 (.int .i64) v0_9.2.1)] ?_
          refine zQ h (fun hb126 h=>?_) (fun hb126 h=>?_)
          ·refine zo ?_
           refine zB [(8,.bool false)] [] ?_
           refine zr ?_
           refine ablock_r ?_
           refine athen_r ?_
           obtain rfl:=zj h
           rw [← hd77 _ rfl] at ho76
           have h:=ho76
           try simp only at h
           refine athen_r ?_
           refine ablock_r ?_
           refine ablock_r ?_
           refine athen_r ?_
           obtain rfl:=zj h
           rw [← hd70 _ rfl] at ho69
           have h:=ho69
           try simp only at h
           refine athen_r ?_
           refine ablock_r ?_
           refine athen_r ?_
           obtain rfl:=zj h
           exact zR [] [] []
          refine zk ?_
          exact AW.weaken (zL [] [] []) (hk_linealtop_TopProgress_k4 () h)
         refine zB [(1,.sl (.int .i64) ranks),(2,.sl (.int .i64) path),(3,.sl (.int .i64) circle),(4,.bp 4 0),(9,.bp 9 0),(10,.ii st1.2),(11,.ii st2.2),(12,.own 79000),(13,.ii v0_8.2),(14,.sl (.int .i64) v0_9.1),(15,.own 86000),(16,.ii v0_9.2.2),(17,.bool v0_10.1),(53,.ii st1.2),(56,.ii st2.2),(142,.bool false)] [(4,.box 24 [.ii g.1,.sl Y7 g.2]),(9,.box 67 (cellsX T67 st2.1)),(79000,.arr 3 (.int .i64) v0_8.1),(86000,.arr 3 (.int .i64) v0_9.2.1)] ?_
         refine AW.cond (b:=false) rfl (fun hb127=>by cases hb127) (fun _=>?_)
         refine zk ?_
         exact AW.weaken (zL [] [] []) (hk_linealtop_TopProgress_k4 () h)
        refine zS 5 [(1,.sl (.int .i64) ranks),(2,.sl (.int .i64) path),(3,.sl (.int .i64) circle),(4,.bp 4 0),(9,.bp 9 0),(10,.ii st1.2),(11,.ii st2.2),(12,.own 79000),(13,.ii v0_8.2),(14,.sl (.int .i64) v0_9.1),(15,.own 86000),(16,.ii v0_9.2.2),(17,.bool v0_10.1),(21,.bool v0_12.1),(53,.ii st1.2),(56,.ii st2.2),(137,.bool false)] [(4,.box 24 [.ii g.1,.sl Y7 g.2]),(9,.box 67 (cellsX T67 st2.1)),(79000,.arr 3 (.int .i64) v0_8.1),(86000,.arr 3 (.int .i64) v0_9.2.1)] ?_
        refine zS 2 [(1,.sl (.int .i64) ranks),(2,.sl (.int .i64) path),(3,.sl (.int .i64) circle),(4,.bp 4 0),(9,.bp 9 0),(10,.ii st1.2),(11,.ii st2.2),(12,.own 79000),(13,.ii v0_8.2),(14,.sl (.int .i64) v0_9.1),(15,.own 86000),(16,.ii v0_9.2.2),(17,.bool v0_10.1),(53,.ii st1.2),(56,.ii st2.2),(137,.bool false),(139,.bool v0_12.1)] [(4,.box 24 [.ii g.1,.sl Y7 g.2]),(9,.box 67 (cellsX T67 st2.1)),(79000,.arr 3 (.int .i64) v0_8.1),(86000,.arr 3 (.int .i64) v0_9.2.1)] ?_
        rcases zI h with ⟨hb128,h⟩|⟨hb128,h⟩
        ·refine zB [(1,.sl (.int .i64) ranks),(2,.sl (.int .i64) path),(3,.sl (.int .i64) circle),(4,.bp 4 0),(9,.bp 9 0),(10,.ii st1.2),(11,.ii st2.2),(12,.own 79000),(13,.ii v0_8.2),(14,.sl (.int .i64) v0_9.1),(15,.own 86000),(16,.ii v0_9.2.2),(17,.bool v0_10.1),(53,.ii st1.2),(56,.ii st2.2),(142,.bool v0_10.1)] [(4,.box 24 [.ii g.1,.sl Y7 g.2]),(9,.box 67 (cellsX T67 st2.1)),(79000,.arr 3 (.int .i64) v0_8.1),(86000,.arr 3 (.int .i64) v0_9.2.1)] ?_
         refine zQ h (fun hb129 h=>?_) (fun hb129 h=>?_)
         ·refine zo ?_
          refine zB [(8,.bool false)] [] ?_
          refine zr ?_
          refine ablock_r ?_
          refine athen_r ?_
          obtain rfl:=zj h
          rw [← hd77 _ rfl] at ho76
          have h:=ho76
          try simp only at h
          refine athen_r ?_
          refine ablock_r ?_
          refine ablock_r ?_
          refine athen_r ?_
          obtain rfl:=zj h
          rw [← hd70 _ rfl] at ho69
          have h:=ho69
          try simp only at h
          refine athen_r ?_
          refine ablock_r ?_
          refine athen_r ?_
          obtain rfl:=zj h
          exact zR [] [] []
         refine zk ?_
         exact AW.weaken (zL [] [] []) (hk_linealtop_TopProgress_k4 () h)
        refine zB [(1,.sl (.int .i64) ranks),(2,.sl (.int .i64) path),(3,.sl (.int .i64) circle),(4,.bp 4 0),(9,.bp 9 0),(10,.ii st1.2),(11,.ii st2.2),(12,.own 79000),(13,.ii v0_8.2),(14,.sl (.int .i64) v0_9.1),(15,.own 86000),(16,.ii v0_9.2.2),(17,.bool v0_10.1),(53,.ii st1.2),(56,.ii st2.2),(142,.bool false)] [(4,.box 24 [.ii g.1,.sl Y7 g.2]),(9,.box 67 (cellsX T67 st2.1)),(79000,.arr 3 (.int .i64) v0_8.1),(86000,.arr 3 (.int .i64) v0_9.2.1)] ?_
        refine AW.cond (b:=false) rfl (fun hb130=>by cases hb130) (fun _=>?_)
        refine zk ?_
        exact AW.weaken (zL [] [] []) (hk_linealtop_TopProgress_k4 () h)
       refine zS 5 [(1,.sl (.int .i64) ranks),(2,.sl (.int .i64) path),(3,.sl (.int .i64) circle),(4,.bp 4 0),(9,.bp 9 0),(10,.ii st1.2),(11,.ii st2.2),(12,.own 79000),(13,.ii v0_8.2),(14,.sl (.int .i64) v0_9.1),(15,.own 86000),(16,.ii v0_9.2.2),(17,.bool v0_10.1),(19,.bool v0_11.1),(21,.bool v0_12.1),(22,.ii v0_12.2),(53,.ii st1.2),(56,.ii st2.2),(126,.bool false)] [(4,.box 24 [.ii g.1,.sl Y7 g.2]),(9,.box 67 (cellsX T67 st2.1)),(79000,.arr 3 (.int .i64) v0_8.1),(86000,.arr 3 (.int .i64) v0_9.2.1)] ?_
       refine zS 4 [(1,.sl (.int .i64) ranks),(2,.sl (.int .i64) path),(3,.sl (.int .i64) circle),(4,.bp 4 0),(9,.bp 9 0),(10,.ii st1.2),(11,.ii st2.2),(12,.own 79000),(13,.ii v0_8.2),(14,.sl (.int .i64) v0_9.1),(15,.own 86000),(16,.ii v0_9.2.2),(17,.bool v0_10.1),(19,.bool v0_11.1),(21,.bool v0_12.1),(53,.ii st1.2),(56,.ii st2.2),(130,.bool (!(decide (v0_12.2=0))))] [(4,.box 24 [.ii g.1,.sl Y7 g.2]),(9,.box 67 (cellsX T67 st2.1)),(79000,.arr 3 (.int .i64) v0_8.1),(86000,.arr 3 (.int .i64) v0_9.2.1)] ?_
       rcases zI h with ⟨hb131,h⟩|⟨hb131,h⟩
       ·refine zS 4 [(1,.sl (.int .i64) ranks),(2,.sl (.int .i64) path),(3,.sl (.int .i64) circle),(4,.bp 4 0),(9,.bp 9 0),(10,.ii st1.2),(11,.ii st2.2),(12,.own 79000),(13,.ii v0_8.2),(14,.sl (.int .i64) v0_9.1),(15,.own 86000),(16,.ii v0_9.2.2),(17,.bool v0_10.1),(21,.bool v0_12.1),(53,.ii st1.2),(56,.ii st2.2),(130,.bool true),(132,.cv (undef)),(134,.cv (undef))] [(4,.box 24 [.ii g.1,.sl Y7 g.2]),(9,.box 67 (cellsX T67 st2.1)),(79000,.arr 3 (.int .i64) v0_8.1),(86000,.arr 3 (.int .i64) v0_9.2.1)] ?_
        refine zS 5 [(1,.sl (.int .i64) ranks),(2,.sl (.int .i64) path),(3,.sl (.int .i64) circle),(4,.bp 4 0),(9,.bp 9 0),(10,.ii st1.2),(11,.ii st2.2),(12,.own 79000),(13,.ii v0_8.2),(14,.sl (.int .i64) v0_9.1),(15,.own 86000),(16,.ii v0_9.2.2),(17,.bool v0_10.1),(53,.ii st1.2),(56,.ii st2.2),(137,.bool true),(139,.cv (undef))] [(4,.box 24 [.ii g.1,.sl Y7 g.2]),(9,.box 67 (cellsX T67 st2.1)),(79000,.arr 3 (.int .i64) v0_8.1),(86000,.arr 3 (.int .i64) v0_9.2.1)] ?_
        refine zB [(1,.sl (.int .i64) ranks),(2,.sl (.int .i64) path),(3,.sl (.int .i64) circle),(4,.bp 4 0),(9,.bp 9 0),(10,.ii st1.2),(11,.ii st2.2),(12,.own 79000),(13,.ii v0_8.2),(14,.sl (.int .i64) v0_9.1),(15,.own 86000),(16,.ii v0_9.2.2),(17,.bool v0_10.1),(53,.ii st1.2),(56,.ii st2.2),(142,.bool true)] [(4,.box 24 [.ii g.1,.sl Y7 g.2]),(9,.box 67 (cellsX T67 st2.1)),(79000,.arr 3 (.int .i64) v0_8.1),(86000,.arr 3 (.int .i64) v0_9.2.1)] ?_
        refine AW.cond (b:=true) rfl (fun _=>?_) (fun hb132=>by cases hb132)
        refine zo ?_
        refine zB [(8,.bool false)] [] ?_
        refine zr ?_
        refine ablock_r ?_
        refine athen_r ?_
        obtain rfl:=zj h
        rw [← hd77 _ rfl] at ho76
        have h:=ho76
        try simp only at h
        refine athen_r ?_
        refine ablock_r ?_
        refine ablock_r ?_
        refine athen_r ?_
        obtain rfl:=zj h
        rw [← hd70 _ rfl] at ho69
        have h:=ho69
        try simp only at h
        refine athen_r ?_
        refine ablock_r ?_
        refine athen_r ?_
        obtain rfl:=zj h
        exact zR [] [] []
       refine zS 2 [(1,.sl (.int .i64) ranks),(2,.sl (.int .i64) path),(3,.sl (.int .i64) circle),(4,.bp 4 0),(9,.bp 9 0),(10,.ii st1.2),(11,.ii st2.2),(12,.own 79000),(13,.ii v0_8.2),(14,.sl (.int .i64) v0_9.1),(15,.own 86000),(16,.ii v0_9.2.2),(17,.bool v0_10.1),(21,.bool v0_12.1),(53,.ii st1.2),(56,.ii st2.2),(130,.bool false),(132,.bool v0_11.1)] [(4,.box 24 [.ii g.1,.sl Y7 g.2]),(9,.box 67 (cellsX T67 st2.1)),(79000,.arr 3 (.int .i64) v0_8.1),(86000,.arr 3 (.int .i64) v0_9.2.1)] ?_
       rcases zI h with ⟨hb133,h⟩|⟨hb133,h⟩
       ·refine zS 5 [(1,.sl (.int .i64) ranks),(2,.sl (.int .i64) path),(3,.sl (.int .i64) circle),(4,.bp 4 0),(9,.bp 9 0),(10,.ii st1.2),(11,.ii st2.2),(12,.own 79000),(13,.ii v0_8.2),(14,.sl (.int .i64) v0_9.1),(15,.own 86000),(16,.ii v0_9.2.2),(17,.bool v0_10.1),(21,.bool v0_12.1),(53,.ii st1.2),(56,.ii st2.2),(137,.bool (!v0_10.1))] [(4,.box 24 [.ii g.1,.sl Y7 g.2]),(9,.box 67 (cellsX T67 st2.1)),(79000,.arr 3 (.int .i64) v0_8.1),(86000,.arr 3 (.int .i64) v0_9.2.1)] ?_
        rcases zI h with ⟨hb134,h⟩|⟨hb134,h⟩
        ·refine zS 4 [(1,.sl (.int .i64) ranks),(2,.sl (.int .i64) path),(3,.sl (.int .i64) circle),(4,.bp 4 0),(9,.bp 9 0),(10,.ii st1.2),(11,.ii st2.2),(12,.own 79000),(13,.ii v0_8.2),(14,.sl (.int .i64) v0_9.1),(15,.own 86000),(16,.ii v0_9.2.2),(17,.bool v0_10.1),(53,.ii st1.2),(56,.ii st2.2),(137,.bool true),(141,.cv (undef))] [(4,.box 24 [.ii g.1,.sl Y7 g.2]),(9,.box 67 (cellsX T67 st2.1)),(79000,.arr 3 (.int .i64) v0_8.1),(86000,.arr 3 (.int .i64) v0_9.2.1)] ?_
         refine zB [(1,.sl (.int .i64) ranks),(2,.sl (.int .i64) path),(3,.sl (.int .i64) circle),(4,.bp 4 0),(9,.bp 9 0),(10,.ii st1.2),(11,.ii st2.2),(12,.own 79000),(13,.ii v0_8.2),(14,.sl (.int .i64) v0_9.1),(15,.own 86000),(16,.ii v0_9.2.2),(17,.bool v0_10.1),(53,.ii st1.2),(56,.ii st2.2),(142,.bool true)] [(4,.box 24 [.ii g.1,.sl Y7 g.2]),(9,.box 67 (cellsX T67 st2.1)),(79000,.arr 3 (.int .i64) v0_8.1),(86000,.arr 3 (.int .i64) v0_9.2.1)] ?_
         refine AW.cond (b:=true) rfl (fun _=>?_) (fun hb135=>by cases hb135)
         refine zo ?_
         refine zB [(8,.bool false)] [] ?_
         refine zr ?_
         refine ablock_r ?_
         refine athen_r ?_
         obtain rfl:=zj h
         rw [← hd77 _ rfl] at ho76
         have h:=ho76
         try simp only at h
         refine athen_r ?_
         refine ablock_r ?_
         refine ablock_r ?_
         refine athen_r ?_
         obtain rfl:=zj h
         rw [← hd70 _ rfl] at ho69
         have h:=ho69
         try simp only at h
         refine athen_r ?_
         refine ablock_r ?_
         refine athen_r ?_
         obtain rfl:=zj h
         exact zR [] [] []
        refine zS 2 [(1,.sl (.int .i64) ranks),(2,.sl (.int .i64) path),(3,.sl (.int .i64) circle),(4,.bp 4 0),(9,.bp 9 0),(10,.ii st1.2),(11,.ii st2.2),(12,.own 79000),(13,.ii v0_8.2),(14,.sl (.int .i64) v0_9.1),(15,.own 86000),(16,.ii v0_9.2.2),(17,.bool v0_10.1),(53,.ii st1.2),(56,.ii st2.2),(137,.bool false),(139,.bool v0_12.1)] [(4,.box 24 [.ii g.1,.sl Y7 g.2]),(9,.box 67 (cellsX T67 st2.1)),(79000,.arr 3 (.int .i64) v0_8.1),(86000,.arr 3 (.int .i64) v0_9.2.1)] ?_
        rcases zI h with ⟨hb136,h⟩|⟨hb136,h⟩
        ·refine zB [(1,.sl (.int .i64) ranks),(2,.sl (.int .i64) path),(3,.sl (.int .i64) circle),(4,.bp 4 0),(9,.bp 9 0),(10,.ii st1.2),(11,.ii st2.2),(12,.own 79000),(13,.ii v0_8.2),(14,.sl (.int .i64) v0_9.1),(15,.own 86000),(16,.ii v0_9.2.2),(17,.bool v0_10.1),(53,.ii st1.2),(56,.ii st2.2),(142,.bool v0_10.1)] [(4,.box 24 [.ii g.1,.sl Y7 g.2]),(9,.box 67 (cellsX T67 st2.1)),(79000,.arr 3 (.int .i64) v0_8.1),(86000,.arr 3 (.int .i64) v0_9.2.1)] ?_
         refine zQ h (fun hb137 h=>?_) (fun hb137 h=>?_)
         ·refine zo ?_
          refine zB [(8,.bool false)] [] ?_
          refine zr ?_
          refine ablock_r ?_
          refine athen_r ?_
          obtain rfl:=zj h
          rw [← hd77 _ rfl] at ho76
          have h:=ho76
          try simp only at h
          refine athen_r ?_
          refine ablock_r ?_
          refine ablock_r ?_
          refine athen_r ?_
          obtain rfl:=zj h
          rw [← hd70 _ rfl] at ho69
          have h:=ho69
          try simp only at h
          refine athen_r ?_
          refine ablock_r ?_
          refine athen_r ?_
          obtain rfl:=zj h
          exact zR [] [] []
         refine zk ?_
         exact AW.weaken (zL [] [] []) (hk_linealtop_TopProgress_k4 () h)
        refine zB [(1,.sl (.int .i64) ranks),(2,.sl (.int .i64) path),(3,.sl (.int .i64) circle),(4,.bp 4 0),(9,.bp 9 0),(10,.ii st1.2),(11,.ii st2.2),(12,.own 79000),(13,.ii v0_8.2),(14,.sl (.int .i64) v0_9.1),(15,.own 86000),(16,.ii v0_9.2.2),(17,.bool v0_10.1),(53,.ii st1.2),(56,.ii st2.2),(142,.bool false)] [(4,.box 24 [.ii g.1,.sl Y7 g.2]),(9,.box 67 (cellsX T67 st2.1)),(79000,.arr 3 (.int .i64) v0_8.1),(86000,.arr 3 (.int .i64) v0_9.2.1)] ?_
        refine AW.cond (b:=false) rfl (fun hb138=>by cases hb138) (fun _=>?_)
        refine zk ?_
        exact AW.weaken (zL [] [] []) (hk_linealtop_TopProgress_k4 () h)
       refine zS 5 [(1,.sl (.int .i64) ranks),(2,.sl (.int .i64) path),(3,.sl (.int .i64) circle),(4,.bp 4 0),(9,.bp 9 0),(10,.ii st1.2),(11,.ii st2.2),(12,.own 79000),(13,.ii v0_8.2),(14,.sl (.int .i64) v0_9.1),(15,.own 86000),(16,.ii v0_9.2.2),(17,.bool v0_10.1),(21,.bool v0_12.1),(53,.ii st1.2),(56,.ii st2.2),(137,.bool false)] [(4,.box 24 [.ii g.1,.sl Y7 g.2]),(9,.box 67 (cellsX T67 st2.1)),(79000,.arr 3 (.int .i64) v0_8.1),(86000,.arr 3 (.int .i64) v0_9.2.1)] ?_
       refine zS 2 [(1,.sl (.int .i64) ranks),(2,.sl (.int .i64) path),(3,.sl (.int .i64) circle),(4,.bp 4 0),(9,.bp 9 0),(10,.ii st1.2),(11,.ii st2.2),(12,.own 79000),(13,.ii v0_8.2),(14,.sl (.int .i64) v0_9.1),(15,.own 86000),(16,.ii v0_9.2.2),(17,.bool v0_10.1),(53,.ii st1.2),(56,.ii st2.2),(137,.bool false),(139,.bool v0_12.1)] [(4,.box 24 [.ii g.1,.sl Y7 g.2]),(9,.box 67 (cellsX T67 st2.1)),(79000,.arr 3 (.int .i64) v0_8.1),(86000,.arr 3 (.int .i64) v0_9.2.1)] ?_
       rcases zI h with ⟨hb139,h⟩|⟨hb139,h⟩
       ·refine zB [(1,.sl (.int .i64) ranks),(2,.sl (.int .i64) path),(3,.sl (.int .i64) circle),(4,.bp 4 0),(9,.bp 9 0),(10,.ii st1.2),(11,.ii st2.2),(12,.own 79000),(13,.ii v0_8.2),(14,.sl (.int .i64) v0_9.1),(15,.own 86000),(16,.ii v0_9.2.2),(17,.bool v0_10.1),(53,.ii st1.2),(56,.ii st2.2),(142,.bool v0_10.1)] [(4,.box 24 [.ii g.1,.sl Y7 g.2]),(9,.box 67 (cellsX T67 st2.1)),(79000,.arr 3 (.int .i64) v0_8.1),(86000,.arr 3 (.int .i64) v0_9.2.1)] ?_
        refine zQ h (fun hb140 h=>?_) (fun hb140 h=>?_)
        ·refine zo ?_
         refine zB [(8,.bool false)] [] ?_
         refine zr ?_
         refine ablock_r ?_
         refine athen_r ?_
         obtain rfl:=zj h
         rw [← hd77 _ rfl] at ho76
         have h:=ho76
         try simp only at h
         refine athen_r ?_
         refine ablock_r ?_
         refine ablock_r ?_
         refine athen_r ?_
         obtain rfl:=zj h
         rw [← hd70 _ rfl] at ho69
         have h:=ho69
         try simp only at h
         refine athen_r ?_
         refine ablock_r ?_
         refine athen_r ?_
         obtain rfl:=zj h
         exact zR [] [] []
        refine zk ?_
        exact AW.weaken (zL [] [] []) (hk_linealtop_TopProgress_k4 () h)
       refine zB [(1,.sl (.int .i64) ranks),(2,.sl (.int .i64) path),(3,.sl (.int .i64) circle),(4,.bp 4 0),(9,.bp 9 0),(10,.ii st1.2),(11,.ii st2.2),(12,.own 79000),(13,.ii v0_8.2),(14,.sl (.int .i64) v0_9.1),(15,.own 86000),(16,.ii v0_9.2.2),(17,.bool v0_10.1),(53,.ii st1.2),(56,.ii st2.2),(142,.bool false)] [(4,.box 24 [.ii g.1,.sl Y7 g.2]),(9,.box 67 (cellsX T67 st2.1)),(79000,.arr 3 (.int .i64) v0_8.1),(86000,.arr 3 (.int .i64) v0_9.2.1)] ?_
       refine AW.cond (b:=false) rfl (fun hb141=>by cases hb141) (fun _=>?_)
       refine zk ?_
       exact AW.weaken (zL [] [] []) (hk_linealtop_TopProgress_k4 () h)
     refine AW.seq ?_
     refine zo ?_
     refine zS 3 [(1,.sl (.int .i64) ranks),(2,.sl (.int .i64) path),(3,.sl (.int .i64) circle),(4,.bp 4 0),(9,.bp 9 0),(10,.ii st1.2),(11,.ii st2.2),(53,.ii st1.2),(56,.ii st2.2),(61,.bool (decide (st1.2=0)))] [(4,.box 24 [.ii g.1,.sl Y7 g.2]),(9,.box 67 (cellsX T67 st2.1))] ?_
     rcases zI h with ⟨hb142,h⟩|⟨hb142,h⟩
     ·refine zB [(1,.sl (.int .i64) ranks),(2,.sl (.int .i64) path),(3,.sl (.int .i64) circle),(4,.bp 4 0),(9,.bp 9 0),(10,.ii st1.2),(11,.ii st2.2),(53,.ii st1.2),(56,.ii st2.2),(64,.bool (decide (0<st2.2)))] [(4,.box 24 [.ii g.1,.sl Y7 g.2]),(9,.box 67 (cellsX T67 st2.1))] ?_
      refine zQ h (fun hb143 h=>?_) (fun hb143 h=>?_)
      ·refine AW.exit ?_
       refine athen_e ?_
       refine ablock_s ?_
       refine athen_n ?_
       refine AW.ops ?_
       obtain ⟨c144,h⟩:=ck_some.1 h
       refine zA [(1,.sl (.int .i64) ranks),(2,.sl (.int .i64) path),(3,.sl (.int .i64) circle),(4,.bp 4 0),(9,.bp 9 0),(10,.ii st1.2),(53,.ii st1.2),(56,.ii (st2.2+1))] [(4,.box 24 [.ii g.1,.sl Y7 g.2]),(9,.box 67 (cellsX T67 st2.1))] ?_
       obtain rfl:=zj h
       exact ⟨_,rfl,zL [] [] []⟩
      refine zk ?_
      exact AW.weaken (zL [] [] []) (hk_linealtop_TopProgress_k3 () h)
     refine zB [(1,.sl (.int .i64) ranks),(2,.sl (.int .i64) path),(3,.sl (.int .i64) circle),(4,.bp 4 0),(9,.bp 9 0),(10,.ii st1.2),(11,.ii st2.2),(53,.ii st1.2),(56,.ii st2.2),(64,.bool false)] [(4,.box 24 [.ii g.1,.sl Y7 g.2]),(9,.box 67 (cellsX T67 st2.1))] ?_
     refine AW.cond (b:=false) rfl (fun hb145=>by cases hb145) (fun _=>?_)
     refine zk ?_
     exact AW.weaken (zL [] [] []) (hk_linealtop_TopProgress_k3 () h)
    refine AW.exit ?_
    refine athen_e ?_
    obtain rfl:=zj h
    rw [← hd77 _ rfl] at ho76
    have h:=ho76
    try simp only at h
    refine athen_e ?_
    refine ablock_s ?_
    refine ablock_n ?_
    refine athen_n ?_
    exact AW.weaken (zL [] [] []) (hk_linealtop_TopProgress_k2 _ h)
  refine AW.exit ?_
  refine athen_e ?_
  obtain rfl:=zj h
  rw [← hd70 _ rfl] at ho69
  have h:=ho69
  try simp only at h
  refine athen_e ?_
  refine ablock_s ?_
  refine athen_n ?_
  exact AW.weaken (zL [] [] []) (hk_linealtop_TopProgress_k1 _ h)
end Go.Proofs.Yteclokkdgmacpaa
