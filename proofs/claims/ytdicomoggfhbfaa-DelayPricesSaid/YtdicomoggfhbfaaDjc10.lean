import Derived.Test.YtdicomoggfhbfaaDlp
import Derived.Test.YtdicomoggfhbfaaShd
import Derived.Test.YtdicomoggfhbfaaAvd
import Derived.Test.YtdicomoggfhbfaaDjc9
namespace Go.Proofs.Ytdicomoggfhbfaa
open Go.RowKit
set_option linter.unusedSimpArgs false
set_option linter.unusedVariables false
set_option linter.constructorNameAsVariable false
set_option maxRecDepth 100000
set_option maxHeartbeats 40000000
theorem hc_linealref09_held (l:List (Int×Int)) (p:Int×Int×Int) {r:Bool} (h:linealref09_held l p=some r):HC Try.prog 84 [] [.sl (.pair (.int .i64) (.int .i64)) l,.agg [.int .i64 p.1,.int .i64 p.2.1,.int .i64 p.2.2]] [] (.bool r):=by
 unfold linealref09_held at h
 refine zH Try.func84 [.tmp 4] 17 ?_
 refine zo ?_
 refine zB [(0,.sl (.pair (.int .i64) (.int .i64)) l),(3,.bp 3 0)] [(3,.box 35 [.int .i64 p.1,.int .i64 p.2.1,.int .i64 p.2.2])] ?_
 refine AW.have1 (fun _:Unit=>linealref09_held_k1=some r) (fun _=>⟨fr [],hpGet [],gt⟩) (fun _ h=>?_) (fun hk_linealref09_held_k1=>?_)
 ·as_aux_lemma =>
   unfold linealref09_held_k1 at h
   refine zo ?_
   refine zB [(4,.bool false)] [] ?_
   refine AW.ret ?_
   obtain rfl:=Option.some.inj h
   exact zR [] [] []
 ·refine AW.seq ?_
  refine zo ?_
  refine zB [(3,.bp 3 0),(7,.sl (.pair (.int .i64) (.int .i64)) l),(8,.int .i64 (l.length:Int)),(9,.int .i64 0)] [(3,.box 35 [.int .i64 p.1,.int .i64 p.2.1,.int .i64 p.2.2])] ?_
  refine AW.block ?_
  obtain ⟨rv5,hw1,ho2⟩:=Option.bind_eq_some_iff.1 h
  refine AW.loopO (linealref09_held_b1 l p) (fun st1=>⟨fr [(3,.bp 3 0),(7,.sl (.pair (.int .i64) (.int .i64)) l),(8,.int .i64 (l.length:Int)),(9,.int .i64 st1)],hpGet [(3,.box 35 [.int .i64 p.1,.int .i64 p.2.1,.int .i64 p.2.2])],gt⟩) 0 hw1 (zL [] [] []) ?_
  as_aux_lemma =>
   intro st1 x4 h hd3
   unfold linealref09_held_b1 at h
   refine zo ?_
   refine zB [(3,.bp 3 0),(7,.sl (.pair (.int .i64) (.int .i64)) l),(8,.int .i64 (l.length:Int)),(9,.int .i64 st1),(10,.bool (decide (st1<(l.length:Int))))] [(3,.box 35 [.int .i64 p.1,.int .i64 p.2.1,.int .i64 p.2.2])] ?_
   refine AW.seq ?_
   refine zQ h (fun hb6 h=>?_) (fun hb6 h=>?_)
   ·refine zk ?_
    refine AW.seq ?_
    refine AW.block ?_
    refine zo ?_
    obtain ⟨c7,h⟩:=ck_some.1 h
    obtain ⟨c8,h⟩:=ck_some.1 h
    refine zB [(3,.bp 3 0),(6,.bp 6 0),(7,.sl (.pair (.int .i64) (.int .i64)) l),(8,.int .i64 (l.length:Int)),(9,.int .i64 st1)] [(3,.box 35 [.int .i64 p.1,.int .i64 p.2.1,.int .i64 p.2.2]),(6,.box 110 [.int .i64 (l.getD st1.toNat (0,0)).1,.int .i64 (l.getD st1.toNat (0,0)).2])] ?_
    refine zo ?_
    refine zS 2 [(3,.bp 3 0),(7,.sl (.pair (.int .i64) (.int .i64)) l),(8,.int .i64 (l.length:Int)),(9,.int .i64 st1),(13,.agg [.int .i64 (l.getD st1.toNat (0,0)).1,.int .i64 (l.getD st1.toNat (0,0)).2]),(14,.agg [.int .i64 p.1,.int .i64 p.2.1,.int .i64 p.2.2])] [(3,.box 35 [.int .i64 p.1,.int .i64 p.2.1,.int .i64 p.2.2])] ?_
    obtain ⟨v0,hv9,h⟩:=Option.bind_eq_some_iff.1 h
    refine zC [] [] (hc_linealref09_holds (l.getD st1.toNat (0,0)) p hv9) [(3,.bp 3 0),(7,.sl (.pair (.int .i64) (.int .i64)) l),(8,.int .i64 (l.length:Int)),(9,.int .i64 st1),(15,.bool v0)] [(3,.box 35 [.int .i64 p.1,.int .i64 p.2.1,.int .i64 p.2.2])] ?_
    refine zB [(3,.bp 3 0),(7,.sl (.pair (.int .i64) (.int .i64)) l),(8,.int .i64 (l.length:Int)),(9,.int .i64 st1),(15,.bool v0)] [(3,.box 35 [.int .i64 p.1,.int .i64 p.2.1,.int .i64 p.2.2])] ?_
    refine zQ h (fun hb10 h=>?_) (fun hb10 h=>?_)
    ·refine zo ?_
     refine zB [(4,.bool true)] [] ?_
     refine AW.ret ?_
     refine ablock_r ?_
     refine athen_r ?_
     obtain rfl:=Option.some.inj h
     try rw [← hd3 _ rfl] at ho2
     have h:=ho2
     try simp only at h
     refine athen_r ?_
     refine ablock_r ?_
     refine athen_r ?_
     obtain rfl:=Option.some.inj h
     exact zR [] [] []
    ·refine zm ?_
     refine athen_n ?_
     refine AW.ops ?_
     obtain ⟨c11,h⟩:=ck_some.1 h
     refine zA [(3,.bp 3 0),(7,.sl (.pair (.int .i64) (.int .i64)) l),(8,.int .i64 (l.length:Int)),(9,.int .i64 (st1+1))] [(3,.box 35 [.int .i64 p.1,.int .i64 p.2.1,.int .i64 p.2.2])] ?_
     obtain rfl:=Option.some.inj h
     exact ⟨_,rfl,zL [] [] []⟩
   ·refine AW.exit ?_
    refine athen_e ?_
    obtain rfl:=Option.some.inj h
    try rw [← hd3 _ rfl] at ho2
    have h:=ho2
    try simp only at h
    refine athen_e ?_
    refine ablock_s ?_
    refine athen_n ?_
    exact AW.weaken (zL [] [] []) (hk_linealref09_held_k1 () h)
theorem hc_delay_holdAll_1 (pair:Int×Int×Int) (a1:List (Int×Int)) {r:Bool} (h:delay_holdAll_1 pair a1=some r):HC Try.prog 121 [(1000,.box 42 [.sl (.pair (.int .i64) (.int .i64)) a1])] [.agg [.int .i64 pair.1,.int .i64 pair.2.1,.int .i64 pair.2.2],.bp 1000 0] [(1000,.box 42 [.sl (.pair (.int .i64) (.int .i64)) a1])] (.bool r):=by
 unfold delay_holdAll_1 at h
 refine zH Try.func121 [.tmp 3] 8 ?_
 refine zo ?_
 refine zB [(1,.bp 1000 0),(2,.bp 2 0)] [(2,.box 35 [.int .i64 pair.1,.int .i64 pair.2.1,.int .i64 pair.2.2]),(1000,.box 42 [.sl (.pair (.int .i64) (.int .i64)) a1])] ?_
 refine zo ?_
 refine zS 2 [(4,.sl (.pair (.int .i64) (.int .i64)) a1),(5,.agg [.int .i64 pair.1,.int .i64 pair.2.1,.int .i64 pair.2.2])] [(1000,.box 42 [.sl (.pair (.int .i64) (.int .i64)) a1])] ?_
 obtain ⟨v0,hv1,h⟩:=Option.bind_eq_some_iff.1 h
 refine zC [] [] (hc_delay_isHeld a1 pair hv1) [(6,.bool v0)] [(1000,.box 42 [.sl (.pair (.int .i64) (.int .i64)) a1])] ?_
 refine zB [(3,.bool (!v0))] [(1000,.box 42 [.sl (.pair (.int .i64) (.int .i64)) a1])] ?_
 refine AW.ret ?_
 obtain rfl:=Option.some.inj h
 exact zR [] [] []
theorem hc_slices_IndexFunc_9 (s:List (Int×Int×Int)) (c0:List (Int×Int)) {r:Int} (h:slices_IndexFunc_9 s c0=some r):HC Try.prog 116 [(1000,.box 42 [.sl (.pair (.int .i64) (.int .i64)) c0])] [.sl Y0 s,.fn (.func 121) [] [.bp 1000 0]] [(1000,.box 42 [.sl (.pair (.int .i64) (.int .i64)) c0])] (.int .i64 r):=by
 unfold slices_IndexFunc_9 at h
 refine zH Try.func116 [.tmp 4] 19 ?_
 refine zo ?_
 refine zB [(0,.sl Y0 s),(1,.fn (.func 121) [] [.bp 1000 0])] [(1000,.box 42 [.sl (.pair (.int .i64) (.int .i64)) c0])] ?_
 refine AW.have1 (fun _:Unit=>slices_IndexFunc_9_k1=some r) (fun _=>⟨fr [],hpGet [(1000,.box 42 [.sl (.pair (.int .i64) (.int .i64)) c0])],gt⟩) (fun _ h=>?_) (fun hk_slices_IndexFunc_9_k1=>?_)
 ·as_aux_lemma =>
   unfold slices_IndexFunc_9_k1 at h
   refine zo ?_
   refine zB [(4,.int .i64 (-1))] [(1000,.box 42 [.sl (.pair (.int .i64) (.int .i64)) c0])] ?_
   refine AW.ret ?_
   obtain rfl:=Option.some.inj h
   exact zR [] [] []
 ·refine AW.seq ?_
  refine zo ?_
  refine zB [(0,.sl Y0 s),(1,.fn (.func 121) [] [.bp 1000 0]),(7,.int .i64 (s.length:Int)),(8,.int .i64 0)] [(1000,.box 42 [.sl (.pair (.int .i64) (.int .i64)) c0])] ?_
  refine AW.block ?_
  obtain ⟨rv5,hw1,ho2⟩:=Option.bind_eq_some_iff.1 h
  refine AW.loopO (slices_IndexFunc_9_b1 s c0) (fun st1=>⟨fr [(0,.sl Y0 s),(1,.fn (.func 121) [] [.bp 1000 0]),(7,.int .i64 (s.length:Int)),(8,.int .i64 st1)],hpGet [(1000,.box 42 [.sl (.pair (.int .i64) (.int .i64)) c0])],gt⟩) 0 hw1 (zL [] [] []) ?_
  as_aux_lemma =>
   intro st1 x4 h hd3
   unfold slices_IndexFunc_9_b1 at h
   refine zo ?_
   refine zB [(0,.sl Y0 s),(1,.fn (.func 121) [] [.bp 1000 0]),(7,.int .i64 (s.length:Int)),(8,.int .i64 st1),(9,.bool (decide (st1<(s.length:Int))))] [(1000,.box 42 [.sl (.pair (.int .i64) (.int .i64)) c0])] ?_
   refine AW.seq ?_
   refine zQ h (fun hb6 h=>?_) (fun hb6 h=>?_)
   ·refine zk ?_
    refine AW.seq ?_
    refine AW.block ?_
    refine zo ?_
    refine zB [(0,.sl Y0 s),(1,.fn (.func 121) [] [.bp 1000 0]),(5,.int .i64 st1),(7,.int .i64 (s.length:Int)),(8,.int .i64 st1)] [(1000,.box 42 [.sl (.pair (.int .i64) (.int .i64)) c0])] ?_
    refine zo ?_
    obtain ⟨c7,h⟩:=ck_some.1 h
    obtain ⟨c8,h⟩:=ck_some.1 h
    refine zS 5 [(0,.sl Y0 s),(1,.fn (.func 121) [] [.bp 1000 0]),(5,.int .i64 st1),(7,.int .i64 (s.length:Int)),(8,.int .i64 st1),(11,.fn (.func 121) [] [.bp 1000 0]),(15,.agg [.int .i64 (s.getD st1.toNat (0,0,0)).1,.int .i64 (s.getD st1.toNat (0,0,0)).2.1,.int .i64 (s.getD st1.toNat (0,0,0)).2.2])] [(1000,.box 42 [.sl (.pair (.int .i64) (.int .i64)) c0])] ?_
    obtain ⟨v0,hv9,h⟩:=Option.bind_eq_some_iff.1 h
    refine zC [] [(1000,1000)] (hc_delay_holdAll_1 (s.getD st1.toNat (0,0,0)) c0 hv9) [(0,.sl Y0 s),(1,.fn (.func 121) [] [.bp 1000 0]),(5,.int .i64 st1),(7,.int .i64 (s.length:Int)),(8,.int .i64 st1),(16,.bool v0)] [(1000,.box 42 [.sl (.pair (.int .i64) (.int .i64)) c0])] ?_
    refine zB [(0,.sl Y0 s),(1,.fn (.func 121) [] [.bp 1000 0]),(5,.int .i64 st1),(7,.int .i64 (s.length:Int)),(8,.int .i64 st1),(16,.bool v0)] [(1000,.box 42 [.sl (.pair (.int .i64) (.int .i64)) c0])] ?_
    refine zQ h (fun hb10 h=>?_) (fun hb10 h=>?_)
    ·refine zo ?_
     refine zB [(4,.int .i64 st1)] [(1000,.box 42 [.sl (.pair (.int .i64) (.int .i64)) c0])] ?_
     refine AW.ret ?_
     refine ablock_r ?_
     refine athen_r ?_
     obtain rfl:=Option.some.inj h
     rw [← hd3 _ rfl] at ho2
     have h:=ho2
     try simp only at h
     refine athen_r ?_
     refine ablock_r ?_
     refine athen_r ?_
     obtain rfl:=Option.some.inj h
     exact zR [] [] []
    ·refine zm ?_
     refine athen_n ?_
     refine AW.ops ?_
     obtain ⟨c11,h⟩:=ck_some.1 h
     refine zA [(0,.sl Y0 s),(1,.fn (.func 121) [] [.bp 1000 0]),(7,.int .i64 (s.length:Int)),(8,.int .i64 (st1+1))] [(1000,.box 42 [.sl (.pair (.int .i64) (.int .i64)) c0])] ?_
     obtain rfl:=Option.some.inj h
     exact ⟨_,rfl,zL [] [] []⟩
   ·refine AW.exit ?_
    refine athen_e ?_
    obtain rfl:=Option.some.inj h
    try rw [← hd3 _ rfl] at ho2
    have h:=ho2
    try simp only at h
    refine athen_e ?_
    refine ablock_s ?_
    refine athen_n ?_
    exact AW.weaken (zL [] [] []) (hk_slices_IndexFunc_9_k1 () h)
theorem hc_slices_ContainsFunc_6 (s:List (Int×Int×Int)) (c0:List (Int×Int)) {r:Bool} (h:slices_ContainsFunc_6 s c0=some r):HC Try.prog 122 [(1000,.box 42 [.sl (.pair (.int .i64) (.int .i64)) c0])] [.sl Y0 s,.fn (.func 121) [] [.bp 1000 0]] [(1000,.box 42 [.sl (.pair (.int .i64) (.int .i64)) c0])] (.bool r):=by
 unfold slices_ContainsFunc_6 at h
 refine zH Try.func122 [.tmp 4] 9 ?_
 refine zo ?_
 refine zB [(0,.sl Y0 s),(1,.fn (.func 121) [] [.bp 1000 0])] [(1000,.box 42 [.sl (.pair (.int .i64) (.int .i64)) c0])] ?_
 refine zo ?_
 refine zS 2 [(5,.sl Y0 s),(6,.fn (.func 121) [] [.bp 1000 0])] [(1000,.box 42 [.sl (.pair (.int .i64) (.int .i64)) c0])] ?_
 obtain ⟨v0,hv1,h⟩:=Option.bind_eq_some_iff.1 h
 refine zC [] [(1000,1000)] (hc_slices_IndexFunc_9 s c0 hv1) [(7,.int .i64 v0)] [(1000,.box 42 [.sl (.pair (.int .i64) (.int .i64)) c0])] ?_
 refine zB [(4,.bool (decide (0≤v0)))] [(1000,.box 42 [.sl (.pair (.int .i64) (.int .i64)) c0])] ?_
 refine AW.ret ?_
 obtain rfl:=Option.some.inj h
 exact zR [] [] []
theorem hc_delay_holdAll (fences:List (Int×Int)) (pairs:List (Int×Int×Int)) {r:Bool} (h:delay_holdAll fences pairs=some r):HC Try.prog 85 [] [.sl (.pair (.int .i64) (.int .i64)) fences,.sl Y0 pairs] [] (.bool r):=by
 unfold delay_holdAll at h
 refine zH Try.func85 [.tmp 4] 11 ?_
 refine zo ?_
 refine zB [(1,.sl Y0 pairs),(2,.bp 2 0)] [(2,.box 42 [.sl (.pair (.int .i64) (.int .i64)) fences])] ?_
 refine zo ?_
 refine zB [(1,.sl Y0 pairs),(5,.fn (.func 121) [] [.bp 2 0])] [(2,.box 42 [.sl (.pair (.int .i64) (.int .i64)) fences])] ?_
 refine zo ?_
 refine zS 2 [(7,.sl Y0 pairs),(8,.fn (.func 121) [] [.bp 2 0])] [(2,.box 42 [.sl (.pair (.int .i64) (.int .i64)) fences])] ?_
 obtain ⟨v0,hv1,h⟩:=Option.bind_eq_some_iff.1 h
 refine zC [] [(1000,2)] (hc_slices_ContainsFunc_6 pairs fences hv1) [(9,.bool v0)] [] ?_
 refine zB [(4,.bool (!v0))] [] ?_
 refine AW.ret ?_
 obtain rfl:=Option.some.inj h
 exact zR [] [] []
theorem hc_linealref09_enough (l:List (Int×Int)) (pairs:List (Int×Int×Int)) {r:Bool} (h:linealref09_enough l pairs=some r):HC Try.prog 86 [] [.sl (.pair (.int .i64) (.int .i64)) l,.sl Y0 pairs] [] (.bool r):=by
 unfold linealref09_enough at h
 refine zH Try.func86 [.tmp 4] 18 ?_
 refine zo ?_
 refine zB [(0,.sl (.pair (.int .i64) (.int .i64)) l),(1,.sl Y0 pairs)] [] ?_
 refine AW.have1 (fun _:Unit=>linealref09_enough_k1=some r) (fun _=>⟨fr [],hpGet [],gt⟩) (fun _ h=>?_) (fun hk_linealref09_enough_k1=>?_)
 ·as_aux_lemma =>
   unfold linealref09_enough_k1 at h
   refine zo ?_
   refine zB [(4,.bool true)] [] ?_
   refine AW.ret ?_
   obtain rfl:=Option.some.inj h
   exact zR [] [] []
 ·refine AW.seq ?_
  refine zo ?_
  refine zB [(0,.sl (.pair (.int .i64) (.int .i64)) l),(7,.sl Y0 pairs),(8,.int .i64 (pairs.length:Int)),(9,.int .i64 0)] [] ?_
  refine AW.block ?_
  obtain ⟨rv5,hw1,ho2⟩:=Option.bind_eq_some_iff.1 h
  refine AW.loopO (linealref09_enough_b1 l pairs) (fun st1=>⟨fr [(0,.sl (.pair (.int .i64) (.int .i64)) l),(7,.sl Y0 pairs),(8,.int .i64 (pairs.length:Int)),(9,.int .i64 st1)],hpGet [],gt⟩) 0 hw1 (zL [] [] []) ?_
  as_aux_lemma =>
   intro st1 x4 h hd3
   unfold linealref09_enough_b1 at h
   refine zo ?_
   refine zB [(0,.sl (.pair (.int .i64) (.int .i64)) l),(7,.sl Y0 pairs),(8,.int .i64 (pairs.length:Int)),(9,.int .i64 st1),(10,.bool (decide (st1<(pairs.length:Int))))] [] ?_
   refine AW.seq ?_
   refine zQ h (fun hb6 h=>?_) (fun hb6 h=>?_)
   ·refine zk ?_
    refine AW.seq ?_
    refine AW.block ?_
    refine zo ?_
    obtain ⟨c7,h⟩:=ck_some.1 h
    obtain ⟨c8,h⟩:=ck_some.1 h
    refine zB [(0,.sl (.pair (.int .i64) (.int .i64)) l),(6,.bp 6 0),(7,.sl Y0 pairs),(8,.int .i64 (pairs.length:Int)),(9,.int .i64 st1)] [(6,.box 35 [.int .i64 (pairs.getD st1.toNat (0,0,0)).1,.int .i64 (pairs.getD st1.toNat (0,0,0)).2.1,.int .i64 (pairs.getD st1.toNat (0,0,0)).2.2])] ?_
    refine zo ?_
    refine zS 2 [(0,.sl (.pair (.int .i64) (.int .i64)) l),(7,.sl Y0 pairs),(8,.int .i64 (pairs.length:Int)),(9,.int .i64 st1),(13,.sl (.pair (.int .i64) (.int .i64)) l),(14,.agg [.int .i64 (pairs.getD st1.toNat (0,0,0)).1,.int .i64 (pairs.getD st1.toNat (0,0,0)).2.1,.int .i64 (pairs.getD st1.toNat (0,0,0)).2.2])] [] ?_
    obtain ⟨v0,hv9,h⟩:=Option.bind_eq_some_iff.1 h
    refine zC [] [] (hc_linealref09_held l (pairs.getD st1.toNat (0,0,0)) hv9) [(0,.sl (.pair (.int .i64) (.int .i64)) l),(7,.sl Y0 pairs),(8,.int .i64 (pairs.length:Int)),(9,.int .i64 st1),(15,.bool v0)] [] ?_
    refine zB [(0,.sl (.pair (.int .i64) (.int .i64)) l),(7,.sl Y0 pairs),(8,.int .i64 (pairs.length:Int)),(9,.int .i64 st1),(16,.bool (!v0))] [] ?_
    refine zQ h (fun hb10 h=>?_) (fun hb10 h=>?_)
    ·refine zo ?_
     refine zB [(4,.bool false)] [] ?_
     refine AW.ret ?_
     refine ablock_r ?_
     refine athen_r ?_
     obtain rfl:=Option.some.inj h
     try rw [← hd3 _ rfl] at ho2
     have h:=ho2
     try simp only at h
     refine athen_r ?_
     refine ablock_r ?_
     refine athen_r ?_
     obtain rfl:=Option.some.inj h
     exact zR [] [] []
    ·refine zm ?_
     refine athen_n ?_
     refine AW.ops ?_
     obtain ⟨c11,h⟩:=ck_some.1 h
     refine zA [(0,.sl (.pair (.int .i64) (.int .i64)) l),(7,.sl Y0 pairs),(8,.int .i64 (pairs.length:Int)),(9,.int .i64 (st1+1))] [] ?_
     obtain rfl:=Option.some.inj h
     exact ⟨_,rfl,zL [] [] []⟩
   ·refine AW.exit ?_
    refine athen_e ?_
    obtain rfl:=Option.some.inj h
    try rw [← hd3 _ rfl] at ho2
    have h:=ho2
    try simp only at h
    refine athen_e ?_
    refine ablock_s ?_
    refine athen_n ?_
    exact AW.weaken (zL [] [] []) (hk_linealref09_enough_k1 () h)
theorem hc_delay_accesses_areCosts_1 (cost:Int) {r:Bool} (h:delay_accesses_areCosts_1 cost=some r):HC Try.prog 123 [] [.int .i64 cost] [] (.bool r):=by
 unfold delay_accesses_areCosts_1 at h
 refine zH Try.func123 [.tmp 2] 9 ?_
 refine zo ?_
 refine zB [(0,.int .i64 cost)] [] ?_
 refine zo ?_
 refine zS 3 [(0,.int .i64 cost),(5,.bool (decide (cost<1)))] [] ?_
 rcases zI h with ⟨hb1,h⟩|⟨hb1,h⟩
 ·refine zB [(2,.bool true)] [] ?_
  refine AW.ret ?_
  obtain rfl:=Option.some.inj h
  exact zR [] [] []
 ·refine zB [(2,.bool (decide (9<cost)))] [] ?_
  refine AW.ret ?_
  obtain rfl:=Option.some.inj h
  exact zR [] [] []
theorem hc_slices_IndexFunc_10 (s:List Int) {r:Int} (h:slices_IndexFunc_10 s=some r):HC Try.prog 146 [] [.sl (.int .i64) s,.fn (.func 123) [] []] [] (.int .i64 r):=by
 unfold slices_IndexFunc_10 at h
 refine zH Try.func146 [.tmp 4] 19 ?_
 refine zo ?_
 refine zB [(0,.sl (.int .i64) s),(1,.fn (.func 123) [] [])] [] ?_
 refine AW.have1 (fun _:Unit=>slices_IndexFunc_10_k1=some r) (fun _=>⟨fr [],hpGet [],gt⟩) (fun _ h=>?_) (fun hk_slices_IndexFunc_10_k1=>?_)
 ·as_aux_lemma =>
   unfold slices_IndexFunc_10_k1 at h
   refine zo ?_
   refine zB [(4,.int .i64 (-1))] [] ?_
   refine AW.ret ?_
   obtain rfl:=Option.some.inj h
   exact zR [] [] []
 ·refine AW.seq ?_
  refine zo ?_
  refine zB [(0,.sl (.int .i64) s),(1,.fn (.func 123) [] []),(7,.int .i64 (s.length:Int)),(8,.int .i64 0)] [] ?_
  refine AW.block ?_
  obtain ⟨rv5,hw1,ho2⟩:=Option.bind_eq_some_iff.1 h
  refine AW.loopO (slices_IndexFunc_10_b1 s) (fun st1=>⟨fr [(0,.sl (.int .i64) s),(1,.fn (.func 123) [] []),(7,.int .i64 (s.length:Int)),(8,.int .i64 st1)],hpGet [],gt⟩) 0 hw1 (zL [] [] []) ?_
  as_aux_lemma =>
   intro st1 x4 h hd3
   unfold slices_IndexFunc_10_b1 at h
   refine zo ?_
   refine zB [(0,.sl (.int .i64) s),(1,.fn (.func 123) [] []),(7,.int .i64 (s.length:Int)),(8,.int .i64 st1),(9,.bool (decide (st1<(s.length:Int))))] [] ?_
   refine AW.seq ?_
   refine zQ h (fun hb6 h=>?_) (fun hb6 h=>?_)
   ·refine zk ?_
    refine AW.seq ?_
    refine AW.block ?_
    refine zo ?_
    refine zB [(0,.sl (.int .i64) s),(1,.fn (.func 123) [] []),(5,.int .i64 st1),(7,.int .i64 (s.length:Int)),(8,.int .i64 st1)] [] ?_
    refine zo ?_
    obtain ⟨c7,h⟩:=ck_some.1 h
    obtain ⟨c8,h⟩:=ck_some.1 h
    refine zS 5 [(0,.sl (.int .i64) s),(1,.fn (.func 123) [] []),(5,.int .i64 st1),(7,.int .i64 (s.length:Int)),(8,.int .i64 st1),(11,.fn (.func 123) [] []),(15,.int .i64 (s.getD st1.toNat 0))] [] ?_
    obtain ⟨v0,hv9,h⟩:=Option.bind_eq_some_iff.1 h
    refine zC [] [] (hc_delay_accesses_areCosts_1 (s.getD st1.toNat 0) hv9) [(0,.sl (.int .i64) s),(1,.fn (.func 123) [] []),(5,.int .i64 st1),(7,.int .i64 (s.length:Int)),(8,.int .i64 st1),(16,.bool v0)] [] ?_
    refine zB [(0,.sl (.int .i64) s),(1,.fn (.func 123) [] []),(5,.int .i64 st1),(7,.int .i64 (s.length:Int)),(8,.int .i64 st1),(16,.bool v0)] [] ?_
    refine zQ h (fun hb10 h=>?_) (fun hb10 h=>?_)
    ·refine zo ?_
     refine zB [(4,.int .i64 st1)] [] ?_
     refine AW.ret ?_
     refine ablock_r ?_
     refine athen_r ?_
     obtain rfl:=Option.some.inj h
     rw [← hd3 _ rfl] at ho2
     have h:=ho2
     try simp only at h
     refine athen_r ?_
     refine ablock_r ?_
     refine athen_r ?_
     obtain rfl:=Option.some.inj h
     exact zR [] [] []
    ·refine zm ?_
     refine athen_n ?_
     refine AW.ops ?_
     obtain ⟨c11,h⟩:=ck_some.1 h
     refine zA [(0,.sl (.int .i64) s),(1,.fn (.func 123) [] []),(7,.int .i64 (s.length:Int)),(8,.int .i64 (st1+1))] [] ?_
     obtain rfl:=Option.some.inj h
     exact ⟨_,rfl,zL [] [] []⟩
   ·refine AW.exit ?_
    refine athen_e ?_
    obtain rfl:=Option.some.inj h
    try rw [← hd3 _ rfl] at ho2
    have h:=ho2
    try simp only at h
    refine athen_e ?_
    refine ablock_s ?_
    refine athen_n ?_
    exact AW.weaken (zL [] [] []) (hk_slices_IndexFunc_10_k1 () h)
theorem hc_slices_ContainsFunc_7 (s:List Int) {r:Bool} (h:slices_ContainsFunc_7 s=some r):HC Try.prog 124 [] [.sl (.int .i64) s,.fn (.func 123) [] []] [] (.bool r):=by
 unfold slices_ContainsFunc_7 at h
 refine zH Try.func124 [.tmp 4] 9 ?_
 refine zo ?_
 refine zB [(0,.sl (.int .i64) s),(1,.fn (.func 123) [] [])] [] ?_
 refine zo ?_
 refine zS 2 [(5,.sl (.int .i64) s),(6,.fn (.func 123) [] [])] [] ?_
 obtain ⟨v0,hv1,h⟩:=Option.bind_eq_some_iff.1 h
 refine zC [] [] (hc_slices_IndexFunc_10 s hv1) [(7,.int .i64 v0)] [] ?_
 refine zB [(4,.bool (decide (0≤v0)))] [] ?_
 refine AW.ret ?_
 obtain rfl:=Option.some.inj h
 exact zR [] [] []
theorem hc_delay_accesses_areCosts (x0:List (List (Int×Bool))) (costs:List (List Int)) {r:Bool} (h:delay_accesses_areCosts x0 costs=some r):HC Try.prog 87 [] [.sl (.sl (.pair (.int .i64) .bool)) x0,.sl (.sl (.int .i64)) costs] [] (.bool r):=by
 unfold delay_accesses_areCosts at h
 refine zH Try.func87 [.tmp 4] 39 ?_
 refine zo ?_
 refine zB [(0,.sl (.sl (.pair (.int .i64) .bool)) x0),(1,.sl (.sl (.int .i64)) costs)] [] ?_
 refine zo ?_
 refine zB [(0,.sl (.sl (.pair (.int .i64) .bool)) x0),(1,.sl (.sl (.int .i64)) costs),(5,.fn (.func 123) [] [])] [] ?_
 refine AW.seq ?_
 refine zo ?_
 refine zB [(0,.sl (.sl (.pair (.int .i64) .bool)) x0),(1,.sl (.sl (.int .i64)) costs),(5,.fn (.func 123) [] []),(12,.bool (!(decide ((costs.length:Int)=(x0.length:Int)))))] [] ?_
 refine zQ h (fun hb1 h=>?_) (fun hb1 h=>?_)
 ·refine zo ?_
  refine zB [(4,.bool false)] [] ?_
  refine zr ?_
  obtain rfl:=Option.some.inj h
  exact zR [] [] []
 ·refine zk ?_
  refine AW.have1 (fun _:Unit=>delay_accesses_areCosts_k1=some r) (fun _=>⟨fr [],hpGet [],gt⟩) (fun _ h=>?_) (fun hk_delay_accesses_areCosts_k1=>?_)
  ·as_aux_lemma =>
    unfold delay_accesses_areCosts_k1 at h
    refine zo ?_
    refine zB [(4,.bool true)] [] ?_
    refine AW.ret ?_
    obtain rfl:=Option.some.inj h
    exact zR [] [] []
  ·refine AW.seq ?_
   refine zo ?_
   refine zB [(1,.sl (.sl (.int .i64)) costs),(5,.fn (.func 123) [] []),(13,.sl (.sl (.pair (.int .i64) .bool)) x0),(14,.int .i64 (x0.length:Int)),(15,.int .i64 0)] [] ?_
   refine AW.block ?_
   obtain ⟨rv6,hw2,ho3⟩:=Option.bind_eq_some_iff.1 h
   refine AW.loopO (delay_accesses_areCosts_b1 x0 costs) (fun st1=>⟨fr [(1,.sl (.sl (.int .i64)) costs),(5,.fn (.func 123) [] []),(13,.sl (.sl (.pair (.int .i64) .bool)) x0),(14,.int .i64 (x0.length:Int)),(15,.int .i64 st1)],hpGet [],gt⟩) 0 hw2 (zL [] [] []) ?_
   as_aux_lemma =>
    intro st1 x5 h hd4
    unfold delay_accesses_areCosts_b1 at h
    refine zo ?_
    refine zB [(1,.sl (.sl (.int .i64)) costs),(5,.fn (.func 123) [] []),(13,.sl (.sl (.pair (.int .i64) .bool)) x0),(14,.int .i64 (x0.length:Int)),(15,.int .i64 st1),(16,.bool (decide (st1<(x0.length:Int))))] [] ?_
    refine AW.seq ?_
    refine zQ h (fun hb7 h=>?_) (fun hb7 h=>?_)
    ·refine zk ?_
     refine AW.seq ?_
     refine AW.block ?_
     refine zo ?_
     obtain ⟨c8,h⟩:=ck_some.1 h
     obtain ⟨c9,h⟩:=ck_some.1 h
     refine zB [(1,.sl (.sl (.int .i64)) costs),(5,.fn (.func 123) [] []),(6,.int .i64 st1),(7,.sl (.pair (.int .i64) .bool) (x0.getD st1.toNat [])),(13,.sl (.sl (.pair (.int .i64) .bool)) x0),(14,.int .i64 (x0.length:Int)),(15,.int .i64 st1)] [] ?_
     refine zo ?_
     obtain ⟨c10,h⟩:=ck_some.1 h
     obtain ⟨c11,h⟩:=ck_some.1 h
     refine zS 5 [(1,.sl (.sl (.int .i64)) costs),(5,.fn (.func 123) [] []),(6,.int .i64 st1),(7,.sl (.pair (.int .i64) .bool) (x0.getD st1.toNat [])),(13,.sl (.sl (.pair (.int .i64) .bool)) x0),(14,.int .i64 (x0.length:Int)),(15,.int .i64 st1),(24,.int .i64 ((costs.getD st1.toNat []).length:Int))] [] ?_
     obtain ⟨c12,h⟩:=ck_some.1 h
     refine zS 5 [(1,.sl (.sl (.int .i64)) costs),(5,.fn (.func 123) [] []),(6,.int .i64 st1),(13,.sl (.sl (.pair (.int .i64) .bool)) x0),(14,.int .i64 (x0.length:Int)),(15,.int .i64 st1),(29,.bool (!(decide (((costs.getD st1.toNat []).length:Int)=(max 0 (((x0.getD st1.toNat []).length:Int) - 1))))))] [] ?_
     refine zS 1 [(1,.sl (.sl (.int .i64)) costs),(5,.fn (.func 123) [] []),(6,.int .i64 st1),(13,.sl (.sl (.pair (.int .i64) .bool)) x0),(14,.int .i64 (x0.length:Int)),(15,.int .i64 st1),(30,.bool (!(decide (((costs.getD st1.toNat []).length:Int)=(max 0 (((x0.getD st1.toNat []).length:Int) - 1))))))] [] ?_
     rcases zI h with ⟨hb13,h⟩|⟨hb13,h⟩
     ·refine zS 4 [(1,.sl (.sl (.int .i64)) costs),(5,.fn (.func 123) [] []),(13,.sl (.sl (.pair (.int .i64) .bool)) x0),(14,.int .i64 (x0.length:Int)),(15,.int .i64 st1),(30,.bool true),(34,.cv (undef))] [] ?_
      refine zB [(1,.sl (.sl (.int .i64)) costs),(5,.fn (.func 123) [] []),(13,.sl (.sl (.pair (.int .i64) .bool)) x0),(14,.int .i64 (x0.length:Int)),(15,.int .i64 st1),(37,.bool true)] [] ?_
      refine AW.cond (b:=true) rfl (fun _=>?_) (fun hb14=>by cases hb14)
      refine zo ?_
      refine zB [(4,.bool false)] [] ?_
      refine AW.ret ?_
      refine ablock_r ?_
      refine athen_r ?_
      obtain rfl:=Option.some.inj h
      try rw [← hd4 _ rfl] at ho3
      have h:=ho3
      try simp only at h
      refine athen_r ?_
      refine ablock_r ?_
      refine athen_r ?_
      obtain rfl:=Option.some.inj h
      exact zR [] [] []
     ·obtain ⟨c15,h⟩:=ck_some.1 h
      obtain ⟨c16,h⟩:=ck_some.1 h
      refine zS 5 [(1,.sl (.sl (.int .i64)) costs),(5,.fn (.func 123) [] []),(13,.sl (.sl (.pair (.int .i64) .bool)) x0),(14,.int .i64 (x0.length:Int)),(15,.int .i64 st1),(30,.bool false),(34,.sl (.int .i64) (costs.getD st1.toNat [])),(35,.fn (.func 123) [] [])] [] ?_
      obtain ⟨v0,hv17,h⟩:=Option.bind_eq_some_iff.1 h
      refine zG [] [] (hc_slices_ContainsFunc_7 (costs.getD st1.toNat []) hv17) [(1,.sl (.sl (.int .i64)) costs),(5,.fn (.func 123) [] []),(13,.sl (.sl (.pair (.int .i64) .bool)) x0),(14,.int .i64 (x0.length:Int)),(15,.int .i64 st1),(30,.bool false),(36,.bool v0)] [] ?_
      refine zB [(1,.sl (.sl (.int .i64)) costs),(5,.fn (.func 123) [] []),(13,.sl (.sl (.pair (.int .i64) .bool)) x0),(14,.int .i64 (x0.length:Int)),(15,.int .i64 st1),(37,.bool v0)] [] ?_
      refine zQ h (fun hb18 h=>?_) (fun hb18 h=>?_)
      ·refine zo ?_
       refine zB [(4,.bool false)] [] ?_
       refine AW.ret ?_
       refine ablock_r ?_
       refine athen_r ?_
       obtain rfl:=Option.some.inj h
       try rw [← hd4 _ rfl] at ho3
       have h:=ho3
       try simp only at h
       refine athen_r ?_
       refine ablock_r ?_
       refine athen_r ?_
       obtain rfl:=Option.some.inj h
       exact zR [] [] []
      ·refine zm ?_
       refine athen_n ?_
       refine AW.ops ?_
       obtain ⟨c19,h⟩:=ck_some.1 h
       refine zA [(1,.sl (.sl (.int .i64)) costs),(5,.fn (.func 123) [] []),(13,.sl (.sl (.pair (.int .i64) .bool)) x0),(14,.int .i64 (x0.length:Int)),(15,.int .i64 (st1+1))] [] ?_
       obtain rfl:=Option.some.inj h
       exact ⟨_,rfl,zL [] [] []⟩
    ·refine AW.exit ?_
     refine athen_e ?_
     obtain rfl:=Option.some.inj h
     try rw [← hd4 _ rfl] at ho3
     have h:=ho3
     try simp only at h
     refine athen_e ?_
     refine ablock_s ?_
     refine athen_n ?_
     exact AW.weaken (zL [] [] []) (hk_delay_accesses_areCosts_k1 () h)
theorem hc_delay_costOf (fences:List (Int×Int)) (costs:List (List Int)) {r:Int} (h:delay_costOf fences costs=some r):HC Try.prog 88 [] [.sl (.pair (.int .i64) (.int .i64)) fences,.sl (.sl (.int .i64)) costs] [] (.int .i64 r):=by
 unfold delay_costOf at h
 refine zH Try.func88 [.tmp 4] 27 ?_
 refine zo ?_
 refine zB [(0,.sl (.pair (.int .i64) (.int .i64)) fences),(1,.sl (.sl (.int .i64)) costs)] [] ?_
 refine zo ?_
 refine zB [(0,.sl (.pair (.int .i64) (.int .i64)) fences),(1,.sl (.sl (.int .i64)) costs),(5,.int .i64 0)] [] ?_
 refine AW.have1 (fun b1:Int=>delay_costOf_k1 b1=some r) (fun b1=>⟨fr [(5,.int .i64 b1)],hpGet [],gt⟩) (fun b1 h=>?_) (fun hk_delay_costOf_k1=>?_)
 ·as_aux_lemma =>
   unfold delay_costOf_k1 at h
   refine zo ?_
   refine zB [(4,.int .i64 b1)] [] ?_
   refine AW.ret ?_
   obtain rfl:=Option.some.inj h
   exact zR [] [] []
 ·refine AW.seq ?_
  refine zo ?_
  refine zB [(1,.sl (.sl (.int .i64)) costs),(5,.int .i64 0),(8,.sl (.pair (.int .i64) (.int .i64)) fences),(9,.int .i64 (fences.length:Int)),(10,.int .i64 0)] [] ?_
  refine AW.block ?_
  obtain ⟨rv5,hw1,ho2⟩:=Option.bind_eq_some_iff.1 h
  refine AW.loopO (delay_costOf_b1 fences costs) (fun st1=>⟨fr [(1,.sl (.sl (.int .i64)) costs),(5,.int .i64 st1.1),(8,.sl (.pair (.int .i64) (.int .i64)) fences),(9,.int .i64 (fences.length:Int)),(10,.int .i64 st1.2)],hpGet [],gt⟩) (0,0) hw1 (zL [] [] []) ?_
  as_aux_lemma =>
   intro st1 x4 h hd3
   unfold delay_costOf_b1 at h
   refine zo ?_
   refine zB [(1,.sl (.sl (.int .i64)) costs),(5,.int .i64 st1.1),(8,.sl (.pair (.int .i64) (.int .i64)) fences),(9,.int .i64 (fences.length:Int)),(10,.int .i64 st1.2),(11,.bool (decide (st1.2<(fences.length:Int))))] [] ?_
   refine AW.seq ?_
   refine zQ h (fun hb6 h=>?_) (fun hb6 h=>?_)
   ·refine zk ?_
    refine AW.seq ?_
    refine AW.block ?_
    refine zo ?_
    obtain ⟨c7,h⟩:=ck_some.1 h
    obtain ⟨c8,h⟩:=ck_some.1 h
    refine zB [(1,.sl (.sl (.int .i64)) costs),(5,.int .i64 st1.1),(7,.bp 7 0),(8,.sl (.pair (.int .i64) (.int .i64)) fences),(9,.int .i64 (fences.length:Int)),(10,.int .i64 st1.2)] [(7,.box 110 [.int .i64 (fences.getD st1.2.toNat (0,0)).1,.int .i64 (fences.getD st1.2.toNat (0,0)).2])] ?_
    refine AW.draw tab_ok mixed_ok [] [] (by decide) (lex_fast (by kernel_rfl)) ?_
    as_aux_lemma =>
     obtain ⟨c10,h⟩:=ck_some.1 h
     obtain ⟨c11,h⟩:=ck_some.1 h
     refine adops_cut 6 (fun K' hK9=>?_)
     try dsimp only [List.drop_succ_cons,List.drop_zero,List.take_succ_cons,List.take_zero]
     simp only [go_sem,hb6]
     repeat with_reducible refine zN ?_
     refine hK9 _ ?_
     as_aux_lemma =>
      obtain ⟨c13,h⟩:=ck_some.1 h
      obtain ⟨c14,h⟩:=ck_some.1 h
      obtain ⟨c15,h⟩:=ck_some.1 h
      refine adops_cut 6 (fun K' hK12=>?_)
      try dsimp only [List.drop_succ_cons,List.drop_zero,List.take_succ_cons,List.take_zero]
      simp only [go_sem,hb6]
      repeat with_reducible refine zN ?_
      refine hK12 _ ?_
      refine adops_nil ?_
      refine ablock_n ?_
      refine athen_n ?_
      refine zV [(1,.sl (.sl (.int .i64)) costs),(5,.int .i64 (st1.1+((costs.getD (fences.getD st1.2.toNat (0,0)).1.toNat []).getD (fences.getD st1.2.toNat (0,0)).2.toNat 0))),(8,.sl (.pair (.int .i64) (.int .i64)) fences),(9,.int .i64 (fences.length:Int)),(10,.int .i64 st1.2)] [] gt ?_
      as_aux_lemma =>
       refine AW.ops ?_
       obtain ⟨c16,h⟩:=ck_some.1 h
       refine zA [(1,.sl (.sl (.int .i64)) costs),(5,.int .i64 (st1.1+((costs.getD (fences.getD st1.2.toNat (0,0)).1.toNat []).getD (fences.getD st1.2.toNat (0,0)).2.toNat 0))),(8,.sl (.pair (.int .i64) (.int .i64)) fences),(9,.int .i64 (fences.length:Int)),(10,.int .i64 (st1.2+1))] [] ?_
       obtain rfl:=Option.some.inj h
       exact ⟨_,rfl,zL [] [] []⟩
   ·refine AW.exit ?_
    refine athen_e ?_
    obtain rfl:=Option.some.inj h
    rw [← hd3 _ rfl] at ho2
    have h:=ho2
    refine athen_e ?_
    refine ablock_s ?_
    refine athen_n ?_
    exact AW.weaken (zL [] [] []) (hk_delay_costOf_k1 _ h)
theorem hc_linealref09_AreCosts (x0:List (List (Int×Bool))) (costs:List (List Int)) {r:Bool} (h:linealref09_AreCosts x0 costs=some r):HC Try.prog 58 [] [.sl (.sl (.pair (.int .i64) .bool)) x0,.sl (.sl (.int .i64)) costs] [] (.bool r):=by
 unfold linealref09_AreCosts at h
 refine zH Try.func58 [.tmp 4] 45 ?_
 refine zo ?_
 refine zB [(0,.sl (.sl (.pair (.int .i64) .bool)) x0),(1,.sl (.sl (.int .i64)) costs)] [] ?_
 refine AW.seq ?_
 refine zo ?_
 refine zB [(0,.sl (.sl (.pair (.int .i64) .bool)) x0),(1,.sl (.sl (.int .i64)) costs),(13,.bool (!(decide ((costs.length:Int)=(x0.length:Int)))))] [] ?_
 refine zQ h (fun hb1 h=>?_) (fun hb1 h=>?_)
 ·refine zo ?_
  refine zB [(4,.bool false)] [] ?_
  refine zr ?_
  obtain rfl:=Option.some.inj h
  exact zR [] [] []
 ·refine zk ?_
  refine AW.have1 (fun _:Unit=>linealref09_AreCosts_k1=some r) (fun _=>⟨fr [],hpGet [],gt⟩) (fun _ h=>?_) (fun hk_linealref09_AreCosts_k1=>?_)
  ·as_aux_lemma =>
    unfold linealref09_AreCosts_k1 at h
    refine zo ?_
    refine zB [(4,.bool true)] [] ?_
    refine AW.ret ?_
    obtain rfl:=Option.some.inj h
    exact zR [] [] []
  ·refine AW.seq ?_
   refine zo ?_
   refine zB [(0,.sl (.sl (.pair (.int .i64) .bool)) x0),(14,.sl (.sl (.int .i64)) costs),(15,.int .i64 (costs.length:Int)),(16,.int .i64 0)] [] ?_
   refine AW.block ?_
   obtain ⟨rv6,hw2,ho3⟩:=Option.bind_eq_some_iff.1 h
   refine AW.loopO (linealref09_AreCosts_b1 x0 costs) (fun st1=>⟨fr [(0,.sl (.sl (.pair (.int .i64) .bool)) x0),(14,.sl (.sl (.int .i64)) costs),(15,.int .i64 (costs.length:Int)),(16,.int .i64 st1)],hpGet [],gt⟩) 0 hw2 (zL [] [] []) ?_
   as_aux_lemma =>
    intro st1 x5 h hd4
    unfold linealref09_AreCosts_b1 at h
    refine zo ?_
    refine zB [(0,.sl (.sl (.pair (.int .i64) .bool)) x0),(14,.sl (.sl (.int .i64)) costs),(15,.int .i64 (costs.length:Int)),(16,.int .i64 st1),(17,.bool (decide (st1<(costs.length:Int))))] [] ?_
    refine AW.seq ?_
    refine zQ h (fun hb7 h=>?_) (fun hb7 h=>?_)
    ·refine zk ?_
     refine AW.have1 (fun _:Unit=>linealref09_AreCosts_k2 st1=some x5) (fun _=>⟨fr [(0,.sl (.sl (.pair (.int .i64) .bool)) x0),(14,.sl (.sl (.int .i64)) costs),(15,.int .i64 (costs.length:Int)),(16,.int .i64 st1)],hpGet [],gt⟩) (fun _ h=>?_) (fun hk_linealref09_AreCosts_k2=>?_)
     ·as_aux_lemma =>
       unfold linealref09_AreCosts_k2 at h
       refine AW.ops ?_
       obtain ⟨c8,h⟩:=ck_some.1 h
       refine zA [(0,.sl (.sl (.pair (.int .i64) .bool)) x0),(14,.sl (.sl (.int .i64)) costs),(15,.int .i64 (costs.length:Int)),(16,.int .i64 (st1+1))] [] ?_
       obtain rfl:=Option.some.inj h
       exact ⟨_,rfl,zL [] [] []⟩
     ·refine AW.seq ?_
      refine AW.block ?_
      refine zo ?_
      obtain ⟨c9,h⟩:=ck_some.1 h
      obtain ⟨c10,h⟩:=ck_some.1 h
      refine zB [(0,.sl (.sl (.pair (.int .i64) .bool)) x0),(5,.int .i64 st1),(6,.sl (.int .i64) (costs.getD st1.toNat [])),(14,.sl (.sl (.int .i64)) costs),(15,.int .i64 (costs.length:Int)),(16,.int .i64 st1)] [] ?_
      refine AW.seq ?_
      refine zo ?_
      obtain ⟨c11,h⟩:=ck_some.1 h
      obtain ⟨c12,h⟩:=ck_some.1 h
      refine zS 5 [(0,.sl (.sl (.pair (.int .i64) .bool)) x0),(6,.sl (.int .i64) (costs.getD st1.toNat [])),(14,.sl (.sl (.int .i64)) costs),(15,.int .i64 (costs.length:Int)),(16,.int .i64 st1),(22,.int .i64 ((costs.getD st1.toNat []).length:Int)),(25,.dp (.sl (.pair (.int .i64) .bool)) (x0.getD st1.toNat []) 0)] [] ?_
      obtain ⟨c13,h⟩:=ck_some.1 h
      refine zB [(0,.sl (.sl (.pair (.int .i64) .bool)) x0),(6,.sl (.int .i64) (costs.getD st1.toNat [])),(14,.sl (.sl (.int .i64)) costs),(15,.int .i64 (costs.length:Int)),(16,.int .i64 st1),(30,.bool (!(decide (((costs.getD st1.toNat []).length:Int)=(max (((x0.getD st1.toNat []).length:Int) - 1) 0)))))] [] ?_
      refine zQ h (fun hb14 h=>?_) (fun hb14 h=>?_)
      ·refine zo ?_
       refine zB [(4,.bool false)] [] ?_
       refine zr ?_
       refine ablock_r ?_
       refine athen_r ?_
       obtain rfl:=Option.some.inj h
       try rw [← hd4 _ rfl] at ho3
       have h:=ho3
       try simp only at h
       refine athen_r ?_
       refine ablock_r ?_
       refine athen_r ?_
       obtain rfl:=Option.some.inj h
       exact zR [] [] []
      ·refine zk ?_
       refine zo ?_
       refine zB [(0,.sl (.sl (.pair (.int .i64) .bool)) x0),(14,.sl (.sl (.int .i64)) costs),(15,.int .i64 (costs.length:Int)),(16,.int .i64 st1),(31,.sl (.int .i64) (costs.getD st1.toNat [])),(32,.int .i64 ((costs.getD st1.toNat []).length:Int)),(33,.int .i64 0)] [] ?_
       refine AW.block ?_
       obtain ⟨rv19,hw15,ho16⟩:=Option.bind_eq_some_iff.1 h
       refine AW.loopO (linealref09_AreCosts_b2 costs st1) (fun st2=>⟨fr [(0,.sl (.sl (.pair (.int .i64) .bool)) x0),(14,.sl (.sl (.int .i64)) costs),(15,.int .i64 (costs.length:Int)),(16,.int .i64 st1),(31,.sl (.int .i64) (costs.getD st1.toNat [])),(32,.int .i64 ((costs.getD st1.toNat []).length:Int)),(33,.int .i64 st2)],hpGet [],gt⟩) 0 hw15 (zL [] [] []) ?_
       as_aux_lemma =>
        intro st2 x18 h hd17
        unfold linealref09_AreCosts_b2 at h
        refine zo ?_
        refine zB [(0,.sl (.sl (.pair (.int .i64) .bool)) x0),(14,.sl (.sl (.int .i64)) costs),(15,.int .i64 (costs.length:Int)),(16,.int .i64 st1),(31,.sl (.int .i64) (costs.getD st1.toNat [])),(32,.int .i64 ((costs.getD st1.toNat []).length:Int)),(33,.int .i64 st2),(34,.bool (decide (st2<((costs.getD st1.toNat []).length:Int))))] [] ?_
        refine AW.seq ?_
        refine zQ h (fun hb20 h=>?_) (fun hb20 h=>?_)
        ·refine zk ?_
         refine AW.seq ?_
         refine AW.block ?_
         refine zo ?_
         obtain ⟨c21,h⟩:=ck_some.1 h
         obtain ⟨c22,h⟩:=ck_some.1 h
         refine zB [(0,.sl (.sl (.pair (.int .i64) .bool)) x0),(8,.int .i64 ((costs.getD st1.toNat []).getD st2.toNat 0)),(14,.sl (.sl (.int .i64)) costs),(15,.int .i64 (costs.length:Int)),(16,.int .i64 st1),(31,.sl (.int .i64) (costs.getD st1.toNat [])),(32,.int .i64 ((costs.getD st1.toNat []).length:Int)),(33,.int .i64 st2)] [] ?_
         refine zo ?_
         refine zS 3 [(0,.sl (.sl (.pair (.int .i64) .bool)) x0),(8,.int .i64 ((costs.getD st1.toNat []).getD st2.toNat 0)),(14,.sl (.sl (.int .i64)) costs),(15,.int .i64 (costs.length:Int)),(16,.int .i64 st1),(31,.sl (.int .i64) (costs.getD st1.toNat [])),(32,.int .i64 ((costs.getD st1.toNat []).length:Int)),(33,.int .i64 st2),(39,.bool (decide (((costs.getD st1.toNat []).getD st2.toNat 0)<1)))] [] ?_
         rcases zI h with ⟨hb23,h⟩|⟨hb23,h⟩
         ·refine zB [(0,.sl (.sl (.pair (.int .i64) .bool)) x0),(14,.sl (.sl (.int .i64)) costs),(15,.int .i64 (costs.length:Int)),(16,.int .i64 st1),(31,.sl (.int .i64) (costs.getD st1.toNat [])),(32,.int .i64 ((costs.getD st1.toNat []).length:Int)),(33,.int .i64 st2),(42,.bool true)] [] ?_
          refine AW.cond (b:=true) rfl (fun _=>?_) (fun hb24=>by cases hb24)
          refine zo ?_
          refine zB [(4,.bool false)] [] ?_
          refine AW.ret ?_
          refine ablock_r ?_
          refine athen_r ?_
          obtain rfl:=Option.some.inj h
          try rw [← hd17 _ rfl] at ho16
          have h:=ho16
          try simp only at h
          refine athen_r ?_
          refine ablock_r ?_
          refine ablock_r ?_
          refine athen_r ?_
          obtain rfl:=Option.some.inj h
          try rw [← hd4 _ rfl] at ho3
          have h:=ho3
          try simp only at h
          refine athen_r ?_
          refine ablock_r ?_
          refine athen_r ?_
          obtain rfl:=Option.some.inj h
          exact zR [] [] []
         ·refine zB [(0,.sl (.sl (.pair (.int .i64) .bool)) x0),(14,.sl (.sl (.int .i64)) costs),(15,.int .i64 (costs.length:Int)),(16,.int .i64 st1),(31,.sl (.int .i64) (costs.getD st1.toNat [])),(32,.int .i64 ((costs.getD st1.toNat []).length:Int)),(33,.int .i64 st2),(42,.bool (decide (9<((costs.getD st1.toNat []).getD st2.toNat 0))))] [] ?_
          refine zQ h (fun hb25 h=>?_) (fun hb25 h=>?_)
          ·refine zo ?_
           refine zB [(4,.bool false)] [] ?_
           refine AW.ret ?_
           refine ablock_r ?_
           refine athen_r ?_
           obtain rfl:=Option.some.inj h
           try rw [← hd17 _ rfl] at ho16
           have h:=ho16
           try simp only at h
           refine athen_r ?_
           refine ablock_r ?_
           refine ablock_r ?_
           refine athen_r ?_
           obtain rfl:=Option.some.inj h
           try rw [← hd4 _ rfl] at ho3
           have h:=ho3
           try simp only at h
           refine athen_r ?_
           refine ablock_r ?_
           refine athen_r ?_
           obtain rfl:=Option.some.inj h
           exact zR [] [] []
          ·refine zm ?_
           refine athen_n ?_
           refine AW.ops ?_
           obtain ⟨c26,h⟩:=ck_some.1 h
           refine zA [(0,.sl (.sl (.pair (.int .i64) .bool)) x0),(14,.sl (.sl (.int .i64)) costs),(15,.int .i64 (costs.length:Int)),(16,.int .i64 st1),(31,.sl (.int .i64) (costs.getD st1.toNat [])),(32,.int .i64 ((costs.getD st1.toNat []).length:Int)),(33,.int .i64 (st2+1))] [] ?_
           obtain rfl:=Option.some.inj h
           exact ⟨_,rfl,zL [] [] []⟩
        ·refine AW.exit ?_
         refine athen_e ?_
         obtain rfl:=Option.some.inj h
         try rw [← hd17 _ rfl] at ho16
         have h:=ho16
         try simp only at h
         refine athen_e ?_
         refine ablock_s ?_
         refine ablock_n ?_
         refine athen_n ?_
         exact AW.weaken (zL [] [] []) (hk_linealref09_AreCosts_k2 () h)
    ·refine AW.exit ?_
     refine athen_e ?_
     obtain rfl:=Option.some.inj h
     try rw [← hd4 _ rfl] at ho3
     have h:=ho3
     try simp only at h
     refine athen_e ?_
     refine ablock_s ?_
     refine athen_n ?_
     exact AW.weaken (zL [] [] []) (hk_linealref09_AreCosts_k1 () h)
end Go.Proofs.Ytdicomoggfhbfaa
