import Derived.Test.YtdicomoggfhbfaaDlp
import Derived.Test.YtdicomoggfhbfaaShd
import Derived.Test.YtdicomoggfhbfaaAvd
namespace Go.Proofs.Ytdicomoggfhbfaa
open Go.RowKit
set_option linter.unusedSimpArgs false
set_option linter.unusedVariables false
set_option linter.constructorNameAsVariable false
set_option maxRecDepth 100000
set_option maxHeartbeats 40000000
theorem hc_lineallaw09_Long (x0:List (List (Int×Bool))) {r:Bool} (h:lineallaw09_Long x0=some r):HC Try.prog 13 [] [.sl (.sl (.pair (.int .i64) .bool)) x0] [] (.bool r):=by
 unfold lineallaw09_Long at h
 refine zH Try.func13 [.tmp 2] 18 ?_
 refine zo ?_
 refine zB [(0,.sl (.sl (.pair (.int .i64) .bool)) x0)] [] ?_
 refine AW.have1 (fun _:Unit=>lineallaw09_Long_k1 x0=some r) (fun _=>⟨fr [(0,.sl (.sl (.pair (.int .i64) .bool)) x0)],hpGet [],gt⟩) (fun _ h=>?_) (fun hk_lineallaw09_Long_k1=>?_)
 ·as_aux_lemma =>
   unfold lineallaw09_Long_k1 at h
   refine zo ?_
   refine zB [(2,.bool (decide (20<(x0.length:Int))))] [] ?_
   refine AW.ret ?_
   obtain rfl:=Option.some.inj h
   exact zR [] [] []
 ·refine AW.seq ?_
  refine zo ?_
  refine zB [(0,.sl (.sl (.pair (.int .i64) .bool)) x0),(5,.sl (.sl (.pair (.int .i64) .bool)) x0),(6,.int .i64 (x0.length:Int)),(7,.int .i64 0)] [] ?_
  refine AW.block ?_
  obtain ⟨rv5,hw1,ho2⟩:=Option.bind_eq_some_iff.1 h
  refine AW.loopO (lineallaw09_Long_b1 x0) (fun st1=>⟨fr [(0,.sl (.sl (.pair (.int .i64) .bool)) x0),(5,.sl (.sl (.pair (.int .i64) .bool)) x0),(6,.int .i64 (x0.length:Int)),(7,.int .i64 st1)],hpGet [],gt⟩) 0 hw1 (zL [] [] []) ?_
  as_aux_lemma =>
   intro st1 x4 h hd3
   unfold lineallaw09_Long_b1 at h
   refine zo ?_
   refine zB [(0,.sl (.sl (.pair (.int .i64) .bool)) x0),(5,.sl (.sl (.pair (.int .i64) .bool)) x0),(6,.int .i64 (x0.length:Int)),(7,.int .i64 st1),(8,.bool (decide (st1<(x0.length:Int))))] [] ?_
   refine AW.seq ?_
   refine zQ h (fun hb6 h=>?_) (fun hb6 h=>?_)
   ·refine zk ?_
    refine AW.seq ?_
    refine AW.block ?_
    refine zo ?_
    obtain ⟨c7,h⟩:=ck_some.1 h
    obtain ⟨c8,h⟩:=ck_some.1 h
    refine zB [(0,.sl (.sl (.pair (.int .i64) .bool)) x0),(4,.sl (.pair (.int .i64) .bool) (x0.getD st1.toNat [])),(5,.sl (.sl (.pair (.int .i64) .bool)) x0),(6,.int .i64 (x0.length:Int)),(7,.int .i64 st1)] [] ?_
    refine zo ?_
    refine zB [(0,.sl (.sl (.pair (.int .i64) .bool)) x0),(5,.sl (.sl (.pair (.int .i64) .bool)) x0),(6,.int .i64 (x0.length:Int)),(7,.int .i64 st1),(13,.bool (decide (20<((x0.getD st1.toNat []).length:Int))))] [] ?_
    refine zQ h (fun hb9 h=>?_) (fun hb9 h=>?_)
    ·refine zo ?_
     refine zB [(2,.bool true)] [] ?_
     refine AW.ret ?_
     refine ablock_r ?_
     refine athen_r ?_
     obtain rfl:=Option.some.inj h
     try rw [← hd3 _ rfl] at ho2
     have h:=ho2
     try simp only at h
     refine athen_r ?_
     refine ablock_r ?_
     refine athen_r ?_
     obtain rfl:=Option.some.inj h
     exact zR [] [] []
    ·refine zm ?_
     refine athen_n ?_
     refine AW.ops ?_
     obtain ⟨c10,h⟩:=ck_some.1 h
     refine zA [(0,.sl (.sl (.pair (.int .i64) .bool)) x0),(5,.sl (.sl (.pair (.int .i64) .bool)) x0),(6,.int .i64 (x0.length:Int)),(7,.int .i64 (st1+1))] [] ?_
     obtain rfl:=Option.some.inj h
     exact ⟨_,rfl,zL [] [] []⟩
   ·refine AW.exit ?_
    refine athen_e ?_
    obtain rfl:=Option.some.inj h
    try rw [← hd3 _ rfl] at ho2
    have h:=ho2
    try simp only at h
    refine athen_e ?_
    refine ablock_s ?_
    refine athen_n ?_
    exact AW.weaken (zL [] [] []) (hk_lineallaw09_Long_k1 () h)
theorem hc_delay_isBelow (number:Int) (end0:Int) {r:Bool} (h:delay_isBelow number end0=some r):HC Try.prog 96 [] [.int .i64 number,.int .i64 end0] [] (.bool r):=by
 unfold delay_isBelow at h
 refine zH Try.func96 [.tmp 4] 12 ?_
 refine zo ?_
 refine zB [(0,.int .i64 number),(1,.int .i64 end0)] [] ?_
 refine zo ?_
 refine zS 3 [(0,.int .i64 number),(1,.int .i64 end0),(7,.bool (decide (0≤number)))] [] ?_
 rcases zI h with ⟨hb1,h⟩|⟨hb1,h⟩
 ·refine zB [(4,.bool (decide (number<end0)))] [] ?_
  refine AW.ret ?_
  obtain rfl:=Option.some.inj h
  exact zR [] [] []
 ·refine zB [(4,.bool false)] [] ?_
  refine AW.ret ?_
  obtain rfl:=Option.some.inj h
  exact zR [] [] []
theorem hc_delay_isAccess (a:Int×Bool) {r:Bool} (h:delay_isAccess a=some r):HC Try.prog 106 [] [.agg [.int .i64 a.1,.bool a.2]] [] (.bool r):=by
 unfold delay_isAccess at h
 refine zH Try.func106 [.tmp 2] 6 ?_
 refine zo ?_
 refine zB [(1,.bp 1 0)] [(1,.box 76 [.int .i64 a.1,.bool a.2])] ?_
 refine zo ?_
 refine zS 2 [(4,.int .i64 a.1)] [] ?_
 obtain ⟨v0,hv1,h⟩:=Option.bind_eq_some_iff.1 h
 refine zC [] [] (hc_delay_isBelow a.1 3 hv1) [(5,.bool v0)] [] ?_
 refine zB [(2,.bool v0)] [] ?_
 refine AW.ret ?_
 obtain rfl:=Option.some.inj h
 exact zR [] [] []
theorem hc_delay_isThread_1 (a:Int×Bool) {r:Bool} (h:delay_isThread_1 a=some r):HC Try.prog 105 [] [.agg [.int .i64 a.1,.bool a.2]] [] (.bool r):=by
 unfold delay_isThread_1 at h
 refine zH Try.func105 [.tmp 2] 6 ?_
 refine zo ?_
 refine zB [(1,.bp 1 0)] [(1,.box 76 [.int .i64 a.1,.bool a.2])] ?_
 refine zo ?_
 refine zS 1 [(3,.agg [.int .i64 a.1,.bool a.2])] [] ?_
 obtain ⟨v0,hv1,h⟩:=Option.bind_eq_some_iff.1 h
 refine zC [] [] (hc_delay_isAccess a hv1) [(4,.bool v0)] [] ?_
 refine zB [(2,.bool (!v0))] [] ?_
 refine AW.ret ?_
 obtain rfl:=Option.some.inj h
 exact zR [] [] []
theorem hc_slices_IndexFunc_2 (s:List (Int×Bool)) {r:Int} (h:slices_IndexFunc_2 s=some r):HC Try.prog 140 [] [.sl (.pair (.int .i64) .bool) s,.fn (.func 105) [] []] [] (.int .i64 r):=by
 unfold slices_IndexFunc_2 at h
 refine zH Try.func140 [.tmp 4] 19 ?_
 refine zo ?_
 refine zB [(0,.sl (.pair (.int .i64) .bool) s),(1,.fn (.func 105) [] [])] [] ?_
 refine AW.have1 (fun _:Unit=>slices_IndexFunc_2_k1=some r) (fun _=>⟨fr [],hpGet [],gt⟩) (fun _ h=>?_) (fun hk_slices_IndexFunc_2_k1=>?_)
 ·as_aux_lemma =>
   unfold slices_IndexFunc_2_k1 at h
   refine zo ?_
   refine zB [(4,.int .i64 (-1))] [] ?_
   refine AW.ret ?_
   obtain rfl:=Option.some.inj h
   exact zR [] [] []
 ·refine AW.seq ?_
  refine zo ?_
  refine zB [(0,.sl (.pair (.int .i64) .bool) s),(1,.fn (.func 105) [] []),(7,.int .i64 (s.length:Int)),(8,.int .i64 0)] [] ?_
  refine AW.block ?_
  obtain ⟨rv5,hw1,ho2⟩:=Option.bind_eq_some_iff.1 h
  refine AW.loopO (slices_IndexFunc_2_b1 s) (fun st1=>⟨fr [(0,.sl (.pair (.int .i64) .bool) s),(1,.fn (.func 105) [] []),(7,.int .i64 (s.length:Int)),(8,.int .i64 st1)],hpGet [],gt⟩) 0 hw1 (zL [] [] []) ?_
  as_aux_lemma =>
   intro st1 x4 h hd3
   unfold slices_IndexFunc_2_b1 at h
   refine zo ?_
   refine zB [(0,.sl (.pair (.int .i64) .bool) s),(1,.fn (.func 105) [] []),(7,.int .i64 (s.length:Int)),(8,.int .i64 st1),(9,.bool (decide (st1<(s.length:Int))))] [] ?_
   refine AW.seq ?_
   refine zQ h (fun hb6 h=>?_) (fun hb6 h=>?_)
   ·refine zk ?_
    refine AW.seq ?_
    refine AW.block ?_
    refine zo ?_
    refine zB [(0,.sl (.pair (.int .i64) .bool) s),(1,.fn (.func 105) [] []),(5,.int .i64 st1),(7,.int .i64 (s.length:Int)),(8,.int .i64 st1)] [] ?_
    refine zo ?_
    obtain ⟨c7,h⟩:=ck_some.1 h
    obtain ⟨c8,h⟩:=ck_some.1 h
    refine zS 5 [(0,.sl (.pair (.int .i64) .bool) s),(1,.fn (.func 105) [] []),(5,.int .i64 st1),(7,.int .i64 (s.length:Int)),(8,.int .i64 st1),(11,.fn (.func 105) [] []),(15,.agg [.int .i64 (s.getD st1.toNat (0,false)).1,.bool (s.getD st1.toNat (0,false)).2])] [] ?_
    obtain ⟨v0,hv9,h⟩:=Option.bind_eq_some_iff.1 h
    refine zC [] [] (hc_delay_isThread_1 (s.getD st1.toNat (0,false)) hv9) [(0,.sl (.pair (.int .i64) .bool) s),(1,.fn (.func 105) [] []),(5,.int .i64 st1),(7,.int .i64 (s.length:Int)),(8,.int .i64 st1),(16,.bool v0)] [] ?_
    refine zB [(0,.sl (.pair (.int .i64) .bool) s),(1,.fn (.func 105) [] []),(5,.int .i64 st1),(7,.int .i64 (s.length:Int)),(8,.int .i64 st1),(16,.bool v0)] [] ?_
    refine zQ h (fun hb10 h=>?_) (fun hb10 h=>?_)
    ·refine zo ?_
     refine zB [(4,.int .i64 st1)] [] ?_
     refine AW.ret ?_
     refine ablock_r ?_
     refine athen_r ?_
     obtain rfl:=Option.some.inj h
     rw [← hd3 _ rfl] at ho2
     have h:=ho2
     try simp only at h
     refine athen_r ?_
     refine ablock_r ?_
     refine athen_r ?_
     obtain rfl:=Option.some.inj h
     exact zR [] [] []
    ·refine zm ?_
     refine athen_n ?_
     refine AW.ops ?_
     obtain ⟨c11,h⟩:=ck_some.1 h
     refine zA [(0,.sl (.pair (.int .i64) .bool) s),(1,.fn (.func 105) [] []),(7,.int .i64 (s.length:Int)),(8,.int .i64 (st1+1))] [] ?_
     obtain rfl:=Option.some.inj h
     exact ⟨_,rfl,zL [] [] []⟩
   ·refine AW.exit ?_
    refine athen_e ?_
    obtain rfl:=Option.some.inj h
    try rw [← hd3 _ rfl] at ho2
    have h:=ho2
    try simp only at h
    refine athen_e ?_
    refine ablock_s ?_
    refine athen_n ?_
    exact AW.weaken (zL [] [] []) (hk_slices_IndexFunc_2_k1 () h)
theorem hc_slices_ContainsFunc_2 (s:List (Int×Bool)) {r:Bool} (h:slices_ContainsFunc_2 s=some r):HC Try.prog 107 [] [.sl (.pair (.int .i64) .bool) s,.fn (.func 105) [] []] [] (.bool r):=by
 unfold slices_ContainsFunc_2 at h
 refine zH Try.func107 [.tmp 4] 9 ?_
 refine zo ?_
 refine zB [(0,.sl (.pair (.int .i64) .bool) s),(1,.fn (.func 105) [] [])] [] ?_
 refine zo ?_
 refine zS 2 [(5,.sl (.pair (.int .i64) .bool) s),(6,.fn (.func 105) [] [])] [] ?_
 obtain ⟨v0,hv1,h⟩:=Option.bind_eq_some_iff.1 h
 refine zC [] [] (hc_slices_IndexFunc_2 s hv1) [(7,.int .i64 v0)] [] ?_
 refine zB [(4,.bool (decide (0≤v0)))] [] ?_
 refine AW.ret ?_
 obtain rfl:=Option.some.inj h
 exact zR [] [] []
theorem hc_delay_isThread (list:List (Int×Bool)) {r:Bool} (h:delay_isThread list=some r):HC Try.prog 67 [] [.sl (.pair (.int .i64) .bool) list] [] (.bool r):=by
 unfold delay_isThread at h
 refine zH Try.func67 [.tmp 2] 13 ?_
 refine zo ?_
 refine zB [(0,.sl (.pair (.int .i64) .bool) list)] [] ?_
 refine zo ?_
 refine zB [(0,.sl (.pair (.int .i64) .bool) list),(3,.fn (.func 105) [] [])] [] ?_
 refine zo ?_
 refine zS 4 [(0,.sl (.pair (.int .i64) .bool) list),(3,.fn (.func 105) [] []),(7,.bool (decide ((list.length:Int)≤4)))] [] ?_
 rcases zI h with ⟨hb1,h⟩|⟨hb1,h⟩
 ·refine zS 2 [(7,.bool true),(8,.sl (.pair (.int .i64) .bool) list),(9,.fn (.func 105) [] [])] [] ?_
  obtain ⟨v0,hv2,h⟩:=Option.bind_eq_some_iff.1 h
  refine zG [] [] (hc_slices_ContainsFunc_2 list hv2) [(7,.bool true),(10,.bool v0)] [] ?_
  refine zB [(2,.bool (!v0))] [] ?_
  refine AW.ret ?_
  obtain rfl:=Option.some.inj h
  exact zR [] [] []
 ·refine zS 4 [(7,.bool false),(11,.cv (undef))] [] ?_
  refine zB [(2,.bool false)] [] ?_
  refine AW.ret ?_
  obtain rfl:=Option.some.inj h
  exact zR [] [] []
theorem hc_delay_Valid_1 (list:List (Int×Bool)) {r:Bool} (h:delay_Valid_1 list=some r):HC Try.prog 66 [] [.sl (.pair (.int .i64) .bool) list] [] (.bool r):=by
 unfold delay_Valid_1 at h
 refine zH Try.func66 [.tmp 2] 6 ?_
 refine zo ?_
 refine zB [(0,.sl (.pair (.int .i64) .bool) list)] [] ?_
 refine zo ?_
 refine zS 1 [(3,.sl (.pair (.int .i64) .bool) list)] [] ?_
 obtain ⟨v0,hv1,h⟩:=Option.bind_eq_some_iff.1 h
 refine zC [] [] (hc_delay_isThread list hv1) [(4,.bool v0)] [] ?_
 refine zB [(2,.bool (!v0))] [] ?_
 refine AW.ret ?_
 obtain rfl:=Option.some.inj h
 exact zR [] [] []
theorem hc_slices_IndexFunc (s:List (List (Int×Bool))) {r:Int} (h:slices_IndexFunc s=some r):HC Try.prog 108 [] [.sl (.sl (.pair (.int .i64) .bool)) s,.fn (.func 66) [] []] [] (.int .i64 r):=by
 unfold slices_IndexFunc at h
 refine zH Try.func108 [.tmp 4] 19 ?_
 refine zo ?_
 refine zB [(0,.sl (.sl (.pair (.int .i64) .bool)) s),(1,.fn (.func 66) [] [])] [] ?_
 refine AW.have1 (fun _:Unit=>slices_IndexFunc_k1=some r) (fun _=>⟨fr [],hpGet [],gt⟩) (fun _ h=>?_) (fun hk_slices_IndexFunc_k1=>?_)
 ·as_aux_lemma =>
   unfold slices_IndexFunc_k1 at h
   refine zo ?_
   refine zB [(4,.int .i64 (-1))] [] ?_
   refine AW.ret ?_
   obtain rfl:=Option.some.inj h
   exact zR [] [] []
 ·refine AW.seq ?_
  refine zo ?_
  refine zB [(0,.sl (.sl (.pair (.int .i64) .bool)) s),(1,.fn (.func 66) [] []),(7,.int .i64 (s.length:Int)),(8,.int .i64 0)] [] ?_
  refine AW.block ?_
  obtain ⟨rv5,hw1,ho2⟩:=Option.bind_eq_some_iff.1 h
  refine AW.loopO (slices_IndexFunc_b1 s) (fun st1=>⟨fr [(0,.sl (.sl (.pair (.int .i64) .bool)) s),(1,.fn (.func 66) [] []),(7,.int .i64 (s.length:Int)),(8,.int .i64 st1)],hpGet [],gt⟩) 0 hw1 (zL [] [] []) ?_
  as_aux_lemma =>
   intro st1 x4 h hd3
   unfold slices_IndexFunc_b1 at h
   refine zo ?_
   refine zB [(0,.sl (.sl (.pair (.int .i64) .bool)) s),(1,.fn (.func 66) [] []),(7,.int .i64 (s.length:Int)),(8,.int .i64 st1),(9,.bool (decide (st1<(s.length:Int))))] [] ?_
   refine AW.seq ?_
   refine zQ h (fun hb6 h=>?_) (fun hb6 h=>?_)
   ·refine zk ?_
    refine AW.seq ?_
    refine AW.block ?_
    refine zo ?_
    refine zB [(0,.sl (.sl (.pair (.int .i64) .bool)) s),(1,.fn (.func 66) [] []),(5,.int .i64 st1),(7,.int .i64 (s.length:Int)),(8,.int .i64 st1)] [] ?_
    refine zo ?_
    obtain ⟨c7,h⟩:=ck_some.1 h
    obtain ⟨c8,h⟩:=ck_some.1 h
    refine zS 5 [(0,.sl (.sl (.pair (.int .i64) .bool)) s),(1,.fn (.func 66) [] []),(5,.int .i64 st1),(7,.int .i64 (s.length:Int)),(8,.int .i64 st1),(11,.fn (.func 66) [] []),(15,.sl (.pair (.int .i64) .bool) (s.getD st1.toNat []))] [] ?_
    obtain ⟨v0,hv9,h⟩:=Option.bind_eq_some_iff.1 h
    refine zC [] [] (hc_delay_Valid_1 (s.getD st1.toNat []) hv9) [(0,.sl (.sl (.pair (.int .i64) .bool)) s),(1,.fn (.func 66) [] []),(5,.int .i64 st1),(7,.int .i64 (s.length:Int)),(8,.int .i64 st1),(16,.bool v0)] [] ?_
    refine zB [(0,.sl (.sl (.pair (.int .i64) .bool)) s),(1,.fn (.func 66) [] []),(5,.int .i64 st1),(7,.int .i64 (s.length:Int)),(8,.int .i64 st1),(16,.bool v0)] [] ?_
    refine zQ h (fun hb10 h=>?_) (fun hb10 h=>?_)
    ·refine zo ?_
     refine zB [(4,.int .i64 st1)] [] ?_
     refine AW.ret ?_
     refine ablock_r ?_
     refine athen_r ?_
     obtain rfl:=Option.some.inj h
     rw [← hd3 _ rfl] at ho2
     have h:=ho2
     try simp only at h
     refine athen_r ?_
     refine ablock_r ?_
     refine athen_r ?_
     obtain rfl:=Option.some.inj h
     exact zR [] [] []
    ·refine zm ?_
     refine athen_n ?_
     refine AW.ops ?_
     obtain ⟨c11,h⟩:=ck_some.1 h
     refine zA [(0,.sl (.sl (.pair (.int .i64) .bool)) s),(1,.fn (.func 66) [] []),(7,.int .i64 (s.length:Int)),(8,.int .i64 (st1+1))] [] ?_
     obtain rfl:=Option.some.inj h
     exact ⟨_,rfl,zL [] [] []⟩
   ·refine AW.exit ?_
    refine athen_e ?_
    obtain rfl:=Option.some.inj h
    try rw [← hd3 _ rfl] at ho2
    have h:=ho2
    try simp only at h
    refine athen_e ?_
    refine ablock_s ?_
    refine athen_n ?_
    exact AW.weaken (zL [] [] []) (hk_slices_IndexFunc_k1 () h)
theorem hc_slices_ContainsFunc (s:List (List (Int×Bool))) {r:Bool} (h:slices_ContainsFunc s=some r):HC Try.prog 68 [] [.sl (.sl (.pair (.int .i64) .bool)) s,.fn (.func 66) [] []] [] (.bool r):=by
 unfold slices_ContainsFunc at h
 refine zH Try.func68 [.tmp 4] 9 ?_
 refine zo ?_
 refine zB [(0,.sl (.sl (.pair (.int .i64) .bool)) s),(1,.fn (.func 66) [] [])] [] ?_
 refine zo ?_
 refine zS 2 [(5,.sl (.sl (.pair (.int .i64) .bool)) s),(6,.fn (.func 66) [] [])] [] ?_
 obtain ⟨v0,hv1,h⟩:=Option.bind_eq_some_iff.1 h
 refine zC [] [] (hc_slices_IndexFunc s hv1) [(7,.int .i64 v0)] [] ?_
 refine zB [(4,.bool (decide (0≤v0)))] [] ?_
 refine AW.ret ?_
 obtain rfl:=Option.some.inj h
 exact zR [] [] []
theorem hc_delay_Valid (x0:List (List (Int×Bool))) {r:Bool} (h:delay_Valid x0=some r):HC Try.prog 17 [] [.sl (.sl (.pair (.int .i64) .bool)) x0] [] (.bool r):=by
 unfold delay_Valid at h
 refine zH Try.func17 [.tmp 2] 18 ?_
 refine zo ?_
 refine zB [(0,.sl (.sl (.pair (.int .i64) .bool)) x0)] [] ?_
 refine zo ?_
 refine zB [(0,.sl (.sl (.pair (.int .i64) .bool)) x0),(3,.fn (.func 66) [] [])] [] ?_
 refine zo ?_
 refine zS 4 [(0,.sl (.sl (.pair (.int .i64) .bool)) x0),(3,.fn (.func 66) [] []),(7,.bool (decide (1≤(x0.length:Int))))] [] ?_
 rcases zI h with ⟨hb1,h⟩|⟨hb1,h⟩
 ·refine zS 5 [(0,.sl (.sl (.pair (.int .i64) .bool)) x0),(3,.fn (.func 66) [] []),(12,.bool (decide ((x0.length:Int)≤3)))] [] ?_
  rcases zI h with ⟨hb2,h⟩|⟨hb2,h⟩
  ·refine zS 2 [(12,.bool true),(13,.sl (.sl (.pair (.int .i64) .bool)) x0),(14,.fn (.func 66) [] [])] [] ?_
   obtain ⟨v0,hv3,h⟩:=Option.bind_eq_some_iff.1 h
   refine zG [] [] (hc_slices_ContainsFunc x0 hv3) [(12,.bool true),(15,.bool v0)] [] ?_
   refine zB [(2,.bool (!v0))] [] ?_
   refine AW.ret ?_
   obtain rfl:=Option.some.inj h
   exact zR [] [] []
  ·refine zS 4 [(12,.bool false),(16,.cv (undef))] [] ?_
   refine zB [(2,.bool false)] [] ?_
   refine AW.ret ?_
   obtain rfl:=Option.some.inj h
   exact zR [] [] []
 ·refine zS 5 [(0,.sl (.sl (.pair (.int .i64) .bool)) x0),(3,.fn (.func 66) [] []),(12,.bool false)] [] ?_
  refine zS 4 [(12,.bool false),(16,.cv (undef))] [] ?_
  refine zB [(2,.bool false)] [] ?_
  refine AW.ret ?_
  obtain rfl:=Option.some.inj h
  exact zR [] [] []
theorem hc_delay_accessesOf (x0:List (List (Int×Bool))) {r:(List (List (Int×Bool)))×Int} (h:delay_accessesOf x0=some r):HC Try.prog 61 [] [.sl (.sl (.pair (.int .i64) .bool)) x0] [] (.tup [.sl (.sl (.pair (.int .i64) .bool)) r.1,.int .i64 r.2]):=by
 unfold delay_accessesOf at h
 refine zH Try.func61 [.tmp 2,.tmp 3] 8 ?_
 refine zo ?_
 refine zB [(0,.sl (.sl (.pair (.int .i64) .bool)) x0)] [] ?_
 refine AW.seq ?_
 refine zo ?_
 refine zS 1 [(0,.sl (.sl (.pair (.int .i64) .bool)) x0),(4,.sl (.sl (.pair (.int .i64) .bool)) x0)] [] ?_
 obtain ⟨v0,hv1,h⟩:=Option.bind_eq_some_iff.1 h
 refine zC [] [] (hc_delay_Valid x0 hv1) [(0,.sl (.sl (.pair (.int .i64) .bool)) x0),(5,.bool v0)] [] ?_
 refine zB [(0,.sl (.sl (.pair (.int .i64) .bool)) x0),(6,.bool (!v0))] [] ?_
 refine zQ h (fun hb2 h=>?_) (fun hb2 h=>?_)
 ·refine zo ?_
  refine zB [(2,.cv (.slice none 0 0)),(3,.int .i64 90)] [] ?_
  refine zr ?_
  obtain rfl:=Option.some.inj h
  exact zR [] [] []
 ·refine zk ?_
  refine zo ?_
  refine zB [(2,.sl (.sl (.pair (.int .i64) .bool)) x0),(3,.int .i64 0)] [] ?_
  refine AW.ret ?_
  obtain rfl:=Option.some.inj h
  exact zR [] [] []
theorem hc_delay_isOne (s:Int×Int×Int) {r:Unit} (h:delay_isOne s=some r):HC Try.prog 110 [] [.agg [.int .i64 s.1,.int .i64 s.2.1,.int .i64 s.2.2]] [] (.bool (decide (s.2.1=s.2.2))):=by
 unfold delay_isOne at h
 refine zH Try.func110 [.tmp 2] 8 ?_
 refine zo ?_
 refine zB [(1,.bp 1 0)] [(1,.box 35 [.int .i64 s.1,.int .i64 s.2.1,.int .i64 s.2.2])] ?_
 refine zo ?_
 refine zS 5 [(7,.bool (decide (s.2.1=s.2.2)))] [] ?_
 refine zB [(2,.bool (decide (s.2.1=s.2.2)))] [] ?_
 refine AW.ret ?_
 obtain rfl:=Option.some.inj h
 exact zR [] [] []
theorem hc_delay_accesses_has (x0:List (List (Int×Bool))) (t:Int) (a:Int) {r:Bool} (h:delay_accesses_has x0 t a=some r):HC Try.prog 62 [] [.sl (.sl (.pair (.int .i64) .bool)) x0,.int .i64 t,.int .i64 a] [] (.bool r):=by
 unfold delay_accesses_has at h
 refine zH Try.func62 [.tmp 6] 20 ?_
 refine zo ?_
 refine zB [(0,.sl (.sl (.pair (.int .i64) .bool)) x0),(1,.int .i64 t),(2,.int .i64 a)] [] ?_
 refine zo ?_
 refine zS 3 [(0,.sl (.sl (.pair (.int .i64) .bool)) x0),(1,.int .i64 t),(2,.int .i64 a),(7,.int .i64 t),(9,.int .i64 (x0.length:Int))] [] ?_
 obtain ⟨v0,hv1,h⟩:=Option.bind_eq_some_iff.1 h
 refine zC [] [] (hc_delay_isBelow t (x0.length:Int) hv1) [(0,.sl (.sl (.pair (.int .i64) .bool)) x0),(1,.int .i64 t),(2,.int .i64 a),(10,.bool v0)] [] ?_
 refine zS 1 [(0,.sl (.sl (.pair (.int .i64) .bool)) x0),(1,.int .i64 t),(2,.int .i64 a),(11,.bool v0)] [] ?_
 rcases zI h with ⟨hb2,h⟩|⟨hb2,h⟩
 ·obtain ⟨c3,h⟩:=ck_some.1 h
  obtain ⟨c4,h⟩:=ck_some.1 h
  refine zS 5 [(11,.bool true),(12,.int .i64 a),(16,.sl (.pair (.int .i64) .bool) (x0.getD t.toNat []))] [] ?_
  refine zS 1 [(11,.bool true),(12,.int .i64 a),(17,.int .i64 ((x0.getD t.toNat []).length:Int))] [] ?_
  obtain ⟨v0_2,hv5,h⟩:=Option.bind_eq_some_iff.1 h
  refine zG [] [] (hc_delay_isBelow a ((x0.getD t.toNat []).length:Int) hv5) [(11,.bool true),(18,.bool v0_2)] [] ?_
  refine zB [(6,.bool v0_2)] [] ?_
  refine AW.ret ?_
  obtain rfl:=Option.some.inj h
  exact zR [] [] []
 ·refine zS 4 [(11,.bool false),(12,.cv (undef)),(15,.cv (undef))] [] ?_
  refine zB [(6,.bool false)] [] ?_
  refine AW.ret ?_
  obtain rfl:=Option.some.inj h
  exact zR [] [] []
theorem hc_delay_accesses_isPair (x0:List (List (Int×Bool))) (s:Int×Int×Int) {r:Bool} (h:delay_accesses_isPair x0 s=some r):HC Try.prog 77 [] [.sl (.sl (.pair (.int .i64) .bool)) x0,.agg [.int .i64 s.1,.int .i64 s.2.1,.int .i64 s.2.2]] [] (.bool r):=by
 unfold delay_accesses_isPair at h
 refine zH Try.func77 [.tmp 4] 48 ?_
 refine zo ?_
 refine zB [(0,.sl (.sl (.pair (.int .i64) .bool)) x0),(3,.bp 3 0)] [(3,.box 35 [.int .i64 s.1,.int .i64 s.2.1,.int .i64 s.2.2])] ?_
 refine AW.seq ?_
 refine AW.draw tab_ok mixed_ok [] [] (by decide) (lex_fast (by kernel_rfl)) ?_
 as_aux_lemma =>
  refine adops_cut 6 (fun K' hK1=>?_)
  try dsimp only [List.drop_succ_cons,List.drop_zero,List.take_succ_cons,List.take_zero]
  simp only [go_sem]
  repeat with_reducible refine zN ?_
  refine hK1 _ ?_
  as_aux_lemma =>
   refine adops_cut 3 (fun K' hK2=>?_)
   try dsimp only [List.drop_succ_cons,List.drop_zero,List.take_succ_cons,List.take_zero]
   simp only [go_sem]
   repeat with_reducible refine zN ?_
   refine hK2 _ ?_
   refine adops_nil ?_
   refine athen_n ?_
   refine zV [(0,.sl (.sl (.pair (.int .i64) .bool)) x0),(5,.int .i64 s.1),(6,.int .i64 s.2.1),(7,.int .i64 s.2.2)] [] gt ?_
   as_aux_lemma =>
    refine AW.seq ?_
    refine AW.draw tab_ok mixed_ok [] [] (by decide) (lex_fast (by kernel_rfl)) ?_
    as_aux_lemma =>
     refine adops_cut 3 (fun K' hK3=>?_)
     try dsimp only [List.drop_succ_cons,List.drop_zero,List.take_succ_cons,List.take_zero]
     simp only [go_sem]
     repeat with_reducible refine zN ?_
     refine hK3 _ ?_
     as_aux_lemma =>
      obtain ⟨v0,hv4,h⟩:=Option.bind_eq_some_iff.1 h
      refine adops.call (by first|trivial|rfl) rfl rfl rfl (fun _ h=>h) [] [] (hc_delay_accesses_has x0 s.1 s.2.1 hv4) rfl (by (simp only [go_sem])<;>(with_reducible and_intros)<;>first|assumption|rfl|omega|(unfold maxLen; omega)) (by (simp only [go_sem])<;>(with_reducible and_intros)<;>first|assumption|rfl|omega|(unfold maxLen; omega)) rfl ?_
      refine adops_cut 1 (fun K' hK5=>?_)
      try dsimp only [List.drop_succ_cons,List.drop_zero,List.take_succ_cons,List.take_zero]
      simp only [go_sem]
      repeat with_reducible refine zN ?_
      refine hK5 _ ?_
      as_aux_lemma =>
       rcases zI h with ⟨hb6,h⟩|⟨hb6,h⟩
       ·simp only [hb6]
        as_aux_lemma =>
         refine adops_cut 3 (fun K' hK7=>?_)
         try dsimp only [List.drop_succ_cons,List.drop_zero,List.take_succ_cons,List.take_zero]
         simp only [go_sem,hb6]
         repeat with_reducible refine zN ?_
         refine hK7 _ ?_
         as_aux_lemma =>
          obtain ⟨v0_2,hv8,h⟩:=Option.bind_eq_some_iff.1 h
          refine adops.call (by first|trivial|rfl) rfl rfl rfl (fun _ h=>⟨fun _=>h,fun hn=>absurd rfl hn⟩) [] [] (hc_delay_accesses_has x0 s.1 s.2.2 hv8) rfl (by (simp only [go_sem,hb6])<;>(with_reducible and_intros)<;>first|assumption|rfl|omega|(unfold maxLen; omega)) (by (simp only [go_sem,hb6])<;>(with_reducible and_intros)<;>first|assumption|rfl|omega|(unfold maxLen; omega)) rfl ?_
          refine adops_cut 2 (fun K' hK9=>?_)
          try dsimp only [List.drop_succ_cons,List.drop_zero,List.take_succ_cons,List.take_zero]
          simp only [go_sem,hb6]
          repeat with_reducible refine zN ?_
          refine hK9 _ ?_
          as_aux_lemma =>
           rcases zI h with ⟨hb10,h⟩|⟨hb10,h⟩
           ·simp only [hb10]
            as_aux_lemma =>
             refine adops_cut 5 (fun K' hK11=>?_)
             try dsimp only [List.drop_succ_cons,List.drop_zero,List.take_succ_cons,List.take_zero]
             simp only [go_sem,hb6,hb10]
             repeat with_reducible refine zN ?_
             refine hK11 _ ?_
             as_aux_lemma =>
              rcases zI h with ⟨hb12,h⟩|⟨hb12,h⟩
              ·simp only [hb12]
               as_aux_lemma =>
                obtain ⟨c14,h⟩:=ck_some.1 h
                obtain ⟨c15,h⟩:=ck_some.1 h
                obtain ⟨c16,h⟩:=ck_some.1 h
                obtain ⟨c17,h⟩:=ck_some.1 h
                refine adops_cut 6 (fun K' hK13=>?_)
                try dsimp only [List.drop_succ_cons,List.drop_zero,List.take_succ_cons,List.take_zero]
                simp only [go_sem,hb6,hb10,hb12]
                repeat with_reducible refine zN ?_
                refine hK13 _ ?_
                as_aux_lemma =>
                 obtain ⟨c19,h⟩:=ck_some.1 h
                 obtain ⟨c20,h⟩:=ck_some.1 h
                 refine adops_cut 6 (fun K' hK18=>?_)
                 try dsimp only [List.drop_succ_cons,List.drop_zero,List.take_succ_cons,List.take_zero]
                 simp only [go_sem,hb6,hb10,hb12]
                 repeat with_reducible refine zN ?_
                 refine hK18 _ ?_
                 as_aux_lemma =>
                  obtain ⟨c22,h⟩:=ck_some.1 h
                  obtain ⟨c23,h⟩:=ck_some.1 h
                  refine adops_cut 6 (fun K' hK21=>?_)
                  try dsimp only [List.drop_succ_cons,List.drop_zero,List.take_succ_cons,List.take_zero]
                  simp only [go_sem,hb6,hb10,hb12]
                  repeat with_reducible refine zN ?_
                  refine hK21 _ ?_
                  as_aux_lemma =>
                   refine adops_cut 1 (fun K' hK24=>?_)
                   try dsimp only [List.drop_succ_cons,List.drop_zero,List.take_succ_cons,List.take_zero]
                   simp only [go_sem,hb6,hb10,hb12]
                   repeat with_reducible refine zN ?_
                   refine hK24 _ ?_
                   refine adops_nil ?_
                   refine athen_n ?_
                   refine zV [(4,.bool (!(decide (((x0.getD s.1.toNat []).getD s.2.1.toNat (0,false)).1=((x0.getD s.1.toNat []).getD s.2.2.toNat (0,false)).1))))] [] gt ?_
                   as_aux_lemma =>
                    refine AW.ret ?_
                    obtain rfl:=Option.some.inj h
                    exact zR [] [] []
              ·simp only [hb12]
               as_aux_lemma =>
                refine adops_cut 4 (fun K' hK25=>?_)
                try dsimp only [List.drop_succ_cons,List.drop_zero,List.take_succ_cons,List.take_zero]
                simp only [go_sem,hb6,hb10,hb12]
                repeat with_reducible refine zN ?_
                refine hK25 _ ?_
                as_aux_lemma =>
                 refine adops_cut 4 (fun K' hK26=>?_)
                 try dsimp only [List.drop_succ_cons,List.drop_zero,List.take_succ_cons,List.take_zero]
                 simp only [go_sem,hb6,hb10,hb12]
                 repeat with_reducible refine zN ?_
                 refine hK26 _ ?_
                 as_aux_lemma =>
                  refine adops_cut 4 (fun K' hK27=>?_)
                  try dsimp only [List.drop_succ_cons,List.drop_zero,List.take_succ_cons,List.take_zero]
                  simp only [go_sem,hb6,hb10,hb12]
                  repeat with_reducible refine zN ?_
                  refine hK27 _ ?_
                  as_aux_lemma =>
                   refine adops_cut 4 (fun K' hK28=>?_)
                   try dsimp only [List.drop_succ_cons,List.drop_zero,List.take_succ_cons,List.take_zero]
                   simp only [go_sem,hb6,hb10,hb12]
                   repeat with_reducible refine zN ?_
                   refine hK28 _ ?_
                   as_aux_lemma =>
                    refine adops_cut 3 (fun K' hK29=>?_)
                    try dsimp only [List.drop_succ_cons,List.drop_zero,List.take_succ_cons,List.take_zero]
                    simp only [go_sem,hb6,hb10,hb12]
                    repeat with_reducible refine zN ?_
                    refine hK29 _ ?_
                    refine adops_nil ?_
                    refine athen_n ?_
                    refine zV [(4,.bool false)] [] gt ?_
                    as_aux_lemma =>
                     refine AW.ret ?_
                     obtain rfl:=Option.some.inj h
                     exact zR [] [] []
           ·simp only [hb10]
            as_aux_lemma =>
             refine adops_cut 6 (fun K' hK30=>?_)
             try dsimp only [List.drop_succ_cons,List.drop_zero,List.take_succ_cons,List.take_zero]
             simp only [go_sem,hb6,hb10]
             repeat with_reducible refine zN ?_
             refine hK30 _ ?_
             as_aux_lemma =>
              refine adops_cut 4 (fun K' hK31=>?_)
              try dsimp only [List.drop_succ_cons,List.drop_zero,List.take_succ_cons,List.take_zero]
              simp only [go_sem,hb6,hb10]
              repeat with_reducible refine zN ?_
              refine hK31 _ ?_
              as_aux_lemma =>
               refine adops_cut 4 (fun K' hK32=>?_)
               try dsimp only [List.drop_succ_cons,List.drop_zero,List.take_succ_cons,List.take_zero]
               simp only [go_sem,hb6,hb10]
               repeat with_reducible refine zN ?_
               refine hK32 _ ?_
               as_aux_lemma =>
                refine adops_cut 4 (fun K' hK33=>?_)
                try dsimp only [List.drop_succ_cons,List.drop_zero,List.take_succ_cons,List.take_zero]
                simp only [go_sem,hb6,hb10]
                repeat with_reducible refine zN ?_
                refine hK33 _ ?_
                as_aux_lemma =>
                 refine adops_cut 4 (fun K' hK34=>?_)
                 try dsimp only [List.drop_succ_cons,List.drop_zero,List.take_succ_cons,List.take_zero]
                 simp only [go_sem,hb6,hb10]
                 repeat with_reducible refine zN ?_
                 refine hK34 _ ?_
                 as_aux_lemma =>
                  refine adops_cut 2 (fun K' hK35=>?_)
                  try dsimp only [List.drop_succ_cons,List.drop_zero,List.take_succ_cons,List.take_zero]
                  simp only [go_sem,hb6,hb10]
                  repeat with_reducible refine zN ?_
                  refine hK35 _ ?_
                  refine adops_nil ?_
                  refine athen_n ?_
                  refine zV [(4,.bool false)] [] gt ?_
                  as_aux_lemma =>
                   refine AW.ret ?_
                   obtain rfl:=Option.some.inj h
                   exact zR [] [] []
       ·simp only [hb6]
        as_aux_lemma =>
         refine adops_cut 4 (fun K' hK36=>?_)
         try dsimp only [List.drop_succ_cons,List.drop_zero,List.take_succ_cons,List.take_zero]
         simp only [go_sem,hb6]
         repeat with_reducible refine zN ?_
         refine hK36 _ ?_
         as_aux_lemma =>
          refine adops_cut 6 (fun K' hK37=>?_)
          try dsimp only [List.drop_succ_cons,List.drop_zero,List.take_succ_cons,List.take_zero]
          simp only [go_sem,hb6]
          repeat with_reducible refine zN ?_
          refine hK37 _ ?_
          as_aux_lemma =>
           refine adops_cut 5 (fun K' hK38=>?_)
           try dsimp only [List.drop_succ_cons,List.drop_zero,List.take_succ_cons,List.take_zero]
           simp only [go_sem,hb6]
           repeat with_reducible refine zN ?_
           refine hK38 _ ?_
           as_aux_lemma =>
            refine adops_cut 4 (fun K' hK39=>?_)
            try dsimp only [List.drop_succ_cons,List.drop_zero,List.take_succ_cons,List.take_zero]
            simp only [go_sem,hb6]
            repeat with_reducible refine zN ?_
            refine hK39 _ ?_
            as_aux_lemma =>
             refine adops_cut 4 (fun K' hK40=>?_)
             try dsimp only [List.drop_succ_cons,List.drop_zero,List.take_succ_cons,List.take_zero]
             simp only [go_sem,hb6]
             repeat with_reducible refine zN ?_
             refine hK40 _ ?_
             as_aux_lemma =>
              refine adops_cut 4 (fun K' hK41=>?_)
              try dsimp only [List.drop_succ_cons,List.drop_zero,List.take_succ_cons,List.take_zero]
              simp only [go_sem,hb6]
              repeat with_reducible refine zN ?_
              refine hK41 _ ?_
              as_aux_lemma =>
               refine adops_cut 3 (fun K' hK42=>?_)
               try dsimp only [List.drop_succ_cons,List.drop_zero,List.take_succ_cons,List.take_zero]
               simp only [go_sem,hb6]
               repeat with_reducible refine zN ?_
               refine hK42 _ ?_
               refine adops_nil ?_
               refine athen_n ?_
               refine zV [(4,.bool false)] [] gt ?_
               as_aux_lemma =>
                refine AW.ret ?_
                obtain rfl:=Option.some.inj h
                exact zR [] [] []
theorem hc_delay_accesses_isStation (x0:List (List (Int×Bool))) (s:Int×Int×Int) {r:Bool} (h:delay_accesses_isStation x0 s=some r):HC Try.prog 111 [] [.sl (.sl (.pair (.int .i64) .bool)) x0,.agg [.int .i64 s.1,.int .i64 s.2.1,.int .i64 s.2.2]] [] (.bool r):=by
 unfold delay_accesses_isStation at h
 refine zH Try.func111 [.tmp 4] 20 ?_
 refine zo ?_
 refine zB [(0,.sl (.sl (.pair (.int .i64) .bool)) x0),(3,.bp 3 0)] [(3,.box 35 [.int .i64 s.1,.int .i64 s.2.1,.int .i64 s.2.2])] ?_
 refine zo ?_
 refine zS 1 [(0,.sl (.sl (.pair (.int .i64) .bool)) x0),(3,.bp 3 0),(5,.agg [.int .i64 s.1,.int .i64 s.2.1,.int .i64 s.2.2])] [(3,.box 35 [.int .i64 s.1,.int .i64 s.2.1,.int .i64 s.2.2])] ?_
 obtain ⟨v0,hv1,h⟩:=Option.bind_eq_some_iff.1 h
 refine zC [] [] (hc_delay_isOne s hv1) [(0,.sl (.sl (.pair (.int .i64) .bool)) x0),(3,.bp 3 0),(6,.bool (decide (s.2.1=s.2.2)))] [(3,.box 35 [.int .i64 s.1,.int .i64 s.2.1,.int .i64 s.2.2])] ?_
 refine zS 1 [(0,.sl (.sl (.pair (.int .i64) .bool)) x0),(3,.bp 3 0),(7,.bool (decide (s.2.1=s.2.2)))] [(3,.box 35 [.int .i64 s.1,.int .i64 s.2.1,.int .i64 s.2.2])] ?_
 rcases zI h with ⟨hb2,h⟩|⟨hb2,h⟩
 ·refine zS 5 [(0,.sl (.sl (.pair (.int .i64) .bool)) x0),(3,.bp 3 0),(7,.bool true),(8,.sl (.sl (.pair (.int .i64) .bool)) x0),(10,.int .i64 s.1),(12,.int .i64 s.2.1)] [(3,.box 35 [.int .i64 s.1,.int .i64 s.2.1,.int .i64 s.2.2])] ?_
  obtain ⟨v0_2,hv3,h⟩:=Option.bind_eq_some_iff.1 h
  refine zG [] [] (hc_delay_accesses_has x0 s.1 s.2.1 hv3) [(0,.sl (.sl (.pair (.int .i64) .bool)) x0),(3,.bp 3 0),(7,.bool true),(13,.bool v0_2)] [(3,.box 35 [.int .i64 s.1,.int .i64 s.2.1,.int .i64 s.2.2])] ?_
  refine zS 2 [(0,.sl (.sl (.pair (.int .i64) .bool)) x0),(3,.bp 3 0),(15,.bool v0_2)] [(3,.box 35 [.int .i64 s.1,.int .i64 s.2.1,.int .i64 s.2.2])] ?_
  rcases zI h with ⟨hb4,h⟩|⟨hb4,h⟩
  ·refine zB [(4,.bool true)] [] ?_
   refine AW.ret ?_
   obtain rfl:=Option.some.inj h
   exact zR [] [] []
  ·refine zS 2 [(15,.bool false),(16,.sl (.sl (.pair (.int .i64) .bool)) x0),(17,.agg [.int .i64 s.1,.int .i64 s.2.1,.int .i64 s.2.2])] [] ?_
   obtain ⟨v0_3,hv5,h⟩:=Option.bind_eq_some_iff.1 h
   refine zG [] [] (hc_delay_accesses_isPair x0 s hv5) [(15,.bool false),(18,.bool v0_3)] [] ?_
   refine zB [(4,.bool v0_3)] [] ?_
   refine AW.ret ?_
   obtain rfl:=Option.some.inj h
   exact zR [] [] []
 ·refine zS 4 [(0,.sl (.sl (.pair (.int .i64) .bool)) x0),(3,.bp 3 0),(7,.bool false),(8,.cv (undef)),(10,.cv (undef)),(11,.cv (undef))] [(3,.box 35 [.int .i64 s.1,.int .i64 s.2.1,.int .i64 s.2.2])] ?_
  refine zS 5 [(3,.bp 3 0),(15,.bool false),(16,.sl (.sl (.pair (.int .i64) .bool)) x0)] [(3,.box 35 [.int .i64 s.1,.int .i64 s.2.1,.int .i64 s.2.2])] ?_
  refine zS 1 [(15,.bool false),(16,.sl (.sl (.pair (.int .i64) .bool)) x0),(17,.agg [.int .i64 s.1,.int .i64 s.2.1,.int .i64 s.2.2])] [] ?_
  obtain ⟨v0_4,hv6,h⟩:=Option.bind_eq_some_iff.1 h
  refine zG [] [] (hc_delay_accesses_isPair x0 s hv6) [(15,.bool false),(18,.bool v0_4)] [] ?_
  refine zB [(4,.bool v0_4)] [] ?_
  refine AW.ret ?_
  obtain rfl:=Option.some.inj h
  exact zR [] [] []
end Go.Proofs.Ytdicomoggfhbfaa
