import Derived.Test.YtdicomoggfhbfaaDlp
import Derived.Test.YtdicomoggfhbfaaShd
import Derived.Test.YtdicomoggfhbfaaAvd
import Derived.Test.YtdicomoggfhbfaaDjc1
import Derived.Test.YtdicomoggfhbfaaDjc11
import Derived.Test.YtdicomoggfhbfaaDjc5
import Derived.Test.YtdicomoggfhbfaaDjc9
namespace Go.Proofs.Ytdicomoggfhbfaa
open Go.RowKit
set_option linter.unusedSimpArgs false
set_option linter.unusedVariables false
set_option linter.constructorNameAsVariable false
set_option maxRecDepth 100000
set_option maxHeartbeats 40000000
theorem hc_linealref09_SameFences (a:List (Int×Int)) (b:List (Int×Int)) {r:Bool} (h:linealref09_SameFences a b=some r):HC Try.prog 44 [] [.sl (.pair (.int .i64) (.int .i64)) a,.sl (.pair (.int .i64) (.int .i64)) b] [] (.bool r):=by
 unfold linealref09_SameFences at h
 refine zH Try.func44 [.tmp 4] 26 ?_
 refine zo ?_
 refine zB [(0,.sl (.pair (.int .i64) (.int .i64)) a),(1,.sl (.pair (.int .i64) (.int .i64)) b)] [] ?_
 refine AW.seq ?_
 refine zo ?_
 refine zB [(0,.sl (.pair (.int .i64) (.int .i64)) a),(1,.sl (.pair (.int .i64) (.int .i64)) b),(10,.bool (!(decide ((a.length:Int)=(b.length:Int)))))] [] ?_
 refine zQ h (fun hb1 h=>?_) (fun hb1 h=>?_)
 ·refine zo ?_
  refine zB [(4,.bool false)] [] ?_
  refine zr ?_
  obtain rfl:=Option.some.inj h
  exact zR [] [] []
 ·refine zk ?_
  refine AW.have1 (fun _:Unit=>linealref09_SameFences_k1=some r) (fun _=>⟨fr [],hpGet [],gt⟩) (fun _ h=>?_) (fun hk_linealref09_SameFences_k1=>?_)
  ·as_aux_lemma =>
    unfold linealref09_SameFences_k1 at h
    refine zo ?_
    refine zB [(4,.bool true)] [] ?_
    refine AW.ret ?_
    obtain rfl:=Option.some.inj h
    exact zR [] [] []
  ·refine AW.seq ?_
   refine zo ?_
   refine zB [(0,.sl (.pair (.int .i64) (.int .i64)) a),(1,.sl (.pair (.int .i64) (.int .i64)) b),(12,.int .i64 (a.length:Int)),(13,.int .i64 0)] [] ?_
   refine AW.block ?_
   obtain ⟨rv6,hw2,ho3⟩:=Option.bind_eq_some_iff.1 h
   refine AW.loopO (linealref09_SameFences_b1 a b) (fun st1=>⟨fr [(0,.sl (.pair (.int .i64) (.int .i64)) a),(1,.sl (.pair (.int .i64) (.int .i64)) b),(12,.int .i64 (a.length:Int)),(13,.int .i64 st1)],hpGet [],gt⟩) 0 hw2 (zL [] [] []) ?_
   as_aux_lemma =>
    intro st1 x5 h hd4
    unfold linealref09_SameFences_b1 at h
    refine zo ?_
    refine zB [(0,.sl (.pair (.int .i64) (.int .i64)) a),(1,.sl (.pair (.int .i64) (.int .i64)) b),(12,.int .i64 (a.length:Int)),(13,.int .i64 st1),(14,.bool (decide (st1<(a.length:Int))))] [] ?_
    refine AW.seq ?_
    refine zQ h (fun hb7 h=>?_) (fun hb7 h=>?_)
    ·refine zk ?_
     refine AW.seq ?_
     refine AW.block ?_
     refine zo ?_
     refine zB [(0,.sl (.pair (.int .i64) (.int .i64)) a),(1,.sl (.pair (.int .i64) (.int .i64)) b),(5,.int .i64 st1),(12,.int .i64 (a.length:Int)),(13,.int .i64 st1)] [] ?_
     refine AW.seq ?_
     refine AW.drawTail tab_ok mixed_ok 8 [] [] (by decide) (by kernel_rfl) (by kernel_rfl) (by decide) ?_
     dsimp only [List.take_succ_cons,List.take_zero]
     obtain ⟨c9,h⟩:=ck_some.1 h
     obtain ⟨c10,h⟩:=ck_some.1 h
     refine adops_cut 6 (fun K' hK8=>?_)
     try dsimp only [List.drop_succ_cons,List.drop_zero,List.take_succ_cons,List.take_zero]
     simp only [go_sem,hb1,hb7]
     repeat with_reducible refine zN ?_
     refine hK8 _ ?_
     as_aux_lemma =>
      obtain ⟨c12,h⟩:=ck_some.1 h
      obtain ⟨c13,h⟩:=ck_some.1 h
      refine adops_cut 2 (fun K' hK11=>?_)
      try dsimp only [List.drop_succ_cons,List.drop_zero,List.take_succ_cons,List.take_zero]
      simp only [go_sem,hb1,hb7]
      repeat with_reducible refine zN ?_
      refine hK11 _ ?_
      refine adops_nil ?_
      refine zT [(0,.sl (.pair (.int .i64) (.int .i64)) a),(1,.sl (.pair (.int .i64) (.int .i64)) b),(12,.int .i64 (a.length:Int)),(13,.int .i64 st1),(19,.agg [.int .i64 (a.getD st1.toNat (0,0)).1,.int .i64 (a.getD st1.toNat (0,0)).2]),(23,.agg [.int .i64 (b.getD st1.toNat (0,0)).1,.int .i64 (b.getD st1.toNat (0,0)).2])] [] gt ?_
      obtain ⟨c14,h⟩:=ck_some.1 h
      obtain ⟨c15,h⟩:=ck_some.1 h
      obtain ⟨c16,h⟩:=ck_some.1 h
      obtain ⟨c17,h⟩:=ck_some.1 h
      refine AO.aggEq (neg:=true) eqty_110 (by decide) rfl rfl (lx:=[.int .i64 (a.getD st1.toNat (0,0)).1,.int .i64 (a.getD st1.toNat (0,0)).2]) (ly:=[.int .i64 (b.getD st1.toNat (0,0)).1,.int .i64 (b.getD st1.toNat (0,0)).2]) (by first|rfl|(simp only [go_sem,hb1,hb7])<;>(with_reducible and_intros)<;>first|assumption|rfl|omega|(unfold maxLen; omega)) (by first|rfl|(simp only [go_sem,hb1,hb7])<;>(with_reducible and_intros)<;>first|assumption|rfl|omega|(unfold maxLen; omega)) (by first|rfl|(simp only [go_sem,hb1,hb7])<;>(with_reducible and_intros)<;>first|assumption|rfl|omega|(unfold maxLen; omega)) (by first|rfl|(simp only [go_sem,hb1,hb7])<;>(with_reducible and_intros)<;>first|assumption|rfl|omega|(unfold maxLen; omega)) (by first|assumption|omega|(simp only [go_sem,hb1,hb7])<;>(with_reducible and_intros)<;>first|assumption|rfl|omega|(unfold maxLen; omega)) (by first|assumption|omega|(simp only [go_sem,hb1,hb7])<;>(with_reducible and_intros)<;>first|assumption|rfl|omega|(unfold maxLen; omega)) ?_
      refine zT [(0,.sl (.pair (.int .i64) (.int .i64)) a),(1,.sl (.pair (.int .i64) (.int .i64)) b),(12,.int .i64 (a.length:Int)),(13,.int .i64 st1),(24,.bool (!(decide ((a.getD st1.toNat (0,0))=(b.getD st1.toNat (0,0))))))] [] gt ?_
      refine zB [(0,.sl (.pair (.int .i64) (.int .i64)) a),(1,.sl (.pair (.int .i64) (.int .i64)) b),(12,.int .i64 (a.length:Int)),(13,.int .i64 st1),(24,.bool (!(decide ((a.getD st1.toNat (0,0))=(b.getD st1.toNat (0,0))))))] [] ?_
      refine zQ h (fun hb18 h=>?_) (fun hb18 h=>?_)
      ·refine zo ?_
       refine zB [(4,.bool false)] [] ?_
       refine AW.ret ?_
       refine ablock_r ?_
       refine athen_r ?_
       obtain rfl:=Option.some.inj h
       try rw [← hd4 _ rfl] at ho3
       have h:=ho3
       try simp only at h
       refine athen_r ?_
       refine ablock_r ?_
       refine athen_r ?_
       obtain rfl:=Option.some.inj h
       exact zR [] [] []
      ·refine zm ?_
       refine athen_n ?_
       refine AW.ops ?_
       obtain ⟨c19,h⟩:=ck_some.1 h
       refine zA [(0,.sl (.pair (.int .i64) (.int .i64)) a),(1,.sl (.pair (.int .i64) (.int .i64)) b),(12,.int .i64 (a.length:Int)),(13,.int .i64 (st1+1))] [] ?_
       obtain rfl:=Option.some.inj h
       exact ⟨_,rfl,zL [] [] []⟩
    ·refine AW.exit ?_
     refine athen_e ?_
     obtain rfl:=Option.some.inj h
     try rw [← hd4 _ rfl] at ho3
     have h:=ho3
     try simp only at h
     refine athen_e ?_
     refine ablock_s ?_
     refine athen_n ?_
     exact AW.weaken (zL [] [] []) (hk_linealref09_SameFences_k1 () h)
theorem hc_delay_offer_arePrices_1 (price:Int) {r:Bool} (h:delay_offer_arePrices_1 price=some r):HC Try.prog 133 [] [.int .i64 price] [] (.bool r):=by
 unfold delay_offer_arePrices_1 at h
 refine zH Try.func133 [.tmp 2] 6 ?_
 refine zo ?_
 refine zB [(0,.int .i64 price)] [] ?_
 refine zo ?_
 refine zS 1 [(3,.int .i64 price)] [] ?_
 obtain ⟨v0,hv1,h⟩:=Option.bind_eq_some_iff.1 h
 refine zC [] [] (hc_delay_isBelow price 101 hv1) [(4,.bool v0)] [] ?_
 refine zB [(2,.bool (!v0))] [] ?_
 refine AW.ret ?_
 obtain rfl:=Option.some.inj h
 exact zR [] [] []
theorem hc_slices_IndexFunc_12 (s:List Int) {r:Int} (h:slices_IndexFunc_12 s=some r):HC Try.prog 146 [] [.sl (.int .i64) s,.fn (.func 133) [] []] [] (.int .i64 r):=by
 unfold slices_IndexFunc_12 at h
 refine zH Try.func146 [.tmp 4] 19 ?_
 refine zo ?_
 refine zB [(0,.sl (.int .i64) s),(1,.fn (.func 133) [] [])] [] ?_
 refine AW.have1 (fun _:Unit=>slices_IndexFunc_12_k1=some r) (fun _=>⟨fr [],hpGet [],gt⟩) (fun _ h=>?_) (fun hk_slices_IndexFunc_12_k1=>?_)
 ·as_aux_lemma =>
   unfold slices_IndexFunc_12_k1 at h
   refine zo ?_
   refine zB [(4,.int .i64 (-1))] [] ?_
   refine AW.ret ?_
   obtain rfl:=Option.some.inj h
   exact zR [] [] []
 ·refine AW.seq ?_
  refine zo ?_
  refine zB [(0,.sl (.int .i64) s),(1,.fn (.func 133) [] []),(7,.int .i64 (s.length:Int)),(8,.int .i64 0)] [] ?_
  refine AW.block ?_
  obtain ⟨rv5,hw1,ho2⟩:=Option.bind_eq_some_iff.1 h
  refine AW.loopO (slices_IndexFunc_12_b1 s) (fun st1=>⟨fr [(0,.sl (.int .i64) s),(1,.fn (.func 133) [] []),(7,.int .i64 (s.length:Int)),(8,.int .i64 st1)],hpGet [],gt⟩) 0 hw1 (zL [] [] []) ?_
  as_aux_lemma =>
   intro st1 x4 h hd3
   unfold slices_IndexFunc_12_b1 at h
   refine zo ?_
   refine zB [(0,.sl (.int .i64) s),(1,.fn (.func 133) [] []),(7,.int .i64 (s.length:Int)),(8,.int .i64 st1),(9,.bool (decide (st1<(s.length:Int))))] [] ?_
   refine AW.seq ?_
   refine zQ h (fun hb6 h=>?_) (fun hb6 h=>?_)
   ·refine zk ?_
    refine AW.seq ?_
    refine AW.block ?_
    refine zo ?_
    refine zB [(0,.sl (.int .i64) s),(1,.fn (.func 133) [] []),(5,.int .i64 st1),(7,.int .i64 (s.length:Int)),(8,.int .i64 st1)] [] ?_
    refine zo ?_
    obtain ⟨c7,h⟩:=ck_some.1 h
    obtain ⟨c8,h⟩:=ck_some.1 h
    refine zS 5 [(0,.sl (.int .i64) s),(1,.fn (.func 133) [] []),(5,.int .i64 st1),(7,.int .i64 (s.length:Int)),(8,.int .i64 st1),(11,.fn (.func 133) [] []),(15,.int .i64 (s.getD st1.toNat 0))] [] ?_
    obtain ⟨v0,hv9,h⟩:=Option.bind_eq_some_iff.1 h
    refine zC [] [] (hc_delay_offer_arePrices_1 (s.getD st1.toNat 0) hv9) [(0,.sl (.int .i64) s),(1,.fn (.func 133) [] []),(5,.int .i64 st1),(7,.int .i64 (s.length:Int)),(8,.int .i64 st1),(16,.bool v0)] [] ?_
    refine zB [(0,.sl (.int .i64) s),(1,.fn (.func 133) [] []),(5,.int .i64 st1),(7,.int .i64 (s.length:Int)),(8,.int .i64 st1),(16,.bool v0)] [] ?_
    refine zQ h (fun hb10 h=>?_) (fun hb10 h=>?_)
    ·refine zo ?_
     refine zB [(4,.int .i64 st1)] [] ?_
     refine AW.ret ?_
     refine ablock_r ?_
     refine athen_r ?_
     obtain rfl:=Option.some.inj h
     rw [← hd3 _ rfl] at ho2
     have h:=ho2
     try simp only at h
     refine athen_r ?_
     refine ablock_r ?_
     refine athen_r ?_
     obtain rfl:=Option.some.inj h
     exact zR [] [] []
    ·refine zm ?_
     refine athen_n ?_
     refine AW.ops ?_
     obtain ⟨c11,h⟩:=ck_some.1 h
     refine zA [(0,.sl (.int .i64) s),(1,.fn (.func 133) [] []),(7,.int .i64 (s.length:Int)),(8,.int .i64 (st1+1))] [] ?_
     obtain rfl:=Option.some.inj h
     exact ⟨_,rfl,zL [] [] []⟩
   ·refine AW.exit ?_
    refine athen_e ?_
    obtain rfl:=Option.some.inj h
    try rw [← hd3 _ rfl] at ho2
    have h:=ho2
    try simp only at h
    refine athen_e ?_
    refine ablock_s ?_
    refine athen_n ?_
    exact AW.weaken (zL [] [] []) (hk_slices_IndexFunc_12_k1 () h)
theorem hc_slices_ContainsFunc_8 (s:List Int) {r:Bool} (h:slices_ContainsFunc_8 s=some r):HC Try.prog 124 [] [.sl (.int .i64) s,.fn (.func 133) [] []] [] (.bool r):=by
 unfold slices_ContainsFunc_8 at h
 refine zH Try.func124 [.tmp 4] 9 ?_
 refine zo ?_
 refine zB [(0,.sl (.int .i64) s),(1,.fn (.func 133) [] [])] [] ?_
 refine zo ?_
 refine zS 2 [(5,.sl (.int .i64) s),(6,.fn (.func 133) [] [])] [] ?_
 obtain ⟨v0,hv1,h⟩:=Option.bind_eq_some_iff.1 h
 refine zC [] [] (hc_slices_IndexFunc_12 s hv1) [(7,.int .i64 v0)] [] ?_
 refine zB [(4,.bool (decide (0≤v0)))] [] ?_
 refine AW.ret ?_
 obtain rfl:=Option.some.inj h
 exact zR [] [] []
theorem hc_delay_offer_arePrices (o:(List (List (Int×Bool)))×(List (Int×Int×Int))×(List (List Int))) (list:List Int) {r:Bool} (h:delay_offer_arePrices o list=some r):HC Try.prog 95 [] [.agg [.sl (.sl (.pair (.int .i64) .bool)) o.1,.sl Y0 o.2.1,.sl (.sl (.int .i64)) o.2.2],.sl (.int .i64) list] [] (.bool r):=by
 unfold delay_offer_arePrices at h
 refine zH Try.func95 [.tmp 4] 18 ?_
 refine zo ?_
 refine zB [(1,.sl (.int .i64) list),(2,.bp 2 0)] [(2,.box 103 [.sl (.sl (.pair (.int .i64) .bool)) o.1,.sl Y0 o.2.1,.sl (.sl (.int .i64)) o.2.2])] ?_
 refine zo ?_
 refine zB [(1,.sl (.int .i64) list),(2,.bp 2 0),(5,.fn (.func 133) [] [])] [(2,.box 103 [.sl (.sl (.pair (.int .i64) .bool)) o.1,.sl Y0 o.2.1,.sl (.sl (.int .i64)) o.2.2])] ?_
 refine zo ?_
 refine zS 5 [(1,.sl (.int .i64) list),(5,.fn (.func 133) [] []),(7,.int .i64 (list.length:Int)),(10,.int .i64 (o.2.1.length:Int))] [] ?_
 refine zS 2 [(1,.sl (.int .i64) list),(5,.fn (.func 133) [] []),(12,.bool (decide ((list.length:Int)=(o.2.1.length:Int))))] [] ?_
 rcases zI h with ⟨hb1,h⟩|⟨hb1,h⟩
 ·refine zS 2 [(12,.bool true),(13,.sl (.int .i64) list),(14,.fn (.func 133) [] [])] [] ?_
  obtain ⟨v0,hv2,h⟩:=Option.bind_eq_some_iff.1 h
  refine zG [] [] (hc_slices_ContainsFunc_8 list hv2) [(12,.bool true),(15,.bool v0)] [] ?_
  refine zB [(4,.bool (!v0))] [] ?_
  refine AW.ret ?_
  obtain rfl:=Option.some.inj h
  exact zR [] [] []
 ·refine zS 4 [(12,.bool false),(16,.cv (undef))] [] ?_
  refine zB [(4,.bool false)] [] ?_
  refine AW.ret ?_
  obtain rfl:=Option.some.inj h
  exact zR [] [] []
theorem hc_delay_offer_left (o:(List (List (Int×Bool)))×(List (Int×Int×Int))×(List (List Int))) (f:Int×Int) (prices:List Int) {r:Int} (h:delay_offer_left o f prices=some r):HC Try.prog 135 [] [.agg [.sl (.sl (.pair (.int .i64) .bool)) o.1,.sl Y0 o.2.1,.sl (.sl (.int .i64)) o.2.2],.agg [.int .i64 f.1,.int .i64 f.2],.sl (.int .i64) prices] [] (.int .i64 r):=by
 unfold delay_offer_left at h
 refine zH Try.func135 [.tmp 6] 39 ?_
 refine zo ?_
 refine zB [(2,.sl (.int .i64) prices),(3,.bp 3 0),(4,.bp 4 0)] [(3,.box 103 [.sl (.sl (.pair (.int .i64) .bool)) o.1,.sl Y0 o.2.1,.sl (.sl (.int .i64)) o.2.2]),(4,.box 110 [.int .i64 f.1,.int .i64 f.2])] ?_
 refine AW.seq ?_
 refine AW.draw tab_ok mixed_ok [] [] (by decide) (lex_fast (by kernel_rfl)) ?_
 as_aux_lemma =>
  obtain ⟨c2,h⟩:=ck_some.1 h
  obtain ⟨c3,h⟩:=ck_some.1 h
  refine adops_cut 6 (fun K' hK1=>?_)
  try dsimp only [List.drop_succ_cons,List.drop_zero,List.take_succ_cons,List.take_zero]
  simp only [go_sem]
  repeat with_reducible refine zN ?_
  refine hK1 _ ?_
  as_aux_lemma =>
   obtain ⟨c5,h⟩:=ck_some.1 h
   obtain ⟨c6,h⟩:=ck_some.1 h
   refine adops_cut 5 (fun K' hK4=>?_)
   try dsimp only [List.drop_succ_cons,List.drop_zero,List.take_succ_cons,List.take_zero]
   simp only [go_sem]
   repeat with_reducible refine zN ?_
   refine hK4 _ ?_
   refine adops_nil ?_
   refine athen_n ?_
   refine zV [(2,.sl (.int .i64) prices),(3,.bp 3 0),(4,.bp 4 0),(7,.int .i64 ((o.2.2.getD f.1.toNat []).getD f.2.toNat 0))] [(3,.box 103 [.sl (.sl (.pair (.int .i64) .bool)) o.1,.sl Y0 o.2.1,.sl (.sl (.int .i64)) o.2.2]),(4,.box 110 [.int .i64 f.1,.int .i64 f.2])] gt ?_
   as_aux_lemma =>
    refine AW.have1 (fun b1:Int=>delay_offer_left_k1 b1=some r) (fun b1=>⟨fr [(7,.int .i64 b1)],hpGet [],gt⟩) (fun b1 h=>?_) (fun hk_delay_offer_left_k1=>?_)
    ·as_aux_lemma =>
      unfold delay_offer_left_k1 at h
      refine zo ?_
      refine zB [(6,.int .i64 b1)] [] ?_
      refine AW.ret ?_
      obtain rfl:=Option.some.inj h
      exact zR [] [] []
    ·refine AW.seq ?_
     refine zo ?_
     refine zB [(2,.sl (.int .i64) prices),(4,.bp 4 0),(7,.int .i64 ((o.2.2.getD f.1.toNat []).getD f.2.toNat 0)),(21,.sl Y0 o.2.1),(22,.int .i64 (o.2.1.length:Int)),(23,.int .i64 0)] [(4,.box 110 [.int .i64 f.1,.int .i64 f.2])] ?_
     refine AW.block ?_
     obtain ⟨rv11,hw7,ho8⟩:=Option.bind_eq_some_iff.1 h
     refine AW.loopO (delay_offer_left_b1 o f prices) (fun st1=>⟨fr [(2,.sl (.int .i64) prices),(4,.bp 4 0),(7,.int .i64 st1.1),(21,.sl Y0 o.2.1),(22,.int .i64 (o.2.1.length:Int)),(23,.int .i64 st1.2)],hpGet [(4,.box 110 [.int .i64 f.1,.int .i64 f.2])],gt⟩) (((o.2.2.getD f.1.toNat []).getD f.2.toNat 0),0) hw7 (zL [] [] []) ?_
     as_aux_lemma =>
      intro st1 x10 h hd9
      unfold delay_offer_left_b1 at h
      refine zo ?_
      refine zB [(2,.sl (.int .i64) prices),(4,.bp 4 0),(7,.int .i64 st1.1),(21,.sl Y0 o.2.1),(22,.int .i64 (o.2.1.length:Int)),(23,.int .i64 st1.2),(24,.bool (decide (st1.2<(o.2.1.length:Int))))] [(4,.box 110 [.int .i64 f.1,.int .i64 f.2])] ?_
      refine AW.seq ?_
      refine zQ h (fun hb12 h=>?_) (fun hb12 h=>?_)
      ·refine zk ?_
       refine AW.seq ?_
       refine AW.block ?_
       refine zo ?_
       obtain ⟨c13,h⟩:=ck_some.1 h
       obtain ⟨c14,h⟩:=ck_some.1 h
       refine zS 5 [(2,.sl (.int .i64) prices),(4,.bp 4 0),(7,.int .i64 st1.1),(8,.int .i64 st1.2),(9,.bp 9 0),(21,.sl Y0 o.2.1),(22,.int .i64 (o.2.1.length:Int)),(23,.int .i64 st1.2),(27,.agg [.int .i64 (o.2.1.getD st1.2.toNat (0,0,0)).1,.int .i64 (o.2.1.getD st1.2.toNat (0,0,0)).2.1,.int .i64 (o.2.1.getD st1.2.toNat (0,0,0)).2.2])] [(4,.box 110 [.int .i64 f.1,.int .i64 f.2]),(9,.box 35 [.int .i64 0,.int .i64 0,.int .i64 0])] ?_
       refine zB [(2,.sl (.int .i64) prices),(4,.bp 4 0),(7,.int .i64 st1.1),(8,.int .i64 st1.2),(9,.bp 9 0),(21,.sl Y0 o.2.1),(22,.int .i64 (o.2.1.length:Int)),(23,.int .i64 st1.2)] [(4,.box 110 [.int .i64 f.1,.int .i64 f.2]),(9,.box 35 [.int .i64 (o.2.1.getD st1.2.toNat (0,0,0)).1,.int .i64 (o.2.1.getD st1.2.toNat (0,0,0)).2.1,.int .i64 (o.2.1.getD st1.2.toNat (0,0,0)).2.2])] ?_
       refine zo ?_
       refine zS 2 [(2,.sl (.int .i64) prices),(4,.bp 4 0),(7,.int .i64 st1.1),(8,.int .i64 st1.2),(21,.sl Y0 o.2.1),(22,.int .i64 (o.2.1.length:Int)),(23,.int .i64 st1.2),(28,.agg [.int .i64 f.1,.int .i64 f.2]),(29,.agg [.int .i64 (o.2.1.getD st1.2.toNat (0,0,0)).1,.int .i64 (o.2.1.getD st1.2.toNat (0,0,0)).2.1,.int .i64 (o.2.1.getD st1.2.toNat (0,0,0)).2.2])] [(4,.box 110 [.int .i64 f.1,.int .i64 f.2])] ?_
       obtain ⟨v0,hv15,h⟩:=Option.bind_eq_some_iff.1 h
       refine zC [] [] (hc_delay_holds f (o.2.1.getD st1.2.toNat (0,0,0)) hv15) [(2,.sl (.int .i64) prices),(4,.bp 4 0),(7,.int .i64 st1.1),(8,.int .i64 st1.2),(21,.sl Y0 o.2.1),(22,.int .i64 (o.2.1.length:Int)),(23,.int .i64 st1.2),(30,.bool v0)] [(4,.box 110 [.int .i64 f.1,.int .i64 f.2])] ?_
       refine zB [(2,.sl (.int .i64) prices),(4,.bp 4 0),(7,.int .i64 st1.1),(8,.int .i64 st1.2),(21,.sl Y0 o.2.1),(22,.int .i64 (o.2.1.length:Int)),(23,.int .i64 st1.2),(30,.bool v0)] [(4,.box 110 [.int .i64 f.1,.int .i64 f.2])] ?_
       refine zQ h (fun hb16 h=>?_) (fun hb16 h=>?_)
       ·refine AW.ops ?_
        obtain ⟨c17,h⟩:=ck_some.1 h
        obtain ⟨c18,h⟩:=ck_some.1 h
        refine zS 5 [(2,.sl (.int .i64) prices),(4,.bp 4 0),(21,.sl Y0 o.2.1),(22,.int .i64 (o.2.1.length:Int)),(23,.int .i64 st1.2),(31,.int .i64 st1.1),(35,.int .i64 (prices.getD st1.2.toNat 0))] [(4,.box 110 [.int .i64 f.1,.int .i64 f.2])] ?_
        obtain ⟨c19,h⟩:=ck_some.1 h
        refine zA [(2,.sl (.int .i64) prices),(4,.bp 4 0),(7,.int .i64 (st1.1 - (prices.getD st1.2.toNat 0))),(21,.sl Y0 o.2.1),(22,.int .i64 (o.2.1.length:Int)),(23,.int .i64 st1.2)] [(4,.box 110 [.int .i64 f.1,.int .i64 f.2])] ?_
        refine ablock_n ?_
        refine athen_n ?_
        refine AW.ops ?_
        obtain ⟨c20,h⟩:=ck_some.1 h
        refine zA [(2,.sl (.int .i64) prices),(4,.bp 4 0),(7,.int .i64 (st1.1 - (prices.getD st1.2.toNat 0))),(21,.sl Y0 o.2.1),(22,.int .i64 (o.2.1.length:Int)),(23,.int .i64 (st1.2+1))] [(4,.box 110 [.int .i64 f.1,.int .i64 f.2])] ?_
        obtain rfl:=Option.some.inj h
        exact ⟨_,rfl,zL [] [] []⟩
       ·refine zm ?_
        refine athen_n ?_
        refine AW.ops ?_
        obtain ⟨c21,h⟩:=ck_some.1 h
        refine zA [(2,.sl (.int .i64) prices),(4,.bp 4 0),(7,.int .i64 st1.1),(21,.sl Y0 o.2.1),(22,.int .i64 (o.2.1.length:Int)),(23,.int .i64 (st1.2+1))] [(4,.box 110 [.int .i64 f.1,.int .i64 f.2])] ?_
        obtain rfl:=Option.some.inj h
        exact ⟨_,rfl,zL [] [] []⟩
      ·refine AW.exit ?_
       refine athen_e ?_
       obtain rfl:=Option.some.inj h
       rw [← hd9 _ rfl] at ho8
       have h:=ho8
       refine athen_e ?_
       refine ablock_s ?_
       refine athen_n ?_
       exact AW.weaken (zL [] [] []) (hk_delay_offer_left_k1 _ h)
theorem hc_delay_offer_isProved_1 (f:Int×Int) (a1:(List (List (Int×Bool)))×(List (Int×Int×Int))×(List (List Int))) (a2:List Int) {r:Bool} (h:delay_offer_isProved_1 f a1 a2=some r):HC Try.prog 134 [(1000,.box 103 [.sl (.sl (.pair (.int .i64) .bool)) a1.1,.sl Y0 a1.2.1,.sl (.sl (.int .i64)) a1.2.2]),(1001,.box 48 [.sl (.int .i64) a2])] [.agg [.int .i64 f.1,.int .i64 f.2],.bp 1000 0,.bp 1001 0] [(1000,.box 103 [.sl (.sl (.pair (.int .i64) .bool)) a1.1,.sl Y0 a1.2.1,.sl (.sl (.int .i64)) a1.2.2]),(1001,.box 48 [.sl (.int .i64) a2])] (.bool r):=by
 unfold delay_offer_isProved_1 at h
 refine zH Try.func134 [.tmp 4] 10 ?_
 refine zo ?_
 refine zB [(1,.bp 1000 0),(2,.bp 1001 0),(3,.bp 3 0)] [(3,.box 110 [.int .i64 f.1,.int .i64 f.2]),(1000,.box 103 [.sl (.sl (.pair (.int .i64) .bool)) a1.1,.sl Y0 a1.2.1,.sl (.sl (.int .i64)) a1.2.2]),(1001,.box 48 [.sl (.int .i64) a2])] ?_
 refine zo ?_
 refine zS 3 [(5,.agg [.sl (.sl (.pair (.int .i64) .bool)) a1.1,.sl Y0 a1.2.1,.sl (.sl (.int .i64)) a1.2.2]),(6,.agg [.int .i64 f.1,.int .i64 f.2]),(7,.sl (.int .i64) a2)] [(1000,.box 103 [.sl (.sl (.pair (.int .i64) .bool)) a1.1,.sl Y0 a1.2.1,.sl (.sl (.int .i64)) a1.2.2]),(1001,.box 48 [.sl (.int .i64) a2])] ?_
 obtain ⟨v0,hv1,h⟩:=Option.bind_eq_some_iff.1 h
 refine zC [] [] (hc_delay_offer_left a1 f a2 hv1) [(8,.int .i64 v0)] [(1000,.box 103 [.sl (.sl (.pair (.int .i64) .bool)) a1.1,.sl Y0 a1.2.1,.sl (.sl (.int .i64)) a1.2.2]),(1001,.box 48 [.sl (.int .i64) a2])] ?_
 refine zB [(4,.bool (decide (v0<0)))] [(1000,.box 103 [.sl (.sl (.pair (.int .i64) .bool)) a1.1,.sl Y0 a1.2.1,.sl (.sl (.int .i64)) a1.2.2]),(1001,.box 48 [.sl (.int .i64) a2])] ?_
 refine AW.ret ?_
 obtain rfl:=Option.some.inj h
 exact zR [] [] []
theorem hc_slices_IndexFunc_13 (s:List (Int×Int)) (c0:(List (List (Int×Bool)))×(List (Int×Int×Int))×(List (List Int))) (c1:List Int) {r:Int} (h:slices_IndexFunc_13 s c0 c1=some r):HC Try.prog 145 [(1000,.box 103 [.sl (.sl (.pair (.int .i64) .bool)) c0.1,.sl Y0 c0.2.1,.sl (.sl (.int .i64)) c0.2.2]),(1001,.box 48 [.sl (.int .i64) c1])] [.sl (.pair (.int .i64) (.int .i64)) s,.fn (.func 134) [] [.bp 1000 0,.bp 1001 0]] [(1000,.box 103 [.sl (.sl (.pair (.int .i64) .bool)) c0.1,.sl Y0 c0.2.1,.sl (.sl (.int .i64)) c0.2.2]),(1001,.box 48 [.sl (.int .i64) c1])] (.int .i64 r):=by
 unfold slices_IndexFunc_13 at h
 refine zH Try.func145 [.tmp 4] 19 ?_
 refine zo ?_
 refine zB [(0,.sl (.pair (.int .i64) (.int .i64)) s),(1,.fn (.func 134) [] [.bp 1000 0,.bp 1001 0])] [(1000,.box 103 [.sl (.sl (.pair (.int .i64) .bool)) c0.1,.sl Y0 c0.2.1,.sl (.sl (.int .i64)) c0.2.2]),(1001,.box 48 [.sl (.int .i64) c1])] ?_
 refine AW.have1 (fun _:Unit=>slices_IndexFunc_13_k1=some r) (fun _=>⟨fr [],hpGet [(1000,.box 103 [.sl (.sl (.pair (.int .i64) .bool)) c0.1,.sl Y0 c0.2.1,.sl (.sl (.int .i64)) c0.2.2]),(1001,.box 48 [.sl (.int .i64) c1])],gt⟩) (fun _ h=>?_) (fun hk_slices_IndexFunc_13_k1=>?_)
 ·as_aux_lemma =>
   unfold slices_IndexFunc_13_k1 at h
   refine zo ?_
   refine zB [(4,.int .i64 (-1))] [(1000,.box 103 [.sl (.sl (.pair (.int .i64) .bool)) c0.1,.sl Y0 c0.2.1,.sl (.sl (.int .i64)) c0.2.2]),(1001,.box 48 [.sl (.int .i64) c1])] ?_
   refine AW.ret ?_
   obtain rfl:=Option.some.inj h
   exact zR [] [] []
 ·refine AW.seq ?_
  refine zo ?_
  refine zB [(0,.sl (.pair (.int .i64) (.int .i64)) s),(1,.fn (.func 134) [] [.bp 1000 0,.bp 1001 0]),(7,.int .i64 (s.length:Int)),(8,.int .i64 0)] [(1000,.box 103 [.sl (.sl (.pair (.int .i64) .bool)) c0.1,.sl Y0 c0.2.1,.sl (.sl (.int .i64)) c0.2.2]),(1001,.box 48 [.sl (.int .i64) c1])] ?_
  refine AW.block ?_
  obtain ⟨rv5,hw1,ho2⟩:=Option.bind_eq_some_iff.1 h
  refine AW.loopO (slices_IndexFunc_13_b1 s c0 c1) (fun st1=>⟨fr [(0,.sl (.pair (.int .i64) (.int .i64)) s),(1,.fn (.func 134) [] [.bp 1000 0,.bp 1001 0]),(7,.int .i64 (s.length:Int)),(8,.int .i64 st1)],hpGet [(1000,.box 103 [.sl (.sl (.pair (.int .i64) .bool)) c0.1,.sl Y0 c0.2.1,.sl (.sl (.int .i64)) c0.2.2]),(1001,.box 48 [.sl (.int .i64) c1])],gt⟩) 0 hw1 (zL [] [] []) ?_
  as_aux_lemma =>
   intro st1 x4 h hd3
   unfold slices_IndexFunc_13_b1 at h
   refine zo ?_
   refine zB [(0,.sl (.pair (.int .i64) (.int .i64)) s),(1,.fn (.func 134) [] [.bp 1000 0,.bp 1001 0]),(7,.int .i64 (s.length:Int)),(8,.int .i64 st1),(9,.bool (decide (st1<(s.length:Int))))] [(1000,.box 103 [.sl (.sl (.pair (.int .i64) .bool)) c0.1,.sl Y0 c0.2.1,.sl (.sl (.int .i64)) c0.2.2]),(1001,.box 48 [.sl (.int .i64) c1])] ?_
   refine AW.seq ?_
   refine zQ h (fun hb6 h=>?_) (fun hb6 h=>?_)
   ·refine zk ?_
    refine AW.seq ?_
    refine AW.block ?_
    refine zo ?_
    refine zB [(0,.sl (.pair (.int .i64) (.int .i64)) s),(1,.fn (.func 134) [] [.bp 1000 0,.bp 1001 0]),(5,.int .i64 st1),(7,.int .i64 (s.length:Int)),(8,.int .i64 st1)] [(1000,.box 103 [.sl (.sl (.pair (.int .i64) .bool)) c0.1,.sl Y0 c0.2.1,.sl (.sl (.int .i64)) c0.2.2]),(1001,.box 48 [.sl (.int .i64) c1])] ?_
    refine zo ?_
    obtain ⟨c7,h⟩:=ck_some.1 h
    obtain ⟨c8,h⟩:=ck_some.1 h
    refine zS 5 [(0,.sl (.pair (.int .i64) (.int .i64)) s),(1,.fn (.func 134) [] [.bp 1000 0,.bp 1001 0]),(5,.int .i64 st1),(7,.int .i64 (s.length:Int)),(8,.int .i64 st1),(11,.fn (.func 134) [] [.bp 1000 0,.bp 1001 0]),(15,.agg [.int .i64 (s.getD st1.toNat (0,0)).1,.int .i64 (s.getD st1.toNat (0,0)).2])] [(1000,.box 103 [.sl (.sl (.pair (.int .i64) .bool)) c0.1,.sl Y0 c0.2.1,.sl (.sl (.int .i64)) c0.2.2]),(1001,.box 48 [.sl (.int .i64) c1])] ?_
    obtain ⟨v0,hv9,h⟩:=Option.bind_eq_some_iff.1 h
    refine zC [] [(1000,1000),(1001,1001)] (hc_delay_offer_isProved_1 (s.getD st1.toNat (0,0)) c0 c1 hv9) [(0,.sl (.pair (.int .i64) (.int .i64)) s),(1,.fn (.func 134) [] [.bp 1000 0,.bp 1001 0]),(5,.int .i64 st1),(7,.int .i64 (s.length:Int)),(8,.int .i64 st1),(16,.bool v0)] [(1000,.box 103 [.sl (.sl (.pair (.int .i64) .bool)) c0.1,.sl Y0 c0.2.1,.sl (.sl (.int .i64)) c0.2.2]),(1001,.box 48 [.sl (.int .i64) c1])] ?_
    refine zB [(0,.sl (.pair (.int .i64) (.int .i64)) s),(1,.fn (.func 134) [] [.bp 1000 0,.bp 1001 0]),(5,.int .i64 st1),(7,.int .i64 (s.length:Int)),(8,.int .i64 st1),(16,.bool v0)] [(1000,.box 103 [.sl (.sl (.pair (.int .i64) .bool)) c0.1,.sl Y0 c0.2.1,.sl (.sl (.int .i64)) c0.2.2]),(1001,.box 48 [.sl (.int .i64) c1])] ?_
    refine zQ h (fun hb10 h=>?_) (fun hb10 h=>?_)
    ·refine zo ?_
     refine zB [(4,.int .i64 st1)] [(1000,.box 103 [.sl (.sl (.pair (.int .i64) .bool)) c0.1,.sl Y0 c0.2.1,.sl (.sl (.int .i64)) c0.2.2]),(1001,.box 48 [.sl (.int .i64) c1])] ?_
     refine AW.ret ?_
     refine ablock_r ?_
     refine athen_r ?_
     obtain rfl:=Option.some.inj h
     rw [← hd3 _ rfl] at ho2
     have h:=ho2
     try simp only at h
     refine athen_r ?_
     refine ablock_r ?_
     refine athen_r ?_
     obtain rfl:=Option.some.inj h
     exact zR [] [] []
    ·refine zm ?_
     refine athen_n ?_
     refine AW.ops ?_
     obtain ⟨c11,h⟩:=ck_some.1 h
     refine zA [(0,.sl (.pair (.int .i64) (.int .i64)) s),(1,.fn (.func 134) [] [.bp 1000 0,.bp 1001 0]),(7,.int .i64 (s.length:Int)),(8,.int .i64 (st1+1))] [(1000,.box 103 [.sl (.sl (.pair (.int .i64) .bool)) c0.1,.sl Y0 c0.2.1,.sl (.sl (.int .i64)) c0.2.2]),(1001,.box 48 [.sl (.int .i64) c1])] ?_
     obtain rfl:=Option.some.inj h
     exact ⟨_,rfl,zL [] [] []⟩
   ·refine AW.exit ?_
    refine athen_e ?_
    obtain rfl:=Option.some.inj h
    try rw [← hd3 _ rfl] at ho2
    have h:=ho2
    try simp only at h
    refine athen_e ?_
    refine ablock_s ?_
    refine athen_n ?_
    exact AW.weaken (zL [] [] []) (hk_slices_IndexFunc_13_k1 () h)
theorem hc_slices_ContainsFunc_9 (s:List (Int×Int)) (c0:(List (List (Int×Bool)))×(List (Int×Int×Int))×(List (List Int))) (c1:List Int) {r:Bool} (h:slices_ContainsFunc_9 s c0 c1=some r):HC Try.prog 117 [(1000,.box 103 [.sl (.sl (.pair (.int .i64) .bool)) c0.1,.sl Y0 c0.2.1,.sl (.sl (.int .i64)) c0.2.2]),(1001,.box 48 [.sl (.int .i64) c1])] [.sl (.pair (.int .i64) (.int .i64)) s,.fn (.func 134) [] [.bp 1000 0,.bp 1001 0]] [(1000,.box 103 [.sl (.sl (.pair (.int .i64) .bool)) c0.1,.sl Y0 c0.2.1,.sl (.sl (.int .i64)) c0.2.2]),(1001,.box 48 [.sl (.int .i64) c1])] (.bool r):=by
 unfold slices_ContainsFunc_9 at h
 refine zH Try.func117 [.tmp 4] 9 ?_
 refine zo ?_
 refine zB [(0,.sl (.pair (.int .i64) (.int .i64)) s),(1,.fn (.func 134) [] [.bp 1000 0,.bp 1001 0])] [(1000,.box 103 [.sl (.sl (.pair (.int .i64) .bool)) c0.1,.sl Y0 c0.2.1,.sl (.sl (.int .i64)) c0.2.2]),(1001,.box 48 [.sl (.int .i64) c1])] ?_
 refine zo ?_
 refine zS 2 [(5,.sl (.pair (.int .i64) (.int .i64)) s),(6,.fn (.func 134) [] [.bp 1000 0,.bp 1001 0])] [(1000,.box 103 [.sl (.sl (.pair (.int .i64) .bool)) c0.1,.sl Y0 c0.2.1,.sl (.sl (.int .i64)) c0.2.2]),(1001,.box 48 [.sl (.int .i64) c1])] ?_
 obtain ⟨v0,hv1,h⟩:=Option.bind_eq_some_iff.1 h
 refine zC [] [(1000,1000),(1001,1001)] (hc_slices_IndexFunc_13 s c0 c1 hv1) [(7,.int .i64 v0)] [(1000,.box 103 [.sl (.sl (.pair (.int .i64) .bool)) c0.1,.sl Y0 c0.2.1,.sl (.sl (.int .i64)) c0.2.2]),(1001,.box 48 [.sl (.int .i64) c1])] ?_
 refine zB [(4,.bool (decide (0≤v0)))] [(1000,.box 103 [.sl (.sl (.pair (.int .i64) .bool)) c0.1,.sl Y0 c0.2.1,.sl (.sl (.int .i64)) c0.2.2]),(1001,.box 48 [.sl (.int .i64) c1])] ?_
 refine AW.ret ?_
 obtain rfl:=Option.some.inj h
 exact zR [] [] []
theorem hc_delay_offer_isProved (o:(List (List (Int×Bool)))×(List (Int×Int×Int))×(List (List Int))) (prices:List Int) (cost:Int) {r:Bool} (h:delay_offer_isProved o prices cost=some r):HC Try.prog 97 [] [.agg [.sl (.sl (.pair (.int .i64) .bool)) o.1,.sl Y0 o.2.1,.sl (.sl (.int .i64)) o.2.2],.sl (.int .i64) prices,.int .i64 cost] [] (.bool r):=by
 unfold delay_offer_isProved at h
 refine zH Try.func97 [.tmp 6] 33 ?_
 refine zo ?_
 refine zB [(2,.int .i64 cost),(3,.bp 3 0),(4,.bp 4 0)] [(3,.box 103 [.sl (.sl (.pair (.int .i64) .bool)) o.1,.sl Y0 o.2.1,.sl (.sl (.int .i64)) o.2.2]),(4,.box 48 [.sl (.int .i64) prices])] ?_
 refine zo ?_
 refine zB [(2,.int .i64 cost),(3,.bp 3 0),(4,.bp 4 0),(7,.fn (.func 134) [] [.bp 3 0,.bp 4 0])] [(3,.box 103 [.sl (.sl (.pair (.int .i64) .bool)) o.1,.sl Y0 o.2.1,.sl (.sl (.int .i64)) o.2.2]),(4,.box 48 [.sl (.int .i64) prices])] ?_
 refine zo ?_
 refine zB [(2,.int .i64 cost),(3,.bp 3 0),(4,.bp 4 0),(7,.fn (.func 134) [] [.bp 3 0,.bp 4 0]),(8,.int .i64 0)] [(3,.box 103 [.sl (.sl (.pair (.int .i64) .bool)) o.1,.sl Y0 o.2.1,.sl (.sl (.int .i64)) o.2.2]),(4,.box 48 [.sl (.int .i64) prices])] ?_
 refine AW.have1 (fun b1:Int=>delay_offer_isProved_k1 o prices cost b1=some r) (fun b1=>⟨fr [(2,.int .i64 cost),(3,.bp 3 0),(7,.fn (.func 134) [] [.bp 3 0,.bp 4 0]),(8,.int .i64 b1)],hpGet [(3,.box 103 [.sl (.sl (.pair (.int .i64) .bool)) o.1,.sl Y0 o.2.1,.sl (.sl (.int .i64)) o.2.2]),(4,.box 48 [.sl (.int .i64) prices])],gt⟩) (fun b1 h=>?_) (fun hk_delay_offer_isProved_k1=>?_)
 ·as_aux_lemma =>
   unfold delay_offer_isProved_k1 at h
   refine zo ?_
   refine zS 4 [(3,.bp 3 0),(7,.fn (.func 134) [] [.bp 3 0,.bp 4 0]),(25,.bool (decide (cost≤b1)))] [(3,.box 103 [.sl (.sl (.pair (.int .i64) .bool)) o.1,.sl Y0 o.2.1,.sl (.sl (.int .i64)) o.2.2]),(4,.box 48 [.sl (.int .i64) prices])] ?_
   rcases zI h with ⟨hb1,h⟩|⟨hb1,h⟩
   ·refine zS 2 [(7,.fn (.func 134) [] [.bp 3 0,.bp 4 0]),(25,.bool true),(27,.sl (.sl (.pair (.int .i64) .bool)) o.1)] [(3,.box 103 [.sl (.sl (.pair (.int .i64) .bool)) o.1,.sl Y0 o.2.1,.sl (.sl (.int .i64)) o.2.2]),(4,.box 48 [.sl (.int .i64) prices])] ?_
    obtain ⟨v0,hv2,h⟩:=Option.bind_eq_some_iff.1 h
    refine zG [] [] (hc_delay_accesses_fences o.1 hv2) [(7,.fn (.func 134) [] [.bp 3 0,.bp 4 0]),(25,.bool true),(28,.own 38000)] [(3,.box 103 [.sl (.sl (.pair (.int .i64) .bool)) o.1,.sl Y0 o.2.1,.sl (.sl (.int .i64)) o.2.2]),(4,.box 48 [.sl (.int .i64) prices]),(38000,.arr 110 (.pair (.int .i64) (.int .i64)) v0)] ?_
    refine zS 1 [(25,.bool true),(28,.own 38000),(29,.fn (.func 134) [] [.bp 3 0,.bp 4 0])] [(3,.box 103 [.sl (.sl (.pair (.int .i64) .bool)) o.1,.sl Y0 o.2.1,.sl (.sl (.int .i64)) o.2.2]),(4,.box 48 [.sl (.int .i64) prices]),(38000,.arr 110 (.pair (.int .i64) (.int .i64)) v0)] ?_
    obtain ⟨v0_2,hv3,h⟩:=Option.bind_eq_some_iff.1 h
    refine zG [38000] [(1000,3),(1001,4)] (hc_slices_ContainsFunc_9 v0 o prices hv3) [(25,.bool true),(30,.bool v0_2)] [] ?_
    refine zB [(6,.bool (!v0_2))] [] ?_
    refine AW.ret ?_
    obtain rfl:=Option.some.inj h
    exact zR [] [] []
   ·refine zS 4 [(25,.bool false),(28,.cv (undef)),(29,.cv (undef))] [] ?_
    refine zB [(6,.bool false)] [] ?_
    refine AW.ret ?_
    obtain rfl:=Option.some.inj h
    exact zR [] [] []
 ·refine AW.seq ?_
  refine zo ?_
  refine zB [(2,.int .i64 cost),(3,.bp 3 0),(7,.fn (.func 134) [] [.bp 3 0,.bp 4 0]),(8,.int .i64 0),(12,.sl (.int .i64) prices),(13,.int .i64 (prices.length:Int)),(14,.int .i64 0)] [(3,.box 103 [.sl (.sl (.pair (.int .i64) .bool)) o.1,.sl Y0 o.2.1,.sl (.sl (.int .i64)) o.2.2]),(4,.box 48 [.sl (.int .i64) prices])] ?_
  refine AW.block ?_
  obtain ⟨rv8,hw4,ho5⟩:=Option.bind_eq_some_iff.1 h
  refine AW.loopO (delay_offer_isProved_b1 prices) (fun st1=>⟨fr [(2,.int .i64 cost),(3,.bp 3 0),(7,.fn (.func 134) [] [.bp 3 0,.bp 4 0]),(8,.int .i64 st1.1),(12,.sl (.int .i64) prices),(13,.int .i64 (prices.length:Int)),(14,.int .i64 st1.2)],hpGet [(3,.box 103 [.sl (.sl (.pair (.int .i64) .bool)) o.1,.sl Y0 o.2.1,.sl (.sl (.int .i64)) o.2.2]),(4,.box 48 [.sl (.int .i64) prices])],gt⟩) (0,0) hw4 (zL [] [] []) ?_
  as_aux_lemma =>
   intro st1 x7 h hd6
   unfold delay_offer_isProved_b1 at h
   refine zo ?_
   refine zB [(2,.int .i64 cost),(3,.bp 3 0),(7,.fn (.func 134) [] [.bp 3 0,.bp 4 0]),(8,.int .i64 st1.1),(12,.sl (.int .i64) prices),(13,.int .i64 (prices.length:Int)),(14,.int .i64 st1.2),(15,.bool (decide (st1.2<(prices.length:Int))))] [(3,.box 103 [.sl (.sl (.pair (.int .i64) .bool)) o.1,.sl Y0 o.2.1,.sl (.sl (.int .i64)) o.2.2]),(4,.box 48 [.sl (.int .i64) prices])] ?_
   refine AW.seq ?_
   refine zQ h (fun hb9 h=>?_) (fun hb9 h=>?_)
   ·refine zk ?_
    refine AW.seq ?_
    refine AW.block ?_
    refine zo ?_
    obtain ⟨c10,h⟩:=ck_some.1 h
    obtain ⟨c11,h⟩:=ck_some.1 h
    refine zB [(2,.int .i64 cost),(3,.bp 3 0),(7,.fn (.func 134) [] [.bp 3 0,.bp 4 0]),(8,.int .i64 st1.1),(10,.int .i64 (prices.getD st1.2.toNat 0)),(12,.sl (.int .i64) prices),(13,.int .i64 (prices.length:Int)),(14,.int .i64 st1.2)] [(3,.box 103 [.sl (.sl (.pair (.int .i64) .bool)) o.1,.sl Y0 o.2.1,.sl (.sl (.int .i64)) o.2.2]),(4,.box 48 [.sl (.int .i64) prices])] ?_
    refine AW.ops ?_
    obtain ⟨c12,h⟩:=ck_some.1 h
    refine zA [(2,.int .i64 cost),(3,.bp 3 0),(7,.fn (.func 134) [] [.bp 3 0,.bp 4 0]),(8,.int .i64 (st1.1+(prices.getD st1.2.toNat 0))),(12,.sl (.int .i64) prices),(13,.int .i64 (prices.length:Int)),(14,.int .i64 st1.2)] [(3,.box 103 [.sl (.sl (.pair (.int .i64) .bool)) o.1,.sl Y0 o.2.1,.sl (.sl (.int .i64)) o.2.2]),(4,.box 48 [.sl (.int .i64) prices])] ?_
    refine ablock_n ?_
    refine athen_n ?_
    refine AW.ops ?_
    obtain ⟨c13,h⟩:=ck_some.1 h
    refine zA [(2,.int .i64 cost),(3,.bp 3 0),(7,.fn (.func 134) [] [.bp 3 0,.bp 4 0]),(8,.int .i64 (st1.1+(prices.getD st1.2.toNat 0))),(12,.sl (.int .i64) prices),(13,.int .i64 (prices.length:Int)),(14,.int .i64 (st1.2+1))] [(3,.box 103 [.sl (.sl (.pair (.int .i64) .bool)) o.1,.sl Y0 o.2.1,.sl (.sl (.int .i64)) o.2.2]),(4,.box 48 [.sl (.int .i64) prices])] ?_
    obtain rfl:=Option.some.inj h
    exact ⟨_,rfl,zL [] [] []⟩
   ·refine AW.exit ?_
    refine athen_e ?_
    obtain rfl:=Option.some.inj h
    rw [← hd6 _ rfl] at ho5
    have h:=ho5
    refine athen_e ?_
    refine ablock_s ?_
    refine athen_n ?_
    exact AW.weaken (zL [] [] []) (hk_delay_offer_isProved_k1 _ h)
theorem hc_delay_Prove (x0:List (List (Int×Bool))) (costs:List (List Int)) (prices:List Int) (cost:Int) {r:Bool×Int} (h:delay_Prove x0 costs prices cost=some r):HC Try.prog 45 [] [.sl (.sl (.pair (.int .i64) .bool)) x0,.sl (.sl (.int .i64)) costs,.sl (.int .i64) prices,.int .i64 cost] [] (.tup [.bool r.1,.int .i64 r.2]):=by
 unfold delay_Prove at h
 refine zH Try.func45 [.tmp 8,.tmp 9] 34 ?_
 refine zo ?_
 refine zB [(0,.sl (.sl (.pair (.int .i64) .bool)) x0),(1,.sl (.sl (.int .i64)) costs),(2,.sl (.int .i64) prices),(3,.int .i64 cost)] [] ?_
 refine zo ?_
 refine zS 2 [(2,.sl (.int .i64) prices),(3,.int .i64 cost),(13,.sl (.sl (.pair (.int .i64) .bool)) x0),(14,.sl (.sl (.int .i64)) costs)] [] ?_
 obtain ⟨v0,hv1,h⟩:=Option.bind_eq_some_iff.1 h
 refine zC [] [] (hc_delay_offerOf x0 costs hv1) [(2,.sl (.int .i64) prices),(3,.int .i64 cost),(15,.tup [.agg [.sl (.sl (.pair (.int .i64) .bool)) v0.1,.own 25000,.sl (.sl (.int .i64)) v0.2.2.1],.int .i64 v0.2.2.2])] [(25000,.arr 35 Y0 v0.2.1)] ?_
 refine AO.weaken (s':=⟨fr [(2,.sl (.int .i64) prices),(3,.int .i64 cost),(15,.tup [.agg [.sl (.sl (.pair (.int .i64) .bool)) v0.1,.sl Y0 v0.2.1,.sl (.sl (.int .i64)) v0.2.2.1],.int .i64 v0.2.2.2])],hpGet [],gt⟩) (zL [25000] [] []) ?_
 refine zS 5 [(2,.sl (.int .i64) prices),(3,.int .i64 cost),(10,.bp 10 0),(17,.int .i64 v0.2.2.2)] [(10,.box 103 [.sl (.sl (.pair (.int .i64) .bool)) v0.1,.sl Y0 v0.2.1,.sl (.sl (.int .i64)) v0.2.2.1])] ?_
 refine zB [(2,.sl (.int .i64) prices),(3,.int .i64 cost),(10,.bp 10 0),(11,.int .i64 v0.2.2.2)] [(10,.box 103 [.sl (.sl (.pair (.int .i64) .bool)) v0.1,.sl Y0 v0.2.1,.sl (.sl (.int .i64)) v0.2.2.1])] ?_
 refine AW.seq ?_
 refine zo ?_
 refine zB [(2,.sl (.int .i64) prices),(3,.int .i64 cost),(10,.bp 10 0),(11,.int .i64 v0.2.2.2),(19,.bool (!(decide (v0.2.2.2=0))))] [(10,.box 103 [.sl (.sl (.pair (.int .i64) .bool)) v0.1,.sl Y0 v0.2.1,.sl (.sl (.int .i64)) v0.2.2.1])] ?_
 refine zQ h (fun hb2 h=>?_) (fun hb2 h=>?_)
 ·refine zo ?_
  refine zB [(8,.bool false),(9,.int .i64 v0.2.2.2)] [] ?_
  refine zr ?_
  obtain rfl:=Option.some.inj h
  exact zR [] [] []
 ·refine zk ?_
  refine AW.seq ?_
  refine zo ?_
  refine zS 2 [(2,.sl (.int .i64) prices),(3,.int .i64 cost),(10,.bp 10 0),(21,.agg [.sl (.sl (.pair (.int .i64) .bool)) v0.1,.sl Y0 v0.2.1,.sl (.sl (.int .i64)) v0.2.2.1]),(22,.sl (.int .i64) prices)] [(10,.box 103 [.sl (.sl (.pair (.int .i64) .bool)) v0.1,.sl Y0 v0.2.1,.sl (.sl (.int .i64)) v0.2.2.1])] ?_
  obtain ⟨v0_2,hv3,h⟩:=Option.bind_eq_some_iff.1 h
  refine zC [] [] (hc_delay_offer_arePrices (v0.1,v0.2.1,v0.2.2.1) prices hv3) [(2,.sl (.int .i64) prices),(3,.int .i64 cost),(10,.bp 10 0),(23,.bool v0_2)] [(10,.box 103 [.sl (.sl (.pair (.int .i64) .bool)) v0.1,.sl Y0 v0.2.1,.sl (.sl (.int .i64)) v0.2.2.1])] ?_
  refine zS 2 [(2,.sl (.int .i64) prices),(3,.int .i64 cost),(10,.bp 10 0),(25,.bool (!v0_2))] [(10,.box 103 [.sl (.sl (.pair (.int .i64) .bool)) v0.1,.sl Y0 v0.2.1,.sl (.sl (.int .i64)) v0.2.2.1])] ?_
  rcases zI h with ⟨hb4,h⟩|⟨hb4,h⟩
  ·refine zB [(2,.sl (.int .i64) prices),(3,.int .i64 cost),(10,.bp 10 0),(29,.bool true)] [(10,.box 103 [.sl (.sl (.pair (.int .i64) .bool)) v0.1,.sl Y0 v0.2.1,.sl (.sl (.int .i64)) v0.2.2.1])] ?_
   refine AW.cond (b:=true) rfl (fun _=>?_) (fun hb5=>by cases hb5)
   refine zo ?_
   refine zB [(8,.bool false),(9,.int .i64 2)] [] ?_
   refine zr ?_
   obtain rfl:=Option.some.inj h
   exact zR [] [] []
  ·refine zS 1 [(2,.sl (.int .i64) prices),(3,.int .i64 cost),(10,.bp 10 0),(25,.bool false),(26,.int .i64 cost)] [(10,.box 103 [.sl (.sl (.pair (.int .i64) .bool)) v0.1,.sl Y0 v0.2.1,.sl (.sl (.int .i64)) v0.2.2.1])] ?_
   obtain ⟨v0_3,hv6,h⟩:=Option.bind_eq_some_iff.1 h
   refine zG [] [] (hc_delay_isBelow cost 1001 hv6) [(2,.sl (.int .i64) prices),(3,.int .i64 cost),(10,.bp 10 0),(25,.bool false),(27,.bool v0_3)] [(10,.box 103 [.sl (.sl (.pair (.int .i64) .bool)) v0.1,.sl Y0 v0.2.1,.sl (.sl (.int .i64)) v0.2.2.1])] ?_
   refine zB [(2,.sl (.int .i64) prices),(3,.int .i64 cost),(10,.bp 10 0),(29,.bool (!v0_3))] [(10,.box 103 [.sl (.sl (.pair (.int .i64) .bool)) v0.1,.sl Y0 v0.2.1,.sl (.sl (.int .i64)) v0.2.2.1])] ?_
   refine zQ h (fun hb7 h=>?_) (fun hb7 h=>?_)
   ·refine zo ?_
    refine zB [(8,.bool false),(9,.int .i64 2)] [] ?_
    refine zr ?_
    obtain rfl:=Option.some.inj h
    exact zR [] [] []
   ·refine zk ?_
    refine zo ?_
    refine zS 3 [(30,.agg [.sl (.sl (.pair (.int .i64) .bool)) v0.1,.sl Y0 v0.2.1,.sl (.sl (.int .i64)) v0.2.2.1]),(31,.sl (.int .i64) prices),(32,.int .i64 cost)] [] ?_
    obtain ⟨v0_4,hv8,h⟩:=Option.bind_eq_some_iff.1 h
    refine zC [] [] (hc_delay_offer_isProved (v0.1,v0.2.1,v0.2.2.1) prices cost hv8) [(33,.bool v0_4)] [] ?_
    refine zB [(8,.bool v0_4),(9,.int .i64 0)] [] ?_
    refine AW.ret ?_
    obtain rfl:=Option.some.inj h
    exact zR [] [] []
end Go.Proofs.Ytdicomoggfhbfaa
