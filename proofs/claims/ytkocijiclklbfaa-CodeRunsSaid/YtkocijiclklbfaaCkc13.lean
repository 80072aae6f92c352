import Derived.Test.YtkocijiclklbfaaCkp
import Derived.Test.YtkocijiclklbfaaShk
import Derived.Test.YtkocijiclklbfaaCkc12
import Derived.Test.YtkocijiclklbfaaCkc3
import Derived.Test.YtkocijiclklbfaaCkc6
namespace Go.Proofs.Ytkocijiclklbfaa
open Go.RowKit
set_option linter.unusedSimpArgs false
set_option linter.unusedVariables false
set_option linter.constructorNameAsVariable false
set_option maxRecDepth 100000
set_option maxHeartbeats 40000000
theorem hc_linealref02_Same (a:ZH) (b:ZH) {r:Bool} (h:linealref02_Same a b=some r):HC Try.prog 12 [] [.sl (.pair (.int .i64) (.pair (.int .i64) (.pair (.int .i64) (.pair (.int .i64) (.pair (.int .i64) (.int .i64)))))) a,.sl (.pair (.int .i64) (.pair (.int .i64) (.pair (.int .i64) (.pair (.int .i64) (.pair (.int .i64) (.int .i64)))))) b] [] (.bool r):=by
 unfold linealref02_Same at h
 refine zH Try.func12 [.tmp 4] 26 ?_
 refine zo ?_
 refine zB [(0,.sl (.pair (.int .i64) (.pair (.int .i64) (.pair (.int .i64) (.pair (.int .i64) (.pair (.int .i64) (.int .i64)))))) a),(1,.sl (.pair (.int .i64) (.pair (.int .i64) (.pair (.int .i64) (.pair (.int .i64) (.pair (.int .i64) (.int .i64)))))) b)] [] ?_
 refine AW.seq ?_
 refine zo ?_
 refine zB [(0,.sl (.pair (.int .i64) (.pair (.int .i64) (.pair (.int .i64) (.pair (.int .i64) (.pair (.int .i64) (.int .i64)))))) a),(1,.sl (.pair (.int .i64) (.pair (.int .i64) (.pair (.int .i64) (.pair (.int .i64) (.pair (.int .i64) (.int .i64)))))) b),(10,.bool (!(decide ((a.length:Int)=(b.length:Int)))))] [] ?_
 refine zQ h (fun hb1 h=>?_) (fun hb1 h=>?_)
 ·refine zo ?_
  refine zB [(4,.bool false)] [] ?_
  refine zr ?_
  obtain rfl:=Option.some.inj h
  exact zR [] [] []
 ·refine zk ?_
  refine AW.have1 (fun _:Unit=>linealref02_Same_k1=some r) (fun _=>⟨fr [],hpGet [],gt⟩) (fun _ h=>?_) (fun hk_linealref02_Same_k1=>?_)
  ·as_aux_lemma =>
    unfold linealref02_Same_k1 at h
    refine zo ?_
    refine zB [(4,.bool true)] [] ?_
    refine AW.ret ?_
    obtain rfl:=Option.some.inj h
    exact zR [] [] []
  ·refine AW.seq ?_
   refine zo ?_
   refine zB [(0,.sl (.pair (.int .i64) (.pair (.int .i64) (.pair (.int .i64) (.pair (.int .i64) (.pair (.int .i64) (.int .i64)))))) a),(1,.sl (.pair (.int .i64) (.pair (.int .i64) (.pair (.int .i64) (.pair (.int .i64) (.pair (.int .i64) (.int .i64)))))) b),(5,.int .i64 0)] [] ?_
   refine AW.block ?_
   obtain ⟨rv6,hw2,ho3⟩:=Option.bind_eq_some_iff.1 h
   refine AW.loopO (linealref02_Same_b1 a b) (fun st1=>⟨fr [(0,.sl (.pair (.int .i64) (.pair (.int .i64) (.pair (.int .i64) (.pair (.int .i64) (.pair (.int .i64) (.int .i64)))))) a),(1,.sl (.pair (.int .i64) (.pair (.int .i64) (.pair (.int .i64) (.pair (.int .i64) (.pair (.int .i64) (.int .i64)))))) b),(5,.int .i64 st1)],hpGet [],gt⟩) 0 hw2 (zL [] [] []) ?_
   as_aux_lemma =>
    intro st1 x5 h hd4
    unfold linealref02_Same_b1 at h
    refine AW.seq ?_
    refine zo ?_
    refine zB [(0,.sl (.pair (.int .i64) (.pair (.int .i64) (.pair (.int .i64) (.pair (.int .i64) (.pair (.int .i64) (.int .i64)))))) a),(1,.sl (.pair (.int .i64) (.pair (.int .i64) (.pair (.int .i64) (.pair (.int .i64) (.pair (.int .i64) (.int .i64)))))) b),(5,.int .i64 st1),(14,.bool (decide (st1<(a.length:Int))))] [] ?_
    refine zQ h (fun hb7 h=>?_) (fun hb7 h=>?_)
    ·refine zk ?_
     refine AW.seq ?_
     refine AW.block ?_
     refine AW.seq ?_
     refine AW.drawTail tab_ok mixed_ok 8 [] [] (by decide) (by kernel_rfl) (by kernel_rfl) (by decide) ?_
     dsimp only [List.take_succ_cons,List.take_zero]
     obtain ⟨c9,h⟩:=ck_some.1 h
     obtain ⟨c10,h⟩:=ck_some.1 h
     refine adops_cut 6 (fun K' hK8=>?_)
     try dsimp only [List.drop_succ_cons,List.drop_zero,List.take_succ_cons,List.take_zero]
     simp only [go_sem,hb1,hb7]
     repeat with_reducible refine zN ?_
     refine hK8 _ ?_
     as_aux_lemma =>
      obtain ⟨c12,h⟩:=ck_some.1 h
      obtain ⟨c13,h⟩:=ck_some.1 h
      refine adops_cut 2 (fun K' hK11=>?_)
      try dsimp only [List.drop_succ_cons,List.drop_zero,List.take_succ_cons,List.take_zero]
      simp only [go_sem,hb1,hb7]
      repeat with_reducible refine zN ?_
      refine hK11 _ ?_
      refine adops_nil ?_
      refine zT [(0,.sl (.pair (.int .i64) (.pair (.int .i64) (.pair (.int .i64) (.pair (.int .i64) (.pair (.int .i64) (.int .i64)))))) a),(1,.sl (.pair (.int .i64) (.pair (.int .i64) (.pair (.int .i64) (.pair (.int .i64) (.pair (.int .i64) (.int .i64)))))) b),(5,.int .i64 st1),(20,.agg [.int .i64 (a.getD st1.toNat (0,0,0,0,0,0)).1,.int .i64 (a.getD st1.toNat (0,0,0,0,0,0)).2.1,.int .i64 (a.getD st1.toNat (0,0,0,0,0,0)).2.2.1,.int .i64 (a.getD st1.toNat (0,0,0,0,0,0)).2.2.2.1,.int .i64 (a.getD st1.toNat (0,0,0,0,0,0)).2.2.2.2.1,.int .i64 (a.getD st1.toNat (0,0,0,0,0,0)).2.2.2.2.2]),(24,.agg [.int .i64 (b.getD st1.toNat (0,0,0,0,0,0)).1,.int .i64 (b.getD st1.toNat (0,0,0,0,0,0)).2.1,.int .i64 (b.getD st1.toNat (0,0,0,0,0,0)).2.2.1,.int .i64 (b.getD st1.toNat (0,0,0,0,0,0)).2.2.2.1,.int .i64 (b.getD st1.toNat (0,0,0,0,0,0)).2.2.2.2.1,.int .i64 (b.getD st1.toNat (0,0,0,0,0,0)).2.2.2.2.2])] [] gt ?_
      obtain ⟨c14,h⟩:=ck_some.1 h
      obtain ⟨c15,h⟩:=ck_some.1 h
      obtain ⟨c16,h⟩:=ck_some.1 h
      obtain ⟨c17,h⟩:=ck_some.1 h
      obtain ⟨c18,h⟩:=ck_some.1 h
      obtain ⟨c19,h⟩:=ck_some.1 h
      obtain ⟨c20,h⟩:=ck_some.1 h
      obtain ⟨c21,h⟩:=ck_some.1 h
      obtain ⟨c22,h⟩:=ck_some.1 h
      obtain ⟨c23,h⟩:=ck_some.1 h
      obtain ⟨c24,h⟩:=ck_some.1 h
      obtain ⟨c25,h⟩:=ck_some.1 h
      refine AO.aggEq (neg:=true) eqty_49 (by decide) rfl rfl (lx:=[.int .i64 (a.getD st1.toNat (0,0,0,0,0,0)).1,.int .i64 (a.getD st1.toNat (0,0,0,0,0,0)).2.1,.int .i64 (a.getD st1.toNat (0,0,0,0,0,0)).2.2.1,.int .i64 (a.getD st1.toNat (0,0,0,0,0,0)).2.2.2.1,.int .i64 (a.getD st1.toNat (0,0,0,0,0,0)).2.2.2.2.1,.int .i64 (a.getD st1.toNat (0,0,0,0,0,0)).2.2.2.2.2]) (ly:=[.int .i64 (b.getD st1.toNat (0,0,0,0,0,0)).1,.int .i64 (b.getD st1.toNat (0,0,0,0,0,0)).2.1,.int .i64 (b.getD st1.toNat (0,0,0,0,0,0)).2.2.1,.int .i64 (b.getD st1.toNat (0,0,0,0,0,0)).2.2.2.1,.int .i64 (b.getD st1.toNat (0,0,0,0,0,0)).2.2.2.2.1,.int .i64 (b.getD st1.toNat (0,0,0,0,0,0)).2.2.2.2.2]) (by first|rfl|(simp only [go_sem,hb1,hb7])<;>(with_reducible and_intros)<;>first|assumption|rfl|omega|(unfold maxLen; omega)) (by first|rfl|(simp only [go_sem,hb1,hb7])<;>(with_reducible and_intros)<;>first|assumption|rfl|omega|(unfold maxLen; omega)) (by first|rfl|(simp only [go_sem,hb1,hb7])<;>(with_reducible and_intros)<;>first|assumption|rfl|omega|(unfold maxLen; omega)) (by first|rfl|(simp only [go_sem,hb1,hb7])<;>(with_reducible and_intros)<;>first|assumption|rfl|omega|(unfold maxLen; omega)) (by first|assumption|omega|(simp only [go_sem,hb1,hb7])<;>(with_reducible and_intros)<;>first|assumption|rfl|omega|(unfold maxLen; omega)) (by first|assumption|omega|(simp only [go_sem,hb1,hb7])<;>(with_reducible and_intros)<;>first|assumption|rfl|omega|(unfold maxLen; omega)) ?_
      refine zT [(0,.sl (.pair (.int .i64) (.pair (.int .i64) (.pair (.int .i64) (.pair (.int .i64) (.pair (.int .i64) (.int .i64)))))) a),(1,.sl (.pair (.int .i64) (.pair (.int .i64) (.pair (.int .i64) (.pair (.int .i64) (.pair (.int .i64) (.int .i64)))))) b),(5,.int .i64 st1),(25,.bool (!(decide ((a.getD st1.toNat (0,0,0,0,0,0))=(b.getD st1.toNat (0,0,0,0,0,0))))))] [] gt ?_
      refine zB [(0,.sl (.pair (.int .i64) (.pair (.int .i64) (.pair (.int .i64) (.pair (.int .i64) (.pair (.int .i64) (.int .i64)))))) a),(1,.sl (.pair (.int .i64) (.pair (.int .i64) (.pair (.int .i64) (.pair (.int .i64) (.pair (.int .i64) (.int .i64)))))) b),(5,.int .i64 st1),(25,.bool (!(decide ((a.getD st1.toNat (0,0,0,0,0,0))=(b.getD st1.toNat (0,0,0,0,0,0))))))] [] ?_
      refine zQ h (fun hb26 h=>?_) (fun hb26 h=>?_)
      ·refine zo ?_
       refine zB [(4,.bool false)] [] ?_
       refine AW.ret ?_
       refine ablock_r ?_
       refine athen_r ?_
       obtain rfl:=Option.some.inj h
       try rw [← hd4 _ rfl] at ho3
       have h:=ho3
       try simp only at h
       refine athen_r ?_
       refine ablock_r ?_
       refine athen_r ?_
       obtain rfl:=Option.some.inj h
       exact zR [] [] []
      ·refine zm ?_
       refine athen_n ?_
       refine AW.ops ?_
       obtain ⟨c27,h⟩:=ck_some.1 h
       refine zA [(0,.sl (.pair (.int .i64) (.pair (.int .i64) (.pair (.int .i64) (.pair (.int .i64) (.pair (.int .i64) (.int .i64)))))) a),(1,.sl (.pair (.int .i64) (.pair (.int .i64) (.pair (.int .i64) (.pair (.int .i64) (.pair (.int .i64) (.int .i64)))))) b),(5,.int .i64 (st1+1))] [] ?_
       obtain rfl:=Option.some.inj h
       exact ⟨_,rfl,zL [] [] []⟩
    ·refine AW.exit ?_
     refine athen_e ?_
     obtain rfl:=Option.some.inj h
     try rw [← hd4 _ rfl] at ho3
     have h:=ho3
     try simp only at h
     refine athen_e ?_
     refine ablock_s ?_
     refine athen_n ?_
     exact AW.weaken (zL [] [] []) (hk_linealref02_Same_k1 () h)
theorem hc_slices_Clone_2 (s:List Int) {r:(List Int)} (h:slices_Clone_2 s=some r):HC Try.prog 29 [] [.sl (.int .i64) s] [(2000,.arr 3 (.int .i64) r)] (.own 2000):=by
 unfold slices_Clone_2 at h
 refine zH Try.func29 [.tmp 2] 8 ?_
 refine zo ?_
 refine zB [(0,.sl (.int .i64) s)] [] ?_
 refine AW.seq ?_
 refine zo ?_
 refine zS 1 [(0,.sl (.int .i64) s),(3,.sl (.int .i64) s)] [] ?_
 refine AO.nilEq (neg:=false) tab_ok (by decide) rfl rfl tab_28 rfl rfl rfl (fun hnil1=>?_) ?_
 ·have h:(some [])=some r:=by
   first|(simp only [hnil1] at h ⊢; simpa [ck] using h)|(simp [hnil1,ck] at h ⊢; first|done|exact h)
  refine zT [(0,.sl (.int .i64) s),(4,.bool true)] [] gt ?_
  refine zB [(0,.sl (.int .i64) s),(4,.bool true)] [] ?_
  refine AW.cond (b:=true) rfl (fun _=>?_) (fun hb2=>by cases hb2)
  refine zo ?_
  refine zB [(2,.cv (.slice none 0 0))] [] ?_
  refine zr ?_
  obtain rfl:=Option.some.inj h
  exact zR [] [2000] []
 ·refine zT [(0,.sl (.int .i64) s),(4,.bool false)] [] gt ?_
  refine zB [(0,.sl (.int .i64) s),(4,.bool false)] [] ?_
  refine AW.cond (b:=false) rfl (fun hb3=>by cases hb3) (fun _=>?_)
  refine zk ?_
  refine zo ?_
  obtain ⟨c4,h⟩:=ck_some.1 h
  refine zB [(2,.own 7)] [(7,.arr 3 (.int .i64) s)] ?_
  refine AW.ret ?_
  obtain rfl:=Option.some.inj h
  exact zR [] [] [(2000,7)]
theorem hc_code_Cells (c:List (List (Int×Int×Int×Int))) (use:List (List Int)) (schedule:List Int) {r:(List Int)×Int} (h:code_Cells c use schedule=some r):HC Try.prog 13 [] [.sl (.sl (.pair (.int .i64) (.pair (.int .i64) (.pair (.int .i64) (.int .i64))))) c,.sl (.sl (.int .i64)) use,.sl (.int .i64) schedule] [(2000,.arr 3 (.int .i64) r.1)] (.tup [.own 2000,.int .i64 r.2]):=by
 unfold code_Cells at h
 refine zH Try.func13 [.tmp 6,.tmp 7] 23 ?_
 refine zo ?_
 refine zB [(0,.sl (.sl (.pair (.int .i64) (.pair (.int .i64) (.pair (.int .i64) (.int .i64))))) c),(1,.sl (.sl (.int .i64)) use),(2,.sl (.int .i64) schedule)] [] ?_
 refine zo ?_
 refine zS 3 [(11,.sl (.sl (.pair (.int .i64) (.pair (.int .i64) (.pair (.int .i64) (.int .i64))))) c),(12,.sl (.sl (.int .i64)) use),(13,.sl (.int .i64) schedule)] [] ?_
 obtain ⟨v0,hv1,h⟩:=Option.bind_eq_some_iff.1 h
 refine zC [] [] (hc_code_played c use schedule hv1) [(14,.tup [.agg (.sl (.sl (.pair (.int .i64) (.pair (.int .i64) (.pair (.int .i64) (.int .i64))))) v0.1::(.sl (.sl (.int .i64)) v0.2.1::(.own 24000::(cellsX T55 v0.2.2.2.1++(.int .i64 v0.2.2.2.2.1::(.int .i64 v0.2.2.2.2.2.1::(.int .i64 v0.2.2.2.2.2.2.1::(cellsX T60 v0.2.2.2.2.2.2.2.1++(cellsX T61 v0.2.2.2.2.2.2.2.2.1++(.int .i64 v0.2.2.2.2.2.2.2.2.2.1::[])))))))))),.int .i64 v0.2.2.2.2.2.2.2.2.2.2])] [(24000,.arr 3 (.int .i64) v0.2.2.1)] ?_
 refine AO.weaken (s':=⟨fr [(14,.tup [.agg (.sl (.sl (.pair (.int .i64) (.pair (.int .i64) (.pair (.int .i64) (.int .i64))))) v0.1::(.sl (.sl (.int .i64)) v0.2.1::(.sl (.int .i64) v0.2.2.1::(cellsX T55 v0.2.2.2.1++(.int .i64 v0.2.2.2.2.1::(.int .i64 v0.2.2.2.2.2.1::(.int .i64 v0.2.2.2.2.2.2.1::(cellsX T60 v0.2.2.2.2.2.2.2.1++(cellsX T61 v0.2.2.2.2.2.2.2.2.1++(.int .i64 v0.2.2.2.2.2.2.2.2.2.1::[])))))))))),.int .i64 v0.2.2.2.2.2.2.2.2.2.2])],hpGet [],gt⟩) (zL [24000] [] []) ?_
 refine zS 5 [(8,.bp 8 0),(16,.int .i64 v0.2.2.2.2.2.2.2.2.2.2)] [(8,.box 63 (.sl (.sl (.pair (.int .i64) (.pair (.int .i64) (.pair (.int .i64) (.int .i64))))) v0.1::(.sl (.sl (.int .i64)) v0.2.1::(.sl (.int .i64) v0.2.2.1::(cellsX T55 v0.2.2.2.1++(.int .i64 v0.2.2.2.2.1::(.int .i64 v0.2.2.2.2.2.1::(.int .i64 v0.2.2.2.2.2.2.1::(cellsX T60 v0.2.2.2.2.2.2.2.1++(cellsX T61 v0.2.2.2.2.2.2.2.2.1++(.int .i64 v0.2.2.2.2.2.2.2.2.2.1::[])))))))))))] ?_
 refine AO.weaken (s':=⟨fr [(8,.dp (.pair (.pair (.sl (.sl (.pair (.int .i64) (.pair (.int .i64) (.pair (.int .i64) (.int .i64)))))) (.sl (.sl (.int .i64)))) (.pair (.sl (.int .i64)) (.pair T55 (.pair (.pair (.int .i64) (.pair (.int .i64) (.int .i64))) (.pair T60 (.pair T61 (.int .i64))))))) ((v0.1,v0.2.1),v0.2.2.1,v0.2.2.2.1,(v0.2.2.2.2.1,v0.2.2.2.2.2.1,v0.2.2.2.2.2.2.1),v0.2.2.2.2.2.2.2.1,v0.2.2.2.2.2.2.2.2.1,v0.2.2.2.2.2.2.2.2.2.1) 0),(16,.int .i64 v0.2.2.2.2.2.2.2.2.2.2)],hpGet [],gt⟩) (Wk.boxes [8] rfl rfl (by (simp only [go_sem])<;>(with_reducible and_intros)<;>first|assumption|rfl|omega|(unfold maxLen; omega)) (by (simp only [go_sem])<;>(with_reducible and_intros)<;>first|assumption|rfl|omega|(unfold maxLen; omega))) ?_
 refine zB [(8,.dp (.pair (.pair (.sl (.sl (.pair (.int .i64) (.pair (.int .i64) (.pair (.int .i64) (.int .i64)))))) (.sl (.sl (.int .i64)))) (.pair (.sl (.int .i64)) (.pair T55 (.pair (.pair (.int .i64) (.pair (.int .i64) (.int .i64))) (.pair T60 (.pair T61 (.int .i64))))))) ((v0.1,v0.2.1),v0.2.2.1,v0.2.2.2.1,(v0.2.2.2.2.1,v0.2.2.2.2.2.1,v0.2.2.2.2.2.2.1),v0.2.2.2.2.2.2.2.1,v0.2.2.2.2.2.2.2.2.1,v0.2.2.2.2.2.2.2.2.2.1) 0),(9,.int .i64 v0.2.2.2.2.2.2.2.2.2.2)] [] ?_
 refine AW.seq ?_
 refine zo ?_
 refine zB [(8,.dp (.pair (.pair (.sl (.sl (.pair (.int .i64) (.pair (.int .i64) (.pair (.int .i64) (.int .i64)))))) (.sl (.sl (.int .i64)))) (.pair (.sl (.int .i64)) (.pair T55 (.pair (.pair (.int .i64) (.pair (.int .i64) (.int .i64))) (.pair T60 (.pair T61 (.int .i64))))))) ((v0.1,v0.2.1),v0.2.2.1,v0.2.2.2.1,(v0.2.2.2.2.1,v0.2.2.2.2.2.1,v0.2.2.2.2.2.2.1),v0.2.2.2.2.2.2.2.1,v0.2.2.2.2.2.2.2.2.1,v0.2.2.2.2.2.2.2.2.2.1) 0),(9,.int .i64 v0.2.2.2.2.2.2.2.2.2.2),(18,.bool (!(decide (v0.2.2.2.2.2.2.2.2.2.2=0))))] [] ?_
 refine zQ h (fun hb2 h=>?_) (fun hb2 h=>?_)
 ·refine zo ?_
  refine zB [(6,.cv (.slice none 0 0)),(7,.int .i64 v0.2.2.2.2.2.2.2.2.2.2)] [] ?_
  refine zr ?_
  obtain rfl:=Option.some.inj h
  exact zR [] [2000] []
 ·refine zk ?_
  refine zo ?_
  refine zS 2 [(21,.sl (.int .i64) [v0.2.2.2.2.1,v0.2.2.2.2.2.1,v0.2.2.2.2.2.2.1])] [] ?_
  obtain ⟨v0_2,hv3,h⟩:=Option.bind_eq_some_iff.1 h
  refine zC [] [] (hc_slices_Clone_2 [v0.2.2.2.2.1,v0.2.2.2.2.2.1,v0.2.2.2.2.2.2.1] hv3) [(22,.own 32000)] [(32000,.arr 3 (.int .i64) v0_2)] ?_
  refine zB [(6,.own 32000),(7,.int .i64 0)] [(32000,.arr 3 (.int .i64) v0_2)] ?_
  refine AW.ret ?_
  obtain rfl:=Option.some.inj h
  exact zR [] [] [(2000,32000)]
theorem hc_linealref08_Cells (c:List (List (Int×Int×Int×Int))) (use:List (List Int)) (schedule:List Int) {r:(List Int)×Int} (h:linealref08_Cells c use schedule=some r):HC Try.prog 14 [] [.sl (.sl (.pair (.int .i64) (.pair (.int .i64) (.pair (.int .i64) (.int .i64))))) c,.sl (.sl (.int .i64)) use,.sl (.int .i64) schedule] [(2000,.arr 3 (.int .i64) r.1)] (.tup [.own 2000,.int .i64 r.2]):=by
 unfold linealref08_Cells at h
 refine zH Try.func14 [.tmp 6,.tmp 7] 36 ?_
 refine zo ?_
 refine zB [(0,.sl (.sl (.pair (.int .i64) (.pair (.int .i64) (.pair (.int .i64) (.int .i64))))) c),(1,.sl (.sl (.int .i64)) use),(2,.sl (.int .i64) schedule)] [] ?_
 refine zo ?_
 refine zS 3 [(13,.sl (.sl (.pair (.int .i64) (.pair (.int .i64) (.pair (.int .i64) (.int .i64))))) c),(14,.sl (.sl (.int .i64)) use),(15,.sl (.int .i64) schedule)] [] ?_
 obtain ⟨v0,hv1,h⟩:=Option.bind_eq_some_iff.1 h
 rcases v0 with v0_2|v0_3
 ·try simp only at h
  refine zC [] [] (hc_linealref08_run_a0 c use schedule hv1) [(16,.tup [.cv (.pointer none),.int .i64 v0_2])] [] ?_
  refine zB [(8,.cv (.pointer none)),(9,.int .i64 v0_2)] [] ?_
  refine AW.seq ?_
  refine zo ?_
  refine zB [(8,.cv (.pointer none)),(9,.int .i64 v0_2),(20,.bool (!(decide (v0_2=0))))] [] ?_
  refine zQ h (fun hb2 h=>?_) (fun hb2 h=>?_)
  ·refine zo ?_
   refine zB [(6,.cv (.slice none 0 0)),(7,.int .i64 v0_2)] [] ?_
   refine zr ?_
   obtain rfl:=Option.some.inj h
   exact zR [] [2000] []
  ·refine zk ?_
   refine zo ?_
   refine zB [(8,.cv (.pointer none)),(10,.cv (.slice none 0 0))] [] ?_
   refine AW.seq ?_
   refine zo ?_
   refine zB [(8,.cv (.pointer none)),(10,.cv (.slice none 0 0)),(11,.int .i64 0)] [] ?_
   refine AW.block ?_
   cases h
 ·try simp only at h
  refine zC [] [] (hc_linealref08_run_a1 c use schedule hv1) [(16,.tup [.bp 26000 0,.int .i64 0])] [(26000,.box 72 [.sl (.sl (.pair (.int .i64) (.pair (.int .i64) (.pair (.int .i64) (.int .i64))))) c,.sl (.sl (.int .i64)) use,.sl (.int .i64) [],.own 26001,.int .i64 v0_3.2.1,.int .i64 v0_3.2.2.1,.int .i64 v0_3.2.2.2.1,.int .i64 v0_3.2.2.2.2.1,.own 26002,.own 26003]),(26001,.arr 92 (.pair (.int .i64) (.pair (.int .i64) (.pair .bool (.pair (.int .i64) (.pair (.int .i64) (.pair (.int .i64) (.pair (.int .i64) (.int .i64)))))))) v0_3.1),(26002,.arr 49 (.pair (.int .i64) (.pair (.int .i64) (.pair (.int .i64) (.pair (.int .i64) (.pair (.int .i64) (.int .i64)))))) v0_3.2.2.2.2.2.1),(26003,.arr 3 (.int .i64) v0_3.2.2.2.2.2.2)] ?_
  refine zB [(8,.bp 26000 0),(9,.int .i64 0)] [(26000,.box 72 [.sl (.sl (.pair (.int .i64) (.pair (.int .i64) (.pair (.int .i64) (.int .i64))))) c,.sl (.sl (.int .i64)) use,.sl (.int .i64) [],.own 26001,.int .i64 v0_3.2.1,.int .i64 v0_3.2.2.1,.int .i64 v0_3.2.2.2.1,.int .i64 v0_3.2.2.2.2.1,.own 26002,.own 26003]),(26001,.arr 92 (.pair (.int .i64) (.pair (.int .i64) (.pair .bool (.pair (.int .i64) (.pair (.int .i64) (.pair (.int .i64) (.pair (.int .i64) (.int .i64)))))))) v0_3.1),(26002,.arr 49 (.pair (.int .i64) (.pair (.int .i64) (.pair (.int .i64) (.pair (.int .i64) (.pair (.int .i64) (.int .i64)))))) v0_3.2.2.2.2.2.1),(26003,.arr 3 (.int .i64) v0_3.2.2.2.2.2.2)] ?_
  refine AW.seq ?_
  refine zo ?_
  have hx3:(!decide ((0:Int)=0))=false:=rfl
  refine zB [(8,.bp 26000 0),(9,.int .i64 0),(20,.bool false)] [(26000,.box 72 [.sl (.sl (.pair (.int .i64) (.pair (.int .i64) (.pair (.int .i64) (.int .i64))))) c,.sl (.sl (.int .i64)) use,.sl (.int .i64) [],.own 26001,.int .i64 v0_3.2.1,.int .i64 v0_3.2.2.1,.int .i64 v0_3.2.2.2.1,.int .i64 v0_3.2.2.2.2.1,.own 26002,.own 26003]),(26001,.arr 92 (.pair (.int .i64) (.pair (.int .i64) (.pair .bool (.pair (.int .i64) (.pair (.int .i64) (.pair (.int .i64) (.pair (.int .i64) (.int .i64)))))))) v0_3.1),(26002,.arr 49 (.pair (.int .i64) (.pair (.int .i64) (.pair (.int .i64) (.pair (.int .i64) (.pair (.int .i64) (.int .i64)))))) v0_3.2.2.2.2.2.1),(26003,.arr 3 (.int .i64) v0_3.2.2.2.2.2.2)] ?_
  refine AW.cond (b:=false) rfl (fun hb4=>by cases hb4) (fun _=>?_)
  refine zk ?_
  refine zo ?_
  refine zB [(8,.bp 26000 0),(10,.cv (.slice none 0 0))] [(26000,.box 72 [.sl (.sl (.pair (.int .i64) (.pair (.int .i64) (.pair (.int .i64) (.int .i64))))) c,.sl (.sl (.int .i64)) use,.sl (.int .i64) [],.own 26001,.int .i64 v0_3.2.1,.int .i64 v0_3.2.2.1,.int .i64 v0_3.2.2.2.1,.int .i64 v0_3.2.2.2.2.1,.own 26002,.own 26003]),(26001,.arr 92 (.pair (.int .i64) (.pair (.int .i64) (.pair .bool (.pair (.int .i64) (.pair (.int .i64) (.pair (.int .i64) (.pair (.int .i64) (.int .i64)))))))) v0_3.1),(26002,.arr 49 (.pair (.int .i64) (.pair (.int .i64) (.pair (.int .i64) (.pair (.int .i64) (.pair (.int .i64) (.int .i64)))))) v0_3.2.2.2.2.2.1),(26003,.arr 3 (.int .i64) v0_3.2.2.2.2.2.2)] ?_
  refine AW.have1 (fun b2:(List Int)=>linealref08_Cells_k2 b2=some r) (fun b2=>⟨fr [(10,.own 34)],hpGet [(34,.arr 3 (.int .i64) b2)],gt⟩) (fun b2 h=>?_) (fun hk_linealref08_Cells_k2=>?_)
  ·as_aux_lemma =>
    unfold linealref08_Cells_k2 at h
    refine zo ?_
    refine zB [(6,.own 34),(7,.int .i64 0)] [(34,.arr 3 (.int .i64) b2)] ?_
    refine AW.ret ?_
    obtain rfl:=Option.some.inj h
    exact zR [] [] [(2000,34)]
  ·refine AW.seq ?_
   refine zo ?_
   refine zB [(8,.bp 26000 0),(10,.cv (.slice none 0 0)),(11,.int .i64 0)] [(26000,.box 72 [.sl (.sl (.pair (.int .i64) (.pair (.int .i64) (.pair (.int .i64) (.int .i64))))) c,.sl (.sl (.int .i64)) use,.sl (.int .i64) [],.own 26001,.int .i64 v0_3.2.1,.int .i64 v0_3.2.2.1,.int .i64 v0_3.2.2.2.1,.int .i64 v0_3.2.2.2.2.1,.own 26002,.own 26003]),(26001,.arr 92 (.pair (.int .i64) (.pair (.int .i64) (.pair .bool (.pair (.int .i64) (.pair (.int .i64) (.pair (.int .i64) (.pair (.int .i64) (.int .i64)))))))) v0_3.1),(26002,.arr 49 (.pair (.int .i64) (.pair (.int .i64) (.pair (.int .i64) (.pair (.int .i64) (.pair (.int .i64) (.int .i64)))))) v0_3.2.2.2.2.2.1),(26003,.arr 3 (.int .i64) v0_3.2.2.2.2.2.2)] ?_
   refine AW.block ?_
   obtain ⟨rv9,hw5,ho6⟩:=Option.bind_eq_some_iff.1 h
   refine AW.loopO (linealref08_Cells_b2 v0_3) (fun st2=>⟨fr [(8,.bp 26000 0),(10,.own 34),(11,.int .i64 st2.2)],hpGet [(34,.arr 3 (.int .i64) st2.1),(26000,.box 72 [.sl (.sl (.pair (.int .i64) (.pair (.int .i64) (.pair (.int .i64) (.int .i64))))) c,.sl (.sl (.int .i64)) use,.sl (.int .i64) [],.own 26001,.int .i64 v0_3.2.1,.int .i64 v0_3.2.2.1,.int .i64 v0_3.2.2.2.1,.int .i64 v0_3.2.2.2.2.1,.own 26002,.own 26003]),(26001,.arr 92 (.pair (.int .i64) (.pair (.int .i64) (.pair .bool (.pair (.int .i64) (.pair (.int .i64) (.pair (.int .i64) (.pair (.int .i64) (.int .i64)))))))) v0_3.1),(26002,.arr 49 (.pair (.int .i64) (.pair (.int .i64) (.pair (.int .i64) (.pair (.int .i64) (.pair (.int .i64) (.int .i64)))))) v0_3.2.2.2.2.2.1),(26003,.arr 3 (.int .i64) v0_3.2.2.2.2.2.2)],gt⟩) ([],0) hw5 (zL [] [34] []) ?_
   as_aux_lemma =>
    intro st2 x8 h hd7
    unfold linealref08_Cells_b2 at h
    refine AW.seq ?_
    refine zo ?_
    refine zB [(8,.bp 26000 0),(10,.own 34),(11,.int .i64 st2.2),(23,.bool (decide (st2.2<3)))] [(34,.arr 3 (.int .i64) st2.1),(26000,.box 72 [.sl (.sl (.pair (.int .i64) (.pair (.int .i64) (.pair (.int .i64) (.int .i64))))) c,.sl (.sl (.int .i64)) use,.sl (.int .i64) [],.own 26001,.int .i64 v0_3.2.1,.int .i64 v0_3.2.2.1,.int .i64 v0_3.2.2.2.1,.int .i64 v0_3.2.2.2.2.1,.own 26002,.own 26003]),(26001,.arr 92 (.pair (.int .i64) (.pair (.int .i64) (.pair .bool (.pair (.int .i64) (.pair (.int .i64) (.pair (.int .i64) (.pair (.int .i64) (.int .i64)))))))) v0_3.1),(26002,.arr 49 (.pair (.int .i64) (.pair (.int .i64) (.pair (.int .i64) (.pair (.int .i64) (.pair (.int .i64) (.int .i64)))))) v0_3.2.2.2.2.2.1),(26003,.arr 3 (.int .i64) v0_3.2.2.2.2.2.2)] ?_
    refine zQ h (fun hb10 h=>?_) (fun hb10 h=>?_)
    ·refine zk ?_
     refine AW.seq ?_
     refine AW.block ?_
     refine AW.ops ?_
     refine zS 5 [(8,.bp 26000 0),(11,.int .i64 st2.2),(26,.own 34),(28,.int .i64 st2.2),(30,.bp 26000 5)] [(34,.arr 3 (.int .i64) st2.1),(26000,.box 72 [.sl (.sl (.pair (.int .i64) (.pair (.int .i64) (.pair (.int .i64) (.int .i64))))) c,.sl (.sl (.int .i64)) use,.sl (.int .i64) [],.own 26001,.int .i64 v0_3.2.1,.int .i64 v0_3.2.2.1,.int .i64 v0_3.2.2.2.1,.int .i64 v0_3.2.2.2.2.1,.own 26002,.own 26003]),(26001,.arr 92 (.pair (.int .i64) (.pair (.int .i64) (.pair .bool (.pair (.int .i64) (.pair (.int .i64) (.pair (.int .i64) (.pair (.int .i64) (.int .i64)))))))) v0_3.1),(26002,.arr 49 (.pair (.int .i64) (.pair (.int .i64) (.pair (.int .i64) (.pair (.int .i64) (.pair (.int .i64) (.int .i64)))))) v0_3.2.2.2.2.2.1),(26003,.arr 3 (.int .i64) v0_3.2.2.2.2.2.2)] ?_
     obtain ⟨c11,h⟩:=ck_some.1 h
     obtain ⟨c12,h⟩:=ck_some.1 h
     refine zS 0 [(8,.bp 26000 0),(11,.int .i64 st2.2),(26,.own 34),(28,.int .i64 st2.2),(30,.bp 26000 5)] [(34,.arr 3 (.int .i64) st2.1),(26000,.box 72 [.sl (.sl (.pair (.int .i64) (.pair (.int .i64) (.pair (.int .i64) (.int .i64))))) c,.sl (.sl (.int .i64)) use,.sl (.int .i64) [],.own 26001,.int .i64 v0_3.2.1,.int .i64 v0_3.2.2.1,.int .i64 v0_3.2.2.2.1,.int .i64 v0_3.2.2.2.2.1,.own 26002,.own 26003]),(26001,.arr 92 (.pair (.int .i64) (.pair (.int .i64) (.pair .bool (.pair (.int .i64) (.pair (.int .i64) (.pair (.int .i64) (.pair (.int .i64) (.int .i64)))))))) v0_3.1),(26002,.arr 49 (.pair (.int .i64) (.pair (.int .i64) (.pair (.int .i64) (.pair (.int .i64) (.pair (.int .i64) (.int .i64)))))) v0_3.2.2.2.2.2.1),(26003,.arr 3 (.int .i64) v0_3.2.2.2.2.2.2)] ?_
     rcases Bool.eq_false_or_eq_true (decide (st2.2=0)) with hb13|hb13
     ·rw [if_pos hb13] at h
      have hz14:st2.2=0:=by simpa using hb13
      refine zT [(8,.bp 26000 0),(11,.int .i64 0),(26,.own 34),(28,.int .i64 0),(30,.bp 26000 5)] [(34,.arr 3 (.int .i64) st2.1),(26000,.box 72 [.sl (.sl (.pair (.int .i64) (.pair (.int .i64) (.pair (.int .i64) (.int .i64))))) c,.sl (.sl (.int .i64)) use,.sl (.int .i64) [],.own 26001,.int .i64 v0_3.2.1,.int .i64 v0_3.2.2.1,.int .i64 v0_3.2.2.2.1,.int .i64 v0_3.2.2.2.2.1,.own 26002,.own 26003]),(26001,.arr 92 (.pair (.int .i64) (.pair (.int .i64) (.pair .bool (.pair (.int .i64) (.pair (.int .i64) (.pair (.int .i64) (.pair (.int .i64) (.int .i64)))))))) v0_3.1),(26002,.arr 49 (.pair (.int .i64) (.pair (.int .i64) (.pair (.int .i64) (.pair (.int .i64) (.pair (.int .i64) (.int .i64)))))) v0_3.2.2.2.2.2.1),(26003,.arr 3 (.int .i64) v0_3.2.2.2.2.2.2)] gt ?_
      obtain ⟨c15,h⟩:=ck_some.1 h
      refine zA [(8,.bp 26000 0),(10,.own 34),(11,.int .i64 0)] [(34,.arr 3 (.int .i64) (st2.1++[v0_3.2.2.1])),(26000,.box 72 [.sl (.sl (.pair (.int .i64) (.pair (.int .i64) (.pair (.int .i64) (.int .i64))))) c,.sl (.sl (.int .i64)) use,.sl (.int .i64) [],.own 26001,.int .i64 v0_3.2.1,.int .i64 v0_3.2.2.1,.int .i64 v0_3.2.2.2.1,.int .i64 v0_3.2.2.2.2.1,.own 26002,.own 26003]),(26001,.arr 92 (.pair (.int .i64) (.pair (.int .i64) (.pair .bool (.pair (.int .i64) (.pair (.int .i64) (.pair (.int .i64) (.pair (.int .i64) (.int .i64)))))))) v0_3.1),(26002,.arr 49 (.pair (.int .i64) (.pair (.int .i64) (.pair (.int .i64) (.pair (.int .i64) (.pair (.int .i64) (.int .i64)))))) v0_3.2.2.2.2.2.1),(26003,.arr 3 (.int .i64) v0_3.2.2.2.2.2.2)] ?_
      refine ablock_n ?_
      refine athen_n ?_
      refine AW.ops ?_
      obtain ⟨c16,h⟩:=ck_some.1 h
      refine zA [(8,.bp 26000 0),(10,.own 34),(11,.int .i64 (0+1))] [(34,.arr 3 (.int .i64) (st2.1++[v0_3.2.2.1])),(26000,.box 72 [.sl (.sl (.pair (.int .i64) (.pair (.int .i64) (.pair (.int .i64) (.int .i64))))) c,.sl (.sl (.int .i64)) use,.sl (.int .i64) [],.own 26001,.int .i64 v0_3.2.1,.int .i64 v0_3.2.2.1,.int .i64 v0_3.2.2.2.1,.int .i64 v0_3.2.2.2.2.1,.own 26002,.own 26003]),(26001,.arr 92 (.pair (.int .i64) (.pair (.int .i64) (.pair .bool (.pair (.int .i64) (.pair (.int .i64) (.pair (.int .i64) (.pair (.int .i64) (.int .i64)))))))) v0_3.1),(26002,.arr 49 (.pair (.int .i64) (.pair (.int .i64) (.pair (.int .i64) (.pair (.int .i64) (.pair (.int .i64) (.int .i64)))))) v0_3.2.2.2.2.2.1),(26003,.arr 3 (.int .i64) v0_3.2.2.2.2.2.2)] ?_
      obtain rfl:=Option.some.inj h
      exact ⟨_,rfl,zL [] [] []⟩
     ·rw [if_neg (Bool.eq_false_iff.1 hb13)] at h
      refine zT [(8,.bp 26000 0),(11,.int .i64 st2.2),(26,.own 34),(28,.int .i64 st2.2),(30,.bp 26000 5)] [(34,.arr 3 (.int .i64) st2.1),(26000,.box 72 [.sl (.sl (.pair (.int .i64) (.pair (.int .i64) (.pair (.int .i64) (.int .i64))))) c,.sl (.sl (.int .i64)) use,.sl (.int .i64) [],.own 26001,.int .i64 v0_3.2.1,.int .i64 v0_3.2.2.1,.int .i64 v0_3.2.2.2.1,.int .i64 v0_3.2.2.2.2.1,.own 26002,.own 26003]),(26001,.arr 92 (.pair (.int .i64) (.pair (.int .i64) (.pair .bool (.pair (.int .i64) (.pair (.int .i64) (.pair (.int .i64) (.pair (.int .i64) (.int .i64)))))))) v0_3.1),(26002,.arr 49 (.pair (.int .i64) (.pair (.int .i64) (.pair (.int .i64) (.pair (.int .i64) (.pair (.int .i64) (.int .i64)))))) v0_3.2.2.2.2.2.1),(26003,.arr 3 (.int .i64) v0_3.2.2.2.2.2.2)] gt ?_
      rcases Bool.eq_false_or_eq_true (decide (st2.2=1)) with hb17|hb17
      ·rw [if_pos hb17] at h
       have hz18:st2.2=1:=by simpa using hb17
       refine zT [(8,.bp 26000 0),(11,.int .i64 1),(26,.own 34),(28,.int .i64 1),(30,.bp 26000 5)] [(34,.arr 3 (.int .i64) st2.1),(26000,.box 72 [.sl (.sl (.pair (.int .i64) (.pair (.int .i64) (.pair (.int .i64) (.int .i64))))) c,.sl (.sl (.int .i64)) use,.sl (.int .i64) [],.own 26001,.int .i64 v0_3.2.1,.int .i64 v0_3.2.2.1,.int .i64 v0_3.2.2.2.1,.int .i64 v0_3.2.2.2.2.1,.own 26002,.own 26003]),(26001,.arr 92 (.pair (.int .i64) (.pair (.int .i64) (.pair .bool (.pair (.int .i64) (.pair (.int .i64) (.pair (.int .i64) (.pair (.int .i64) (.int .i64)))))))) v0_3.1),(26002,.arr 49 (.pair (.int .i64) (.pair (.int .i64) (.pair (.int .i64) (.pair (.int .i64) (.pair (.int .i64) (.int .i64)))))) v0_3.2.2.2.2.2.1),(26003,.arr 3 (.int .i64) v0_3.2.2.2.2.2.2)] gt ?_
       obtain ⟨c19,h⟩:=ck_some.1 h
       refine zA [(8,.bp 26000 0),(10,.own 34),(11,.int .i64 1)] [(34,.arr 3 (.int .i64) (st2.1++[v0_3.2.2.2.1])),(26000,.box 72 [.sl (.sl (.pair (.int .i64) (.pair (.int .i64) (.pair (.int .i64) (.int .i64))))) c,.sl (.sl (.int .i64)) use,.sl (.int .i64) [],.own 26001,.int .i64 v0_3.2.1,.int .i64 v0_3.2.2.1,.int .i64 v0_3.2.2.2.1,.int .i64 v0_3.2.2.2.2.1,.own 26002,.own 26003]),(26001,.arr 92 (.pair (.int .i64) (.pair (.int .i64) (.pair .bool (.pair (.int .i64) (.pair (.int .i64) (.pair (.int .i64) (.pair (.int .i64) (.int .i64)))))))) v0_3.1),(26002,.arr 49 (.pair (.int .i64) (.pair (.int .i64) (.pair (.int .i64) (.pair (.int .i64) (.pair (.int .i64) (.int .i64)))))) v0_3.2.2.2.2.2.1),(26003,.arr 3 (.int .i64) v0_3.2.2.2.2.2.2)] ?_
       refine ablock_n ?_
       refine athen_n ?_
       refine AW.ops ?_
       obtain ⟨c20,h⟩:=ck_some.1 h
       refine zA [(8,.bp 26000 0),(10,.own 34),(11,.int .i64 (1+1))] [(34,.arr 3 (.int .i64) (st2.1++[v0_3.2.2.2.1])),(26000,.box 72 [.sl (.sl (.pair (.int .i64) (.pair (.int .i64) (.pair (.int .i64) (.int .i64))))) c,.sl (.sl (.int .i64)) use,.sl (.int .i64) [],.own 26001,.int .i64 v0_3.2.1,.int .i64 v0_3.2.2.1,.int .i64 v0_3.2.2.2.1,.int .i64 v0_3.2.2.2.2.1,.own 26002,.own 26003]),(26001,.arr 92 (.pair (.int .i64) (.pair (.int .i64) (.pair .bool (.pair (.int .i64) (.pair (.int .i64) (.pair (.int .i64) (.pair (.int .i64) (.int .i64)))))))) v0_3.1),(26002,.arr 49 (.pair (.int .i64) (.pair (.int .i64) (.pair (.int .i64) (.pair (.int .i64) (.pair (.int .i64) (.int .i64)))))) v0_3.2.2.2.2.2.1),(26003,.arr 3 (.int .i64) v0_3.2.2.2.2.2.2)] ?_
       obtain rfl:=Option.some.inj h
       exact ⟨_,rfl,zL [] [] []⟩
      ·rw [if_neg (Bool.eq_false_iff.1 hb17)] at h
       have hz18:st2.2=2:=by have:=of_decide_eq_false hb13; have:=of_decide_eq_false hb17; omega
       refine zT [(8,.bp 26000 0),(11,.int .i64 2),(26,.own 34),(28,.int .i64 2),(30,.bp 26000 5)] [(34,.arr 3 (.int .i64) st2.1),(26000,.box 72 [.sl (.sl (.pair (.int .i64) (.pair (.int .i64) (.pair (.int .i64) (.int .i64))))) c,.sl (.sl (.int .i64)) use,.sl (.int .i64) [],.own 26001,.int .i64 v0_3.2.1,.int .i64 v0_3.2.2.1,.int .i64 v0_3.2.2.2.1,.int .i64 v0_3.2.2.2.2.1,.own 26002,.own 26003]),(26001,.arr 92 (.pair (.int .i64) (.pair (.int .i64) (.pair .bool (.pair (.int .i64) (.pair (.int .i64) (.pair (.int .i64) (.pair (.int .i64) (.int .i64)))))))) v0_3.1),(26002,.arr 49 (.pair (.int .i64) (.pair (.int .i64) (.pair (.int .i64) (.pair (.int .i64) (.pair (.int .i64) (.int .i64)))))) v0_3.2.2.2.2.2.1),(26003,.arr 3 (.int .i64) v0_3.2.2.2.2.2.2)] gt ?_
       obtain ⟨c21,h⟩:=ck_some.1 h
       refine zA [(8,.bp 26000 0),(10,.own 34),(11,.int .i64 2)] [(34,.arr 3 (.int .i64) (st2.1++[v0_3.2.2.2.2.1])),(26000,.box 72 [.sl (.sl (.pair (.int .i64) (.pair (.int .i64) (.pair (.int .i64) (.int .i64))))) c,.sl (.sl (.int .i64)) use,.sl (.int .i64) [],.own 26001,.int .i64 v0_3.2.1,.int .i64 v0_3.2.2.1,.int .i64 v0_3.2.2.2.1,.int .i64 v0_3.2.2.2.2.1,.own 26002,.own 26003]),(26001,.arr 92 (.pair (.int .i64) (.pair (.int .i64) (.pair .bool (.pair (.int .i64) (.pair (.int .i64) (.pair (.int .i64) (.pair (.int .i64) (.int .i64)))))))) v0_3.1),(26002,.arr 49 (.pair (.int .i64) (.pair (.int .i64) (.pair (.int .i64) (.pair (.int .i64) (.pair (.int .i64) (.int .i64)))))) v0_3.2.2.2.2.2.1),(26003,.arr 3 (.int .i64) v0_3.2.2.2.2.2.2)] ?_
       refine ablock_n ?_
       refine athen_n ?_
       refine AW.ops ?_
       obtain ⟨c22,h⟩:=ck_some.1 h
       refine zA [(8,.bp 26000 0),(10,.own 34),(11,.int .i64 (2+1))] [(34,.arr 3 (.int .i64) (st2.1++[v0_3.2.2.2.2.1])),(26000,.box 72 [.sl (.sl (.pair (.int .i64) (.pair (.int .i64) (.pair (.int .i64) (.int .i64))))) c,.sl (.sl (.int .i64)) use,.sl (.int .i64) [],.own 26001,.int .i64 v0_3.2.1,.int .i64 v0_3.2.2.1,.int .i64 v0_3.2.2.2.1,.int .i64 v0_3.2.2.2.2.1,.own 26002,.own 26003]),(26001,.arr 92 (.pair (.int .i64) (.pair (.int .i64) (.pair .bool (.pair (.int .i64) (.pair (.int .i64) (.pair (.int .i64) (.pair (.int .i64) (.int .i64)))))))) v0_3.1),(26002,.arr 49 (.pair (.int .i64) (.pair (.int .i64) (.pair (.int .i64) (.pair (.int .i64) (.pair (.int .i64) (.int .i64)))))) v0_3.2.2.2.2.2.1),(26003,.arr 3 (.int .i64) v0_3.2.2.2.2.2.2)] ?_
       obtain rfl:=Option.some.inj h
       exact ⟨_,rfl,zL [] [] []⟩
    ·refine AW.exit ?_
     refine athen_e ?_
     obtain rfl:=Option.some.inj h
     rw [← hd7 _ rfl] at ho6
     have h:=ho6
     refine athen_e ?_
     refine ablock_s ?_
     refine athen_n ?_
     exact AW.weaken (zL [] [] []) (hk_linealref08_Cells_k2 _ h)
theorem hc_code_run_left (r0:((List (List (Int×Int×Int×Int)))×(List (List Int)))×(List Int)×(El T55)×(Int×Int×Int)×(El T60)×(El T61)×Int) {r:(List Int)} (h:code_run_left r0=some r):HC Try.prog 30 [] [.agg (.sl (.sl (.pair (.int .i64) (.pair (.int .i64) (.pair (.int .i64) (.int .i64))))) r0.1.1::(.sl (.sl (.int .i64)) r0.1.2::(.sl (.int .i64) r0.2.1::(cellsX T55 r0.2.2.1++(.int .i64 r0.2.2.2.1.1::(.int .i64 r0.2.2.2.1.2.1::(.int .i64 r0.2.2.2.1.2.2::(cellsX T60 r0.2.2.2.2.1++(cellsX T61 r0.2.2.2.2.2.1++(.int .i64 r0.2.2.2.2.2.2::[]))))))))))] [(2000,.arr 3 (.int .i64) r)] (.own 2000):=by
 unfold code_run_left at h
 refine zH Try.func30 [.tmp 2] 21 ?_
 refine zo ?_
 refine zB [(1,.bp 1 0)] [(1,.box 63 (.sl (.sl (.pair (.int .i64) (.pair (.int .i64) (.pair (.int .i64) (.int .i64))))) r0.1.1::(.sl (.sl (.int .i64)) r0.1.2::(.sl (.int .i64) r0.2.1::(cellsX T55 r0.2.2.1++(.int .i64 r0.2.2.2.1.1::(.int .i64 r0.2.2.2.1.2.1::(.int .i64 r0.2.2.2.1.2.2::(cellsX T60 r0.2.2.2.2.1++(cellsX T61 r0.2.2.2.2.2.1++(.int .i64 r0.2.2.2.2.2.2::[])))))))))))] ?_
 refine zo ?_
 refine zB [(1,.bp 1 0),(3,.cv (.slice none 0 0))] [(1,.box 63 (.sl (.sl (.pair (.int .i64) (.pair (.int .i64) (.pair (.int .i64) (.int .i64))))) r0.1.1::(.sl (.sl (.int .i64)) r0.1.2::(.sl (.int .i64) r0.2.1::(cellsX T55 r0.2.2.1++(.int .i64 r0.2.2.2.1.1::(.int .i64 r0.2.2.2.1.2.1::(.int .i64 r0.2.2.2.1.2.2::(cellsX T60 r0.2.2.2.2.1++(cellsX T61 r0.2.2.2.2.2.1++(.int .i64 r0.2.2.2.2.2.2::[])))))))))))] ?_
 refine AW.have1 (fun b1:(List Int)=>code_run_left_k1 b1=some r) (fun b1=>⟨fr [(3,.own 18)],hpGet [(18,.arr 3 (.int .i64) b1)],gt⟩) (fun b1 h=>?_) (fun hk_code_run_left_k1=>?_)
 ·as_aux_lemma =>
   unfold code_run_left_k1 at h
   refine zo ?_
   refine zB [(2,.own 18)] [(18,.arr 3 (.int .i64) b1)] ?_
   refine AW.ret ?_
   obtain rfl:=Option.some.inj h
   exact zR [] [] [(2000,18)]
 ·refine AW.seq ?_
  refine zo ?_
  refine zB [(1,.bp 1 0),(3,.cv (.slice none 0 0)),(8,.int .i64 (r0.1.2.length:Int)),(9,.int .i64 0)] [(1,.box 63 (.sl (.sl (.pair (.int .i64) (.pair (.int .i64) (.pair (.int .i64) (.int .i64))))) r0.1.1::(.sl (.sl (.int .i64)) r0.1.2::(.sl (.int .i64) r0.2.1::(cellsX T55 r0.2.2.1++(.int .i64 r0.2.2.2.1.1::(.int .i64 r0.2.2.2.1.2.1::(.int .i64 r0.2.2.2.1.2.2::(cellsX T60 r0.2.2.2.2.1++(cellsX T61 r0.2.2.2.2.2.1++(.int .i64 r0.2.2.2.2.2.2::[])))))))))))] ?_
  refine AW.block ?_
  obtain ⟨rv5,hw1,ho2⟩:=Option.bind_eq_some_iff.1 h
  refine AW.loopO (code_run_left_b1 r0) (fun st1=>⟨fr [(1,.bp 1 0),(3,.own 18),(8,.int .i64 (r0.1.2.length:Int)),(9,.int .i64 st1.2)],hpGet [(1,.box 63 (.sl (.sl (.pair (.int .i64) (.pair (.int .i64) (.pair (.int .i64) (.int .i64))))) r0.1.1::(.sl (.sl (.int .i64)) r0.1.2::(.sl (.int .i64) r0.2.1::(cellsX T55 r0.2.2.1++(.int .i64 r0.2.2.2.1.1::(.int .i64 r0.2.2.2.1.2.1::(.int .i64 r0.2.2.2.1.2.2::(cellsX T60 r0.2.2.2.2.1++(cellsX T61 r0.2.2.2.2.2.1++(.int .i64 r0.2.2.2.2.2.2::[]))))))))))),(18,.arr 3 (.int .i64) st1.1)],gt⟩) ([],0) hw1 (zL [] [18] []) ?_
  as_aux_lemma =>
   intro st1 x4 h hd3
   unfold code_run_left_b1 at h
   refine zo ?_
   refine zB [(1,.bp 1 0),(3,.own 18),(8,.int .i64 (r0.1.2.length:Int)),(9,.int .i64 st1.2),(10,.bool (decide (st1.2<(r0.1.2.length:Int))))] [(1,.box 63 (.sl (.sl (.pair (.int .i64) (.pair (.int .i64) (.pair (.int .i64) (.int .i64))))) r0.1.1::(.sl (.sl (.int .i64)) r0.1.2::(.sl (.int .i64) r0.2.1::(cellsX T55 r0.2.2.1++(.int .i64 r0.2.2.2.1.1::(.int .i64 r0.2.2.2.1.2.1::(.int .i64 r0.2.2.2.1.2.2::(cellsX T60 r0.2.2.2.2.1++(cellsX T61 r0.2.2.2.2.2.1++(.int .i64 r0.2.2.2.2.2.2::[]))))))))))),(18,.arr 3 (.int .i64) st1.1)] ?_
   refine AW.seq ?_
   refine zQ h (fun hb6 h=>?_) (fun hb6 h=>?_)
   ·refine zk ?_
    refine AW.seq ?_
    refine AW.block ?_
    refine zo ?_
    refine zB [(1,.bp 1 0),(3,.own 18),(4,.int .i64 st1.2),(8,.int .i64 (r0.1.2.length:Int)),(9,.int .i64 st1.2)] [(1,.box 63 (.sl (.sl (.pair (.int .i64) (.pair (.int .i64) (.pair (.int .i64) (.int .i64))))) r0.1.1::(.sl (.sl (.int .i64)) r0.1.2::(.sl (.int .i64) r0.2.1::(cellsX T55 r0.2.2.1++(.int .i64 r0.2.2.2.1.1::(.int .i64 r0.2.2.2.1.2.1::(.int .i64 r0.2.2.2.1.2.2::(cellsX T60 r0.2.2.2.2.1++(cellsX T61 r0.2.2.2.2.2.1++(.int .i64 r0.2.2.2.2.2.2::[]))))))))))),(18,.arr 3 (.int .i64) st1.1)] ?_
    refine zo ?_
    refine zS 2 [(1,.bp 1 0),(3,.own 18),(4,.int .i64 st1.2),(8,.int .i64 (r0.1.2.length:Int)),(9,.int .i64 st1.2),(12,.agg (.sl (.sl (.pair (.int .i64) (.pair (.int .i64) (.pair (.int .i64) (.int .i64))))) r0.1.1::(.sl (.sl (.int .i64)) r0.1.2::(.sl (.int .i64) r0.2.1::(cellsX T55 r0.2.2.1++(.int .i64 r0.2.2.2.1.1::(.int .i64 r0.2.2.2.1.2.1::(.int .i64 r0.2.2.2.1.2.2::(cellsX T60 r0.2.2.2.2.1++(cellsX T61 r0.2.2.2.2.2.1++(.int .i64 r0.2.2.2.2.2.2::[]))))))))))),(13,.int .i64 st1.2)] [(1,.box 63 (.sl (.sl (.pair (.int .i64) (.pair (.int .i64) (.pair (.int .i64) (.int .i64))))) r0.1.1::(.sl (.sl (.int .i64)) r0.1.2::(.sl (.int .i64) r0.2.1::(cellsX T55 r0.2.2.1++(.int .i64 r0.2.2.2.1.1::(.int .i64 r0.2.2.2.1.2.1::(.int .i64 r0.2.2.2.1.2.2::(cellsX T60 r0.2.2.2.2.1++(cellsX T61 r0.2.2.2.2.2.1++(.int .i64 r0.2.2.2.2.2.2::[]))))))))))),(18,.arr 3 (.int .i64) st1.1)] ?_
    obtain ⟨v0,hv7,h⟩:=Option.bind_eq_some_iff.1 h
    refine zC [] [] (hc_code_run_hasLine r0 st1.2 hv7) [(1,.bp 1 0),(3,.own 18),(4,.int .i64 st1.2),(8,.int .i64 (r0.1.2.length:Int)),(9,.int .i64 st1.2),(14,.bool v0)] [(1,.box 63 (.sl (.sl (.pair (.int .i64) (.pair (.int .i64) (.pair (.int .i64) (.int .i64))))) r0.1.1::(.sl (.sl (.int .i64)) r0.1.2::(.sl (.int .i64) r0.2.1::(cellsX T55 r0.2.2.1++(.int .i64 r0.2.2.2.1.1::(.int .i64 r0.2.2.2.1.2.1::(.int .i64 r0.2.2.2.1.2.2::(cellsX T60 r0.2.2.2.2.1++(cellsX T61 r0.2.2.2.2.2.1++(.int .i64 r0.2.2.2.2.2.2::[]))))))))))),(18,.arr 3 (.int .i64) st1.1)] ?_
    refine zB [(1,.bp 1 0),(3,.own 18),(4,.int .i64 st1.2),(8,.int .i64 (r0.1.2.length:Int)),(9,.int .i64 st1.2),(14,.bool v0)] [(1,.box 63 (.sl (.sl (.pair (.int .i64) (.pair (.int .i64) (.pair (.int .i64) (.int .i64))))) r0.1.1::(.sl (.sl (.int .i64)) r0.1.2::(.sl (.int .i64) r0.2.1::(cellsX T55 r0.2.2.1++(.int .i64 r0.2.2.2.1.1::(.int .i64 r0.2.2.2.1.2.1::(.int .i64 r0.2.2.2.1.2.2::(cellsX T60 r0.2.2.2.2.1++(cellsX T61 r0.2.2.2.2.2.1++(.int .i64 r0.2.2.2.2.2.2::[]))))))))))),(18,.arr 3 (.int .i64) st1.1)] ?_
    refine zQ h (fun hb8 h=>?_) (fun hb8 h=>?_)
    ·refine AW.ops ?_
     obtain ⟨c9,h⟩:=ck_some.1 h
     refine zA [(1,.bp 1 0),(3,.own 18),(8,.int .i64 (r0.1.2.length:Int)),(9,.int .i64 st1.2)] [(1,.box 63 (.sl (.sl (.pair (.int .i64) (.pair (.int .i64) (.pair (.int .i64) (.int .i64))))) r0.1.1::(.sl (.sl (.int .i64)) r0.1.2::(.sl (.int .i64) r0.2.1::(cellsX T55 r0.2.2.1++(.int .i64 r0.2.2.2.1.1::(.int .i64 r0.2.2.2.1.2.1::(.int .i64 r0.2.2.2.1.2.2::(cellsX T60 r0.2.2.2.2.1++(cellsX T61 r0.2.2.2.2.2.1++(.int .i64 r0.2.2.2.2.2.2::[]))))))))))),(18,.arr 3 (.int .i64) (st1.1++[st1.2]))] ?_
     refine ablock_n ?_
     refine athen_n ?_
     refine AW.ops ?_
     obtain ⟨c10,h⟩:=ck_some.1 h
     refine zA [(1,.bp 1 0),(3,.own 18),(8,.int .i64 (r0.1.2.length:Int)),(9,.int .i64 (st1.2+1))] [(1,.box 63 (.sl (.sl (.pair (.int .i64) (.pair (.int .i64) (.pair (.int .i64) (.int .i64))))) r0.1.1::(.sl (.sl (.int .i64)) r0.1.2::(.sl (.int .i64) r0.2.1::(cellsX T55 r0.2.2.1++(.int .i64 r0.2.2.2.1.1::(.int .i64 r0.2.2.2.1.2.1::(.int .i64 r0.2.2.2.1.2.2::(cellsX T60 r0.2.2.2.2.1++(cellsX T61 r0.2.2.2.2.2.1++(.int .i64 r0.2.2.2.2.2.2::[]))))))))))),(18,.arr 3 (.int .i64) (st1.1++[st1.2]))] ?_
     obtain rfl:=Option.some.inj h
     exact ⟨_,rfl,zL [] [] []⟩
    ·refine zm ?_
     refine athen_n ?_
     refine AW.ops ?_
     obtain ⟨c11,h⟩:=ck_some.1 h
     refine zA [(1,.bp 1 0),(3,.own 18),(8,.int .i64 (r0.1.2.length:Int)),(9,.int .i64 (st1.2+1))] [(1,.box 63 (.sl (.sl (.pair (.int .i64) (.pair (.int .i64) (.pair (.int .i64) (.int .i64))))) r0.1.1::(.sl (.sl (.int .i64)) r0.1.2::(.sl (.int .i64) r0.2.1::(cellsX T55 r0.2.2.1++(.int .i64 r0.2.2.2.1.1::(.int .i64 r0.2.2.2.1.2.1::(.int .i64 r0.2.2.2.1.2.2::(cellsX T60 r0.2.2.2.2.1++(cellsX T61 r0.2.2.2.2.2.1++(.int .i64 r0.2.2.2.2.2.2::[]))))))))))),(18,.arr 3 (.int .i64) st1.1)] ?_
     obtain rfl:=Option.some.inj h
     exact ⟨_,rfl,zL [] [] []⟩
   ·refine AW.exit ?_
    refine athen_e ?_
    obtain rfl:=Option.some.inj h
    rw [← hd3 _ rfl] at ho2
    have h:=ho2
    refine athen_e ?_
    refine ablock_s ?_
    refine athen_n ?_
    exact AW.weaken (zL [] [] []) (hk_code_run_left_k1 _ h)
end Go.Proofs.Ytkocijiclklbfaa
