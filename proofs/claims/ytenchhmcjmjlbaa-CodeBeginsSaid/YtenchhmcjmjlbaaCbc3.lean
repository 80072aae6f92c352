import Derived.Test.YtenchhmcjmjlbaaCkp
import Derived.Test.YtenchhmcjmjlbaaShk
import Derived.Test.YtenchhmcjmjlbaaAvd
import Derived.Test.YtenchhmcjmjlbaaCbc1
import Derived.Test.YtenchhmcjmjlbaaCbc2
namespace Go.Proofs.Ytenchhmcjmjlbaa
open Go.RowKit
set_option linter.unusedSimpArgs false
set_option linter.unusedVariables false
set_option linter.constructorNameAsVariable false
set_option maxRecDepth 100000
set_option maxHeartbeats 40000000
theorem hc_slices_IndexFunc_3 (s:List (List Int)) (c0:List (List (Int×Int×Int×Int))) {r:Int} (h:slices_IndexFunc_3 s c0=some r):HC Try.prog 144 [(1000,.box 25 [.sl (.sl (.pair (.int .i64) (.pair (.int .i64) (.pair (.int .i64) (.int .i64))))) c0])] [.sl (.sl (.int .i64)) s,.fn (.func 105) [] [.bp 1000 0]] [(1000,.box 25 [.sl (.sl (.pair (.int .i64) (.pair (.int .i64) (.pair (.int .i64) (.int .i64))))) c0])] (.int .i64 r):=by
 unfold slices_IndexFunc_3 at h
 refine zH Try.func144 [.tmp 4] 19 ?_
 refine zo ?_
 refine zB [(0,.sl (.sl (.int .i64)) s),(1,.fn (.func 105) [] [.bp 1000 0])] [(1000,.box 25 [.sl (.sl (.pair (.int .i64) (.pair (.int .i64) (.pair (.int .i64) (.int .i64))))) c0])] ?_
 refine AW.have1 (fun _:Unit=>slices_IndexFunc_3_k1=some r) (fun _=>⟨fr [],hpGet [(1000,.box 25 [.sl (.sl (.pair (.int .i64) (.pair (.int .i64) (.pair (.int .i64) (.int .i64))))) c0])],gt⟩) (fun _ h=>?_) (fun hk_slices_IndexFunc_3_k1=>?_)
 ·as_aux_lemma =>
   unfold slices_IndexFunc_3_k1 at h
   refine zo ?_
   refine zB [(4,.int .i64 (-1))] [(1000,.box 25 [.sl (.sl (.pair (.int .i64) (.pair (.int .i64) (.pair (.int .i64) (.int .i64))))) c0])] ?_
   refine AW.ret ?_
   obtain rfl:=Option.some.inj h
   exact zR [] [] []
 ·refine AW.seq ?_
  refine zo ?_
  refine zB [(0,.sl (.sl (.int .i64)) s),(1,.fn (.func 105) [] [.bp 1000 0]),(7,.int .i64 (s.length:Int)),(8,.int .i64 0)] [(1000,.box 25 [.sl (.sl (.pair (.int .i64) (.pair (.int .i64) (.pair (.int .i64) (.int .i64))))) c0])] ?_
  refine AW.block ?_
  obtain ⟨rv5,hw1,ho2⟩:=Option.bind_eq_some_iff.1 h
  refine AW.loopO (slices_IndexFunc_3_b1 s c0) (fun st1=>⟨fr [(0,.sl (.sl (.int .i64)) s),(1,.fn (.func 105) [] [.bp 1000 0]),(7,.int .i64 (s.length:Int)),(8,.int .i64 st1)],hpGet [(1000,.box 25 [.sl (.sl (.pair (.int .i64) (.pair (.int .i64) (.pair (.int .i64) (.int .i64))))) c0])],gt⟩) 0 hw1 (zL [] [] []) ?_
  as_aux_lemma =>
   intro st1 x4 h hd3
   unfold slices_IndexFunc_3_b1 at h
   refine zo ?_
   refine zB [(0,.sl (.sl (.int .i64)) s),(1,.fn (.func 105) [] [.bp 1000 0]),(7,.int .i64 (s.length:Int)),(8,.int .i64 st1),(9,.bool (decide (st1<(s.length:Int))))] [(1000,.box 25 [.sl (.sl (.pair (.int .i64) (.pair (.int .i64) (.pair (.int .i64) (.int .i64))))) c0])] ?_
   refine AW.seq ?_
   refine zQ h (fun hb6 h=>?_) (fun hb6 h=>?_)
   ·refine zk ?_
    refine AW.seq ?_
    refine AW.block ?_
    refine zo ?_
    refine zB [(0,.sl (.sl (.int .i64)) s),(1,.fn (.func 105) [] [.bp 1000 0]),(5,.int .i64 st1),(7,.int .i64 (s.length:Int)),(8,.int .i64 st1)] [(1000,.box 25 [.sl (.sl (.pair (.int .i64) (.pair (.int .i64) (.pair (.int .i64) (.int .i64))))) c0])] ?_
    refine zo ?_
    obtain ⟨c7,h⟩:=ck_some.1 h
    obtain ⟨c8,h⟩:=ck_some.1 h
    refine zS 5 [(0,.sl (.sl (.int .i64)) s),(1,.fn (.func 105) [] [.bp 1000 0]),(5,.int .i64 st1),(7,.int .i64 (s.length:Int)),(8,.int .i64 st1),(11,.fn (.func 105) [] [.bp 1000 0]),(15,.sl (.int .i64) (s.getD st1.toNat []))] [(1000,.box 25 [.sl (.sl (.pair (.int .i64) (.pair (.int .i64) (.pair (.int .i64) (.int .i64))))) c0])] ?_
    obtain ⟨v0,hv9,h⟩:=Option.bind_eq_some_iff.1 h
    refine zC [] [(1000,1000)] (hc_code_isUse_1 (s.getD st1.toNat []) c0 hv9) [(0,.sl (.sl (.int .i64)) s),(1,.fn (.func 105) [] [.bp 1000 0]),(5,.int .i64 st1),(7,.int .i64 (s.length:Int)),(8,.int .i64 st1),(16,.bool v0)] [(1000,.box 25 [.sl (.sl (.pair (.int .i64) (.pair (.int .i64) (.pair (.int .i64) (.int .i64))))) c0])] ?_
    refine zB [(0,.sl (.sl (.int .i64)) s),(1,.fn (.func 105) [] [.bp 1000 0]),(5,.int .i64 st1),(7,.int .i64 (s.length:Int)),(8,.int .i64 st1),(16,.bool v0)] [(1000,.box 25 [.sl (.sl (.pair (.int .i64) (.pair (.int .i64) (.pair (.int .i64) (.int .i64))))) c0])] ?_
    refine zQ h (fun hb10 h=>?_) (fun hb10 h=>?_)
    ·refine zo ?_
     refine zB [(4,.int .i64 st1)] [(1000,.box 25 [.sl (.sl (.pair (.int .i64) (.pair (.int .i64) (.pair (.int .i64) (.int .i64))))) c0])] ?_
     refine AW.ret ?_
     refine ablock_r ?_
     refine athen_r ?_
     obtain rfl:=Option.some.inj h
     rw [← hd3 _ rfl] at ho2
     have h:=ho2
     try simp only at h
     refine athen_r ?_
     refine ablock_r ?_
     refine athen_r ?_
     obtain rfl:=Option.some.inj h
     exact zR [] [] []
    ·refine zm ?_
     refine athen_n ?_
     refine AW.ops ?_
     obtain ⟨c11,h⟩:=ck_some.1 h
     refine zA [(0,.sl (.sl (.int .i64)) s),(1,.fn (.func 105) [] [.bp 1000 0]),(7,.int .i64 (s.length:Int)),(8,.int .i64 (st1+1))] [(1000,.box 25 [.sl (.sl (.pair (.int .i64) (.pair (.int .i64) (.pair (.int .i64) (.int .i64))))) c0])] ?_
     obtain rfl:=Option.some.inj h
     exact ⟨_,rfl,zL [] [] []⟩
   ·refine AW.exit ?_
    refine athen_e ?_
    obtain rfl:=Option.some.inj h
    try rw [← hd3 _ rfl] at ho2
    have h:=ho2
    try simp only at h
    refine athen_e ?_
    refine ablock_s ?_
    refine athen_n ?_
    exact AW.weaken (zL [] [] []) (hk_slices_IndexFunc_3_k1 () h)
theorem hc_slices_ContainsFunc_3 (s:List (List Int)) (c0:List (List (Int×Int×Int×Int))) {r:Bool} (h:slices_ContainsFunc_3 s c0=some r):HC Try.prog 106 [(1000,.box 25 [.sl (.sl (.pair (.int .i64) (.pair (.int .i64) (.pair (.int .i64) (.int .i64))))) c0])] [.sl (.sl (.int .i64)) s,.fn (.func 105) [] [.bp 1000 0]] [(1000,.box 25 [.sl (.sl (.pair (.int .i64) (.pair (.int .i64) (.pair (.int .i64) (.int .i64))))) c0])] (.bool r):=by
 unfold slices_ContainsFunc_3 at h
 refine zH Try.func106 [.tmp 4] 9 ?_
 refine zo ?_
 refine zB [(0,.sl (.sl (.int .i64)) s),(1,.fn (.func 105) [] [.bp 1000 0])] [(1000,.box 25 [.sl (.sl (.pair (.int .i64) (.pair (.int .i64) (.pair (.int .i64) (.int .i64))))) c0])] ?_
 refine zo ?_
 refine zS 2 [(5,.sl (.sl (.int .i64)) s),(6,.fn (.func 105) [] [.bp 1000 0])] [(1000,.box 25 [.sl (.sl (.pair (.int .i64) (.pair (.int .i64) (.pair (.int .i64) (.int .i64))))) c0])] ?_
 obtain ⟨v0,hv1,h⟩:=Option.bind_eq_some_iff.1 h
 refine zC [] [(1000,1000)] (hc_slices_IndexFunc_3 s c0 hv1) [(7,.int .i64 v0)] [(1000,.box 25 [.sl (.sl (.pair (.int .i64) (.pair (.int .i64) (.pair (.int .i64) (.int .i64))))) c0])] ?_
 refine zB [(4,.bool (decide (0≤v0)))] [(1000,.box 25 [.sl (.sl (.pair (.int .i64) (.pair (.int .i64) (.pair (.int .i64) (.int .i64))))) c0])] ?_
 refine AW.ret ?_
 obtain rfl:=Option.some.inj h
 exact zR [] [] []
theorem hc_code_isUse (c:List (List (Int×Int×Int×Int))) (use:List (List Int)) {r:Bool} (h:code_isUse c use=some r):HC Try.prog 47 [] [.sl (.sl (.pair (.int .i64) (.pair (.int .i64) (.pair (.int .i64) (.int .i64))))) c,.sl (.sl (.int .i64)) use] [] (.bool r):=by
 unfold code_isUse at h
 refine zH Try.func47 [.tmp 4] 21 ?_
 refine zo ?_
 refine zB [(1,.sl (.sl (.int .i64)) use),(2,.bp 2 0)] [(2,.box 25 [.sl (.sl (.pair (.int .i64) (.pair (.int .i64) (.pair (.int .i64) (.int .i64))))) c])] ?_
 refine zo ?_
 refine zB [(1,.sl (.sl (.int .i64)) use),(5,.fn (.func 105) [] [.bp 2 0])] [(2,.box 25 [.sl (.sl (.pair (.int .i64) (.pair (.int .i64) (.pair (.int .i64) (.int .i64))))) c])] ?_
 refine zo ?_
 refine zS 4 [(1,.sl (.sl (.int .i64)) use),(5,.fn (.func 105) [] [.bp 2 0]),(10,.bool (decide (1≤(use.length:Int))))] [(2,.box 25 [.sl (.sl (.pair (.int .i64) (.pair (.int .i64) (.pair (.int .i64) (.int .i64))))) c])] ?_
 rcases zI h with ⟨hb1,h⟩|⟨hb1,h⟩
 ·refine zS 5 [(1,.sl (.sl (.int .i64)) use),(5,.fn (.func 105) [] [.bp 2 0]),(15,.bool (decide ((use.length:Int)≤2)))] [(2,.box 25 [.sl (.sl (.pair (.int .i64) (.pair (.int .i64) (.pair (.int .i64) (.int .i64))))) c])] ?_
  rcases zI h with ⟨hb2,h⟩|⟨hb2,h⟩
  ·refine zS 2 [(15,.bool true),(16,.sl (.sl (.int .i64)) use),(17,.fn (.func 105) [] [.bp 2 0])] [(2,.box 25 [.sl (.sl (.pair (.int .i64) (.pair (.int .i64) (.pair (.int .i64) (.int .i64))))) c])] ?_
   obtain ⟨v0,hv3,h⟩:=Option.bind_eq_some_iff.1 h
   refine zG [] [(1000,2)] (hc_slices_ContainsFunc_3 use c hv3) [(15,.bool true),(18,.bool v0)] [] ?_
   refine zB [(4,.bool (!v0))] [] ?_
   refine AW.ret ?_
   obtain rfl:=Option.some.inj h
   exact zR [] [] []
  ·refine zS 4 [(15,.bool false),(19,.cv (undef))] [] ?_
   refine zB [(4,.bool false)] [] ?_
   refine AW.ret ?_
   obtain rfl:=Option.some.inj h
   exact zR [] [] []
 ·refine zS 5 [(1,.sl (.sl (.int .i64)) use),(5,.fn (.func 105) [] [.bp 2 0]),(15,.bool false)] [(2,.box 25 [.sl (.sl (.pair (.int .i64) (.pair (.int .i64) (.pair (.int .i64) (.int .i64))))) c])] ?_
  refine zS 4 [(15,.bool false),(19,.cv (undef))] [] ?_
  refine zB [(4,.bool false)] [] ?_
  refine AW.ret ?_
  obtain rfl:=Option.some.inj h
  exact zR [] [] []
theorem hc_code_ValidUse (c:List (List (Int×Int×Int×Int))) (use:List (List Int)) {r:Bool×Int} (h:code_ValidUse c use=some r):HC Try.prog 12 [] [.sl (.sl (.pair (.int .i64) (.pair (.int .i64) (.pair (.int .i64) (.int .i64))))) c,.sl (.sl (.int .i64)) use] [] (.tup [.bool r.1,.int .i64 r.2]):=by
 unfold code_ValidUse at h
 refine zH Try.func12 [.tmp 4,.tmp 5] 12 ?_
 refine zo ?_
 refine zB [(0,.sl (.sl (.pair (.int .i64) (.pair (.int .i64) (.pair (.int .i64) (.int .i64))))) c),(1,.sl (.sl (.int .i64)) use)] [] ?_
 refine AW.seq ?_
 refine zo ?_
 refine zS 1 [(0,.sl (.sl (.pair (.int .i64) (.pair (.int .i64) (.pair (.int .i64) (.int .i64))))) c),(1,.sl (.sl (.int .i64)) use),(6,.sl (.sl (.pair (.int .i64) (.pair (.int .i64) (.pair (.int .i64) (.int .i64))))) c)] [] ?_
 obtain ⟨v0,hv1,h⟩:=Option.bind_eq_some_iff.1 h
 refine zC [] [] (hc_code_Valid c hv1) [(0,.sl (.sl (.pair (.int .i64) (.pair (.int .i64) (.pair (.int .i64) (.int .i64))))) c),(1,.sl (.sl (.int .i64)) use),(7,.bool v0)] [] ?_
 refine zB [(0,.sl (.sl (.pair (.int .i64) (.pair (.int .i64) (.pair (.int .i64) (.int .i64))))) c),(1,.sl (.sl (.int .i64)) use),(8,.bool (!v0))] [] ?_
 refine zQ h (fun hb2 h=>?_) (fun hb2 h=>?_)
 ·refine zo ?_
  refine zB [(4,.bool false),(5,.int .i64 80)] [] ?_
  refine zr ?_
  obtain rfl:=Option.some.inj h
  exact zR [] [] []
 ·refine zk ?_
  refine zo ?_
  refine zS 2 [(9,.sl (.sl (.pair (.int .i64) (.pair (.int .i64) (.pair (.int .i64) (.int .i64))))) c),(10,.sl (.sl (.int .i64)) use)] [] ?_
  obtain ⟨v0_2,hv3,h⟩:=Option.bind_eq_some_iff.1 h
  refine zC [] [] (hc_code_isUse c use hv3) [(11,.bool v0_2)] [] ?_
  refine zB [(4,.bool v0_2),(5,.int .i64 0)] [] ?_
  refine AW.ret ?_
  obtain rfl:=Option.some.inj h
  exact zR [] [] []
theorem hc_code_checkUse (c:List (List (Int×Int×Int×Int))) (use:List (List Int)) {r:Int} (h:code_checkUse c use=some r):HC Try.prog 107 [] [.sl (.sl (.pair (.int .i64) (.pair (.int .i64) (.pair (.int .i64) (.int .i64))))) c,.sl (.sl (.int .i64)) use] [] (.int .i64 r):=by
 unfold code_checkUse at h
 refine zH Try.func107 [.tmp 4] 20 ?_
 refine zo ?_
 refine zB [(0,.sl (.sl (.pair (.int .i64) (.pair (.int .i64) (.pair (.int .i64) (.int .i64))))) c),(1,.sl (.sl (.int .i64)) use)] [] ?_
 refine zo ?_
 refine zS 2 [(8,.sl (.sl (.pair (.int .i64) (.pair (.int .i64) (.pair (.int .i64) (.int .i64))))) c),(9,.sl (.sl (.int .i64)) use)] [] ?_
 obtain ⟨v0,hv1,h⟩:=Option.bind_eq_some_iff.1 h
 refine zC [] [] (hc_code_ValidUse c use hv1) [(10,.tup [.bool v0.1,.int .i64 v0.2])] [] ?_
 refine zB [(5,.bool v0.1),(6,.int .i64 v0.2)] [] ?_
 refine AW.seq ?_
 refine zo ?_
 refine zS 3 [(5,.bool v0.1),(6,.int .i64 v0.2),(15,.bool (decide (v0.2=0)))] [] ?_
 rcases zI h with ⟨hb2,h⟩|⟨hb2,h⟩
 ·refine zB [(6,.int .i64 v0.2),(18,.bool (!v0.1))] [] ?_
  refine zQ h (fun hb3 h=>?_) (fun hb3 h=>?_)
  ·refine zo ?_
   refine zB [(4,.int .i64 81)] [] ?_
   refine zr ?_
   obtain rfl:=Option.some.inj h
   exact zR [] [] []
  ·refine zk ?_
   refine zo ?_
   refine zB [(4,.int .i64 v0.2)] [] ?_
   refine AW.ret ?_
   obtain rfl:=Option.some.inj h
   exact zR [] [] []
 ·refine zB [(6,.int .i64 v0.2),(18,.bool false)] [] ?_
  refine AW.cond (b:=false) rfl (fun hb4=>by cases hb4) (fun _=>?_)
  refine zk ?_
  refine zo ?_
  refine zB [(4,.int .i64 v0.2)] [] ?_
  refine AW.ret ?_
  obtain rfl:=Option.some.inj h
  exact zR [] [] []
theorem hc_code_run_hasLine (r0:((List (List (Int×Int×Int×Int)))×(List (List Int)))×(List Int)×(El T80)×(Int×Int×Int)×(El T85)×(El T86)×Int) (thread:Int) {r:Bool} (h:code_run_hasLine r0 thread=some r):HC Try.prog 117 [] [.agg (.sl (.sl (.pair (.int .i64) (.pair (.int .i64) (.pair (.int .i64) (.int .i64))))) r0.1.1::(.sl (.sl (.int .i64)) r0.1.2::(.sl (.int .i64) r0.2.1::(cellsX T80 r0.2.2.1++(.int .i64 r0.2.2.2.1.1::(.int .i64 r0.2.2.2.1.2.1::(.int .i64 r0.2.2.2.1.2.2::(cellsX T85 r0.2.2.2.2.1++(cellsX T86 r0.2.2.2.2.2.1++(.int .i64 r0.2.2.2.2.2.2::[])))))))))),.int .i64 thread] [] (.bool r):=by
 unfold code_run_hasLine at h
 refine zH Try.func117 [.tmp 4] 26 ?_
 refine zo ?_
 refine zB [(1,.int .i64 thread),(2,.bp 2 0)] [(2,.box 88 (.sl (.sl (.pair (.int .i64) (.pair (.int .i64) (.pair (.int .i64) (.int .i64))))) r0.1.1::(.sl (.sl (.int .i64)) r0.1.2::(.sl (.int .i64) r0.2.1::(cellsX T80 r0.2.2.1++(.int .i64 r0.2.2.2.1.1::(.int .i64 r0.2.2.2.1.2.1::(.int .i64 r0.2.2.2.1.2.2::(cellsX T85 r0.2.2.2.2.1++(cellsX T86 r0.2.2.2.2.2.1++(.int .i64 r0.2.2.2.2.2.2::[])))))))))))] ?_
 refine AW.seq ?_
 refine AW.draw tab_ok mixed_ok [] [] (by decide) (lex_fast (by kernel_rfl)) ?_
 as_aux_lemma =>
  refine adops_cut 5 (fun K' hK1=>?_)
  try dsimp only [List.drop_succ_cons,List.drop_zero,List.take_succ_cons,List.take_zero]
  simp only [go_sem]
  repeat with_reducible refine zN ?_
  refine hK1 _ ?_
  as_aux_lemma =>
   obtain ⟨v0,hv2,h⟩:=Option.bind_eq_some_iff.1 h
   refine adops.call (by first|trivial|rfl) rfl rfl rfl (fun _ h=>h) [] [] (hc_code_isBelow thread (r0.1.2.length:Int) hv2) rfl (by (simp only [go_sem])<;>(with_reducible and_intros)<;>first|assumption|rfl|omega|(unfold maxLen; omega)) (by (simp only [go_sem])<;>(with_reducible and_intros)<;>first|assumption|rfl|omega|(unfold maxLen; omega)) rfl ?_
   refine adops_cut 1 (fun K' hK3=>?_)
   try dsimp only [List.drop_succ_cons,List.drop_zero,List.take_succ_cons,List.take_zero]
   simp only [go_sem]
   repeat with_reducible refine zN ?_
   refine hK3 _ ?_
   as_aux_lemma =>
    rcases zI h with ⟨hb4,h⟩|⟨hb4,h⟩
    ·simp only [hb4]
     as_aux_lemma =>
      obtain ⟨c6,h⟩:=ck_some.1 h
      obtain ⟨c7,h⟩:=ck_some.1 h
      obtain ⟨c8,h⟩:=ck_some.1 h
      have hx9:(thread.toNat*8)<16:=kAt_lt c8
      refine adops_cut 6 (fun K' hK5=>?_)
      try dsimp only [List.drop_succ_cons,List.drop_zero,List.take_succ_cons,List.take_zero]
      simp only [go_sem,hb4,c8]
      repeat with_reducible refine zN ?_
      refine hK5 _ ?_
      as_aux_lemma =>
       obtain ⟨c11,h⟩:=ck_some.1 h
       obtain ⟨c12,h⟩:=ck_some.1 h
       refine adops_cut 6 (fun K' hK10=>?_)
       try dsimp only [List.drop_succ_cons,List.drop_zero,List.take_succ_cons,List.take_zero]
       simp only [go_sem,hb4,c8]
       repeat with_reducible refine zN ?_
       refine hK10 _ ?_
       as_aux_lemma =>
        refine adops_cut 3 (fun K' hK13=>?_)
        try dsimp only [List.drop_succ_cons,List.drop_zero,List.take_succ_cons,List.take_zero]
        simp only [go_sem,hb4,c8]
        repeat with_reducible refine zN ?_
        refine hK13 _ ?_
        refine adops_nil ?_
        refine athen_n ?_
        refine zV [(4,.bool (decide ((intAt T85 r0.2.2.2.2.1 (thread.toNat*8))<((r0.1.2.getD thread.toNat []).length:Int))))] [] gt ?_
        as_aux_lemma =>
         refine AW.ret ?_
         obtain rfl:=Option.some.inj h
         exact zR [] [] []
    ·simp only [hb4]
     as_aux_lemma =>
      refine adops_cut 4 (fun K' hK14=>?_)
      try dsimp only [List.drop_succ_cons,List.drop_zero,List.take_succ_cons,List.take_zero]
      simp only [go_sem,hb4]
      repeat with_reducible refine zN ?_
      refine hK14 _ ?_
      as_aux_lemma =>
       refine adops_cut 4 (fun K' hK15=>?_)
       try dsimp only [List.drop_succ_cons,List.drop_zero,List.take_succ_cons,List.take_zero]
       simp only [go_sem,hb4]
       repeat with_reducible refine zN ?_
       refine hK15 _ ?_
       as_aux_lemma =>
        refine adops_cut 4 (fun K' hK16=>?_)
        try dsimp only [List.drop_succ_cons,List.drop_zero,List.take_succ_cons,List.take_zero]
        simp only [go_sem,hb4]
        repeat with_reducible refine zN ?_
        refine hK16 _ ?_
        as_aux_lemma =>
         refine adops_cut 3 (fun K' hK17=>?_)
         try dsimp only [List.drop_succ_cons,List.drop_zero,List.take_succ_cons,List.take_zero]
         simp only [go_sem,hb4]
         repeat with_reducible refine zN ?_
         refine hK17 _ ?_
         refine adops_nil ?_
         refine athen_n ?_
         refine zV [(4,.bool false)] [] gt ?_
         as_aux_lemma =>
          refine AW.ret ?_
          obtain rfl:=Option.some.inj h
          exact zR [] [] []
end Go.Proofs.Ytenchhmcjmjlbaa
