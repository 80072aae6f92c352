import Derived.Test.YtcckpmeepcoafaaDoorHzp
import Derived.Test.YtcckpmeepcoafaaDoorShz
import Derived.Test.YtcckpmeepcoafaaDoorAvd
import Derived.Test.YtcckpmeepcoafaaDoorHhc1
import Derived.Test.YtcckpmeepcoafaaDoorHhc2
import Derived.Test.YtcckpmeepcoafaaDoorHhc4
import Derived.Test.YtcckpmeepcoafaaDoorHhc6
namespace Go.Proofs.YtcckpmeepcoafaaDoor
open Go.RowKit
set_option linter.unusedSimpArgs false
set_option linter.unusedVariables false
set_option linter.constructorNameAsVariable false
set_option maxRecDepth 100000
set_option maxHeartbeats 40000000
theorem hc_hazard_Play (threads:Int) (size:Int) (deeds:List (Int×Int×Int×Int)) {r:(List Int)×Int} (h:hazard_Play threads size deeds=some r):HC Tryd.prog 41 [] [.int .i64 threads,.int .i64 size,.sl (.pair (.int .i64) (.pair (.int .i64) (.pair (.int .i64) (.int .i64)))) deeds] [(2000,.arr 3 (.int .i64) r.1)] (.tup [.own 2000,.int .i64 r.2]):=by
 unfold hazard_Play at h
 refine zH Tryd.func41 [.tmp 6,.tmp 7] 49 ?_
 refine zo ?_
 refine zB [(0,.int .i64 threads),(1,.int .i64 size),(2,.sl (.pair (.int .i64) (.pair (.int .i64) (.pair (.int .i64) (.int .i64)))) deeds)] [] ?_
 refine zo ?_
 refine zS 2 [(2,.sl (.pair (.int .i64) (.pair (.int .i64) (.pair (.int .i64) (.int .i64)))) deeds),(16,.int .i64 threads),(17,.int .i64 size)] [] ?_
 obtain ⟨v0,hv1,h⟩:=Option.bind_eq_some_iff.1 h
 rcases v0 with v0_2|v0_3
 ·try simp only at h
  refine zC [] [] (hc_hazard_New_a0 threads size hv1) [(2,.sl (.pair (.int .i64) (.pair (.int .i64) (.pair (.int .i64) (.int .i64)))) deeds),(18,.tup [.cv (.pointer none),.int .i64 2])] [] ?_
  refine zB [(2,.sl (.pair (.int .i64) (.pair (.int .i64) (.pair (.int .i64) (.int .i64)))) deeds),(8,.cv (.pointer none)),(9,.int .i64 2)] [] ?_
  refine AW.seq ?_
  refine zo ?_
  have hx2:(!decide ((2:Int)=0))=true:=rfl
  refine zB [(2,.sl (.pair (.int .i64) (.pair (.int .i64) (.pair (.int .i64) (.int .i64)))) deeds),(8,.cv (.pointer none)),(9,.int .i64 2),(22,.bool true)] [] ?_
  refine AW.cond (b:=true) rfl (fun _=>?_) (fun hb3=>by cases hb3)
  refine zo ?_
  refine zB [(6,.cv (.slice none 0 0)),(7,.int .i64 2)] [] ?_
  refine zr ?_
  obtain rfl:=Option.some.inj h
  exact zR [] [2000] []
 ·try simp only at h
  refine zC [] [] (hc_hazard_New_a1 threads size hv1) [(2,.sl (.pair (.int .i64) (.pair (.int .i64) (.pair (.int .i64) (.int .i64)))) deeds),(18,.tup [.bp 28000 0,.int .i64 0])] [(28000,.box 71 (.int .i64 threads::(.int .i64 size::(cellsX T63 (Ty.dflt T63)++(cellsX T65 v0_3++(cellsX T69 (Ty.dflt T69)))))))] ?_
  refine zB [(2,.sl (.pair (.int .i64) (.pair (.int .i64) (.pair (.int .i64) (.int .i64)))) deeds),(8,.bp 28000 0),(9,.int .i64 0)] [(28000,.box 71 (.int .i64 threads::(.int .i64 size::(cellsX T63 (Ty.dflt T63)++(cellsX T65 v0_3++(cellsX T69 (Ty.dflt T69)))))))] ?_
  refine AW.seq ?_
  refine zo ?_
  have hx4:(!decide ((0:Int)=0))=false:=rfl
  refine zB [(2,.sl (.pair (.int .i64) (.pair (.int .i64) (.pair (.int .i64) (.int .i64)))) deeds),(8,.bp 28000 0),(9,.int .i64 0),(22,.bool false)] [(28000,.box 71 (.int .i64 threads::(.int .i64 size::(cellsX T63 (Ty.dflt T63)++(cellsX T65 v0_3++(cellsX T69 (Ty.dflt T69)))))))] ?_
  refine AW.cond (b:=false) rfl (fun hb5=>by cases hb5) (fun _=>?_)
  refine zk ?_
  refine AW.seq ?_
  refine zo ?_
  refine zB [(2,.sl (.pair (.int .i64) (.pair (.int .i64) (.pair (.int .i64) (.int .i64)))) deeds),(8,.bp 28000 0),(26,.bool (decide (100<(deeds.length:Int))))] [(28000,.box 71 (.int .i64 threads::(.int .i64 size::(cellsX T63 (Ty.dflt T63)++(cellsX T65 v0_3++(cellsX T69 (Ty.dflt T69)))))))] ?_
  refine zQ h (fun hb6 h=>?_) (fun hb6 h=>?_)
  ·refine zo ?_
   refine zB [(6,.cv (.slice none 0 0)),(7,.int .i64 2)] [] ?_
   refine zr ?_
   obtain rfl:=Option.some.inj h
   exact zR [] [2000] []
  ·refine zk ?_
   refine zo ?_
   refine zB [(2,.sl (.pair (.int .i64) (.pair (.int .i64) (.pair (.int .i64) (.int .i64)))) deeds),(8,.bp 28000 0),(10,.cv (.slice none 0 0))] [(28000,.box 71 (.int .i64 threads::(.int .i64 size::(cellsX T63 (Ty.dflt T63)++(cellsX T65 v0_3++(cellsX T69 (Ty.dflt T69)))))))] ?_
   refine AW.have1 (fun b1:(List Int)=>hazard_Play_k1 b1=some r) (fun b1=>⟨fr [(10,.own 46)],hpGet [(46,.arr 3 (.int .i64) b1)],gt⟩) (fun b1 h=>?_) (fun hk_hazard_Play_k1=>?_)
   ·as_aux_lemma =>
     unfold hazard_Play_k1 at h
     refine zo ?_
     refine zB [(6,.own 46),(7,.int .i64 0)] [(46,.arr 3 (.int .i64) b1)] ?_
     refine AW.ret ?_
     obtain rfl:=Option.some.inj h
     exact zR [] [] [(2000,46)]
   ·refine AW.seq ?_
    refine zo ?_
    refine zB [(8,.bp 28000 0),(10,.cv (.slice none 0 0)),(27,.sl (.pair (.int .i64) (.pair (.int .i64) (.pair (.int .i64) (.int .i64)))) deeds),(28,.int .i64 (deeds.length:Int)),(29,.int .i64 0)] [(28000,.box 71 (.int .i64 threads::(.int .i64 size::(cellsX T63 (Ty.dflt T63)++(cellsX T65 v0_3++(cellsX T69 (Ty.dflt T69)))))))] ?_
    refine AW.block ?_
    obtain ⟨rv11,hw7,ho8⟩:=Option.bind_eq_some_iff.1 h
    refine AW.loopO (hazard_Play_b1 threads size deeds) (fun st1=>⟨fr [(8,.bp 28000 0),(10,.own 46),(27,.sl (.pair (.int .i64) (.pair (.int .i64) (.pair (.int .i64) (.int .i64)))) deeds),(28,.int .i64 (deeds.length:Int)),(29,.int .i64 st1.2.2.2.2)],hpGet [(46,.arr 3 (.int .i64) st1.2.2.2.1),(28000,.box 71 (.int .i64 threads::(.int .i64 size::(cellsX T63 st1.1++(cellsX T65 st1.2.1++(cellsX T69 st1.2.2.1))))))],gt⟩) ((Ty.dflt T63),v0_3,(Ty.dflt T69),[],0) hw7 (zL [] [46] []) ?_
    as_aux_lemma =>
     intro st1 x10 h hd9
     unfold hazard_Play_b1 at h
     refine zo ?_
     refine zB [(8,.bp 28000 0),(10,.own 46),(27,.sl (.pair (.int .i64) (.pair (.int .i64) (.pair (.int .i64) (.int .i64)))) deeds),(28,.int .i64 (deeds.length:Int)),(29,.int .i64 st1.2.2.2.2),(30,.bool (decide (st1.2.2.2.2<(deeds.length:Int))))] [(46,.arr 3 (.int .i64) st1.2.2.2.1),(28000,.box 71 (.int .i64 threads::(.int .i64 size::(cellsX T63 st1.1++(cellsX T65 st1.2.1++(cellsX T69 st1.2.2.1))))))] ?_
     refine AW.seq ?_
     refine zQ h (fun hb12 h=>?_) (fun hb12 h=>?_)
     ·refine zk ?_
      refine AW.seq ?_
      refine AW.block ?_
      refine zo ?_
      obtain ⟨c13,h⟩:=ck_some.1 h
      obtain ⟨c14,h⟩:=ck_some.1 h
      refine zB [(8,.bp 28000 0),(10,.own 46),(12,.bp 12 0),(27,.sl (.pair (.int .i64) (.pair (.int .i64) (.pair (.int .i64) (.int .i64)))) deeds),(28,.int .i64 (deeds.length:Int)),(29,.int .i64 st1.2.2.2.2)] [(12,.box 33 [.int .i64 (deeds.getD st1.2.2.2.2.toNat (0,0,0,0)).1,.int .i64 (deeds.getD st1.2.2.2.2.toNat (0,0,0,0)).2.1,.int .i64 (deeds.getD st1.2.2.2.2.toNat (0,0,0,0)).2.2.1,.int .i64 (deeds.getD st1.2.2.2.2.toNat (0,0,0,0)).2.2.2]),(46,.arr 3 (.int .i64) st1.2.2.2.1),(28000,.box 71 (.int .i64 threads::(.int .i64 size::(cellsX T63 st1.1++(cellsX T65 st1.2.1++(cellsX T69 st1.2.2.1))))))] ?_
      refine zo ?_
      refine zS 2 [(8,.bp 28000 0),(10,.own 46),(27,.sl (.pair (.int .i64) (.pair (.int .i64) (.pair (.int .i64) (.int .i64)))) deeds),(28,.int .i64 (deeds.length:Int)),(29,.int .i64 st1.2.2.2.2),(34,.bp 28000 0),(35,.agg [.int .i64 (deeds.getD st1.2.2.2.2.toNat (0,0,0,0)).1,.int .i64 (deeds.getD st1.2.2.2.2.toNat (0,0,0,0)).2.1,.int .i64 (deeds.getD st1.2.2.2.2.toNat (0,0,0,0)).2.2.1,.int .i64 (deeds.getD st1.2.2.2.2.toNat (0,0,0,0)).2.2.2])] [(46,.arr 3 (.int .i64) st1.2.2.2.1),(28000,.box 71 (.int .i64 threads::(.int .i64 size::(cellsX T63 st1.1++(cellsX T65 st1.2.1++(cellsX T69 st1.2.2.1))))))] ?_
      obtain ⟨v0_4,hv15,h⟩:=Option.bind_eq_some_iff.1 h
      refine zC [] [(1000,28000)] (hc_hazard_Yard_Do (deeds.getD st1.2.2.2.2.toNat (0,0,0,0)) (threads,size,st1.1,st1.2.1,st1.2.2.1) hv15) [(8,.bp 28000 0),(10,.own 46),(27,.sl (.pair (.int .i64) (.pair (.int .i64) (.pair (.int .i64) (.int .i64)))) deeds),(28,.int .i64 (deeds.length:Int)),(29,.int .i64 st1.2.2.2.2),(36,.tup [.int .i64 v0_4.1,.int .i64 v0_4.2.1])] [(46,.arr 3 (.int .i64) st1.2.2.2.1),(28000,.box 71 (.int .i64 threads::(.int .i64 size::(cellsX T63 v0_4.2.2.1++(cellsX T65 v0_4.2.2.2.1++(cellsX T69 v0_4.2.2.2.2))))))] ?_
      refine zB [(8,.bp 28000 0),(10,.own 46),(13,.int .i64 v0_4.1),(14,.int .i64 v0_4.2.1),(27,.sl (.pair (.int .i64) (.pair (.int .i64) (.pair (.int .i64) (.int .i64)))) deeds),(28,.int .i64 (deeds.length:Int)),(29,.int .i64 st1.2.2.2.2)] [(46,.arr 3 (.int .i64) st1.2.2.2.1),(28000,.box 71 (.int .i64 threads::(.int .i64 size::(cellsX T63 v0_4.2.2.1++(cellsX T65 v0_4.2.2.2.1++(cellsX T69 v0_4.2.2.2.2))))))] ?_
      refine AW.seq ?_
      refine zo ?_
      refine zB [(8,.bp 28000 0),(10,.own 46),(13,.int .i64 v0_4.1),(14,.int .i64 v0_4.2.1),(27,.sl (.pair (.int .i64) (.pair (.int .i64) (.pair (.int .i64) (.int .i64)))) deeds),(28,.int .i64 (deeds.length:Int)),(29,.int .i64 st1.2.2.2.2),(40,.bool (!(decide (v0_4.2.1=0))))] [(46,.arr 3 (.int .i64) st1.2.2.2.1),(28000,.box 71 (.int .i64 threads::(.int .i64 size::(cellsX T63 v0_4.2.2.1++(cellsX T65 v0_4.2.2.2.1++(cellsX T69 v0_4.2.2.2.2))))))] ?_
      refine zQ h (fun hb16 h=>?_) (fun hb16 h=>?_)
      ·refine AW.ops ?_
       obtain ⟨c17,h⟩:=ck_some.1 h
       refine zB [(8,.bp 28000 0),(10,.own 46),(13,.int .i64 (-v0_4.2.1)),(27,.sl (.pair (.int .i64) (.pair (.int .i64) (.pair (.int .i64) (.int .i64)))) deeds),(28,.int .i64 (deeds.length:Int)),(29,.int .i64 st1.2.2.2.2)] [(46,.arr 3 (.int .i64) st1.2.2.2.1),(28000,.box 71 (.int .i64 threads::(.int .i64 size::(cellsX T63 v0_4.2.2.1++(cellsX T65 v0_4.2.2.2.1++(cellsX T69 v0_4.2.2.2.2))))))] ?_
       refine AW.ops ?_
       obtain ⟨c18,h⟩:=ck_some.1 h
       refine zA [(8,.bp 28000 0),(10,.own 46),(27,.sl (.pair (.int .i64) (.pair (.int .i64) (.pair (.int .i64) (.int .i64)))) deeds),(28,.int .i64 (deeds.length:Int)),(29,.int .i64 st1.2.2.2.2)] [(46,.arr 3 (.int .i64) (st1.2.2.2.1++[(-v0_4.2.1)])),(28000,.box 71 (.int .i64 threads::(.int .i64 size::(cellsX T63 v0_4.2.2.1++(cellsX T65 v0_4.2.2.2.1++(cellsX T69 v0_4.2.2.2.2))))))] ?_
       refine ablock_n ?_
       refine athen_n ?_
       refine AW.ops ?_
       obtain ⟨c19,h⟩:=ck_some.1 h
       refine zA [(8,.bp 28000 0),(10,.own 46),(27,.sl (.pair (.int .i64) (.pair (.int .i64) (.pair (.int .i64) (.int .i64)))) deeds),(28,.int .i64 (deeds.length:Int)),(29,.int .i64 (st1.2.2.2.2+1))] [(46,.arr 3 (.int .i64) (st1.2.2.2.1++[(-v0_4.2.1)])),(28000,.box 71 (.int .i64 threads::(.int .i64 size::(cellsX T63 v0_4.2.2.1++(cellsX T65 v0_4.2.2.2.1++(cellsX T69 v0_4.2.2.2.2))))))] ?_
       obtain rfl:=Option.some.inj h
       exact ⟨_,rfl,zL [] [] []⟩
      ·refine zk ?_
       refine AW.ops ?_
       obtain ⟨c20,h⟩:=ck_some.1 h
       refine zA [(8,.bp 28000 0),(10,.own 46),(27,.sl (.pair (.int .i64) (.pair (.int .i64) (.pair (.int .i64) (.int .i64)))) deeds),(28,.int .i64 (deeds.length:Int)),(29,.int .i64 st1.2.2.2.2)] [(46,.arr 3 (.int .i64) (st1.2.2.2.1++[v0_4.1])),(28000,.box 71 (.int .i64 threads::(.int .i64 size::(cellsX T63 v0_4.2.2.1++(cellsX T65 v0_4.2.2.2.1++(cellsX T69 v0_4.2.2.2.2))))))] ?_
       refine ablock_n ?_
       refine athen_n ?_
       refine AW.ops ?_
       obtain ⟨c21,h⟩:=ck_some.1 h
       refine zA [(8,.bp 28000 0),(10,.own 46),(27,.sl (.pair (.int .i64) (.pair (.int .i64) (.pair (.int .i64) (.int .i64)))) deeds),(28,.int .i64 (deeds.length:Int)),(29,.int .i64 (st1.2.2.2.2+1))] [(46,.arr 3 (.int .i64) (st1.2.2.2.1++[v0_4.1])),(28000,.box 71 (.int .i64 threads::(.int .i64 size::(cellsX T63 v0_4.2.2.1++(cellsX T65 v0_4.2.2.2.1++(cellsX T69 v0_4.2.2.2.2))))))] ?_
       obtain rfl:=Option.some.inj h
       exact ⟨_,rfl,zL [] [] []⟩
     ·refine AW.exit ?_
      refine athen_e ?_
      obtain rfl:=Option.some.inj h
      rw [← hd9 _ rfl] at ho8
      have h:=ho8
      refine athen_e ?_
      refine ablock_s ?_
      refine athen_n ?_
      exact AW.weaken (zL [] [] []) (hk_hazard_Play_k1 _ h)
theorem hc_linealref06_SameInts (a:List Int) (b:List Int) {r:Bool} (h:linealref06_SameInts a b=some r):HC Tryd.prog 26 [] [.sl (.int .i64) a,.sl (.int .i64) b] [] (.bool r):=by
 unfold linealref06_SameInts at h
 refine zH Tryd.func26 [.tmp 4] 26 ?_
 refine zo ?_
 refine zB [(0,.sl (.int .i64) a),(1,.sl (.int .i64) b)] [] ?_
 refine AW.seq ?_
 refine zo ?_
 refine zB [(0,.sl (.int .i64) a),(1,.sl (.int .i64) b),(10,.bool (!(decide ((a.length:Int)=(b.length:Int)))))] [] ?_
 refine zQ h (fun hb1 h=>?_) (fun hb1 h=>?_)
 ·refine zo ?_
  refine zB [(4,.bool false)] [] ?_
  refine zr ?_
  obtain rfl:=Option.some.inj h
  exact zR [] [] []
 ·refine zk ?_
  refine AW.have1 (fun _:Unit=>linealref06_SameInts_k1=some r) (fun _=>⟨fr [],hpGet [],gt⟩) (fun _ h=>?_) (fun hk_linealref06_SameInts_k1=>?_)
  ·as_aux_lemma =>
    unfold linealref06_SameInts_k1 at h
    refine zo ?_
    refine zB [(4,.bool true)] [] ?_
    refine AW.ret ?_
    obtain rfl:=Option.some.inj h
    exact zR [] [] []
  ·refine AW.seq ?_
   refine zo ?_
   refine zB [(0,.sl (.int .i64) a),(1,.sl (.int .i64) b),(5,.int .i64 0)] [] ?_
   refine AW.block ?_
   obtain ⟨rv6,hw2,ho3⟩:=Option.bind_eq_some_iff.1 h
   refine AW.loopO (linealref06_SameInts_b1 a b) (fun st1=>⟨fr [(0,.sl (.int .i64) a),(1,.sl (.int .i64) b),(5,.int .i64 st1)],hpGet [],gt⟩) 0 hw2 (zL [] [] []) ?_
   as_aux_lemma =>
    intro st1 x5 h hd4
    unfold linealref06_SameInts_b1 at h
    refine AW.seq ?_
    refine zo ?_
    refine zB [(0,.sl (.int .i64) a),(1,.sl (.int .i64) b),(5,.int .i64 st1),(14,.bool (decide (st1<(a.length:Int))))] [] ?_
    refine zQ h (fun hb7 h=>?_) (fun hb7 h=>?_)
    ·refine zk ?_
     refine AW.seq ?_
     refine AW.block ?_
     refine AW.seq ?_
     refine AW.draw tab_ok mixed_ok [] [] (by decide) (lex_fast (by kernel_rfl)) ?_
     as_aux_lemma =>
      obtain ⟨c9,h⟩:=ck_some.1 h
      obtain ⟨c10,h⟩:=ck_some.1 h
      refine adops_cut 6 (fun K' hK8=>?_)
      try dsimp only [List.drop_succ_cons,List.drop_zero,List.take_succ_cons,List.take_zero]
      simp only [go_sem,hb1,hb7]
      repeat with_reducible refine zN ?_
      refine hK8 _ ?_
      as_aux_lemma =>
       obtain ⟨c12,h⟩:=ck_some.1 h
       obtain ⟨c13,h⟩:=ck_some.1 h
       refine adops_cut 3 (fun K' hK11=>?_)
       try dsimp only [List.drop_succ_cons,List.drop_zero,List.take_succ_cons,List.take_zero]
       simp only [go_sem,hb1,hb7]
       repeat with_reducible refine zN ?_
       refine hK11 _ ?_
       refine adops_nil ?_
       refine athen_n ?_
       refine zV [(0,.sl (.int .i64) a),(1,.sl (.int .i64) b),(5,.int .i64 st1),(25,.bool (!(decide ((a.getD st1.toNat 0)=(b.getD st1.toNat 0)))))] [] gt ?_
       as_aux_lemma =>
        refine zQ h (fun hb14 h=>?_) (fun hb14 h=>?_)
        ·refine zo ?_
         refine zB [(4,.bool false)] [] ?_
         refine AW.ret ?_
         refine ablock_r ?_
         refine athen_r ?_
         obtain rfl:=Option.some.inj h
         try rw [← hd4 _ rfl] at ho3
         have h:=ho3
         try simp only at h
         refine athen_r ?_
         refine ablock_r ?_
         refine athen_r ?_
         obtain rfl:=Option.some.inj h
         exact zR [] [] []
        ·refine zm ?_
         refine athen_n ?_
         refine AW.ops ?_
         obtain ⟨c15,h⟩:=ck_some.1 h
         refine zA [(0,.sl (.int .i64) a),(1,.sl (.int .i64) b),(5,.int .i64 (st1+1))] [] ?_
         obtain rfl:=Option.some.inj h
         exact ⟨_,rfl,zL [] [] []⟩
    ·refine AW.exit ?_
     refine athen_e ?_
     obtain rfl:=Option.some.inj h
     try rw [← hd4 _ rfl] at ho3
     have h:=ho3
     try simp only at h
     refine athen_e ?_
     refine ablock_s ?_
     refine athen_n ?_
     exact AW.weaken (zL [] [] []) (hk_linealref06_SameInts_k1 () h)
theorem hc_lineallaw06_Sane {r:Bool} (h:lineallaw06_Sane=some r):HC Tryd.prog 14 [] [] [] (.bool r):=by
 unfold lineallaw06_Sane at h
 refine zH Tryd.func14 [.tmp 0] 19 ?_
 refine zo ?_
 refine zB [] [] ?_
 refine zo ?_
 refine zS 5 [(8,.own 8)] [(8,.arr 33 (.pair (.int .i64) (.pair (.int .i64) (.pair (.int .i64) (.int .i64)))) [(1,0,0,0),(1,0,0,0),(4,0,0,0),(4,0,1,0)])] ?_
 obtain ⟨v0,hv1,h⟩:=Option.bind_eq_some_iff.1 h
 refine zC [8] [] (hc_hazard_Play 2 2 [(1,0,0,0),(1,0,0,0),(4,0,0,0),(4,0,1,0)] hv1) [(9,.tup [.own 19000,.int .i64 v0.2])] [(19000,.arr 3 (.int .i64) v0.1)] ?_
 refine zB [(1,.own 19000),(2,.int .i64 v0.2)] [(19000,.arr 3 (.int .i64) v0.1)] ?_
 refine zo ?_
 refine zS 3 [(1,.own 19000),(14,.bool (decide (v0.2=0)))] [(19000,.arr 3 (.int .i64) v0.1)] ?_
 rcases zI h with ⟨hb2,h⟩|⟨hb2,h⟩
 ·refine zS 2 [(14,.bool true),(15,.own 19000),(16,.own 16)] [(16,.arr 3 (.int .i64) [0,1,0,2]),(19000,.arr 3 (.int .i64) v0.1)] ?_
  obtain ⟨v0_2,hv3,h⟩:=Option.bind_eq_some_iff.1 h
  refine zG [16,19000] [] (hc_linealref06_SameInts v0.1 [0,1,0,2] hv3) [(14,.bool true),(17,.bool v0_2)] [] ?_
  refine zB [(0,.bool v0_2)] [] ?_
  refine AW.ret ?_
  obtain rfl:=Option.some.inj h
  exact zR [] [] []
 ·refine zB [(0,.bool false)] [] ?_
  refine AW.ret ?_
  obtain rfl:=Option.some.inj h
  exact zR [] [] []
theorem hc_hazard_Yard_count (where0:Int) (y:Int×Int×(El T63)×(El T65)×(El T69)) {r:Int} (h:hazard_Yard_count where0 y=some r):HC Tryd.prog 68 [(1000,.box 71 (.int .i64 y.1::(.int .i64 y.2.1::(cellsX T63 y.2.2.1++(cellsX T65 y.2.2.2.1++(cellsX T69 y.2.2.2.2))))))] [.bp 1000 0,.int .i64 where0] [(1000,.box 71 (.int .i64 y.1::(.int .i64 y.2.1::(cellsX T63 y.2.2.1++(cellsX T65 y.2.2.2.1++(cellsX T69 y.2.2.2.2))))))] (.int .i64 r):=by
 unfold hazard_Yard_count at h
 refine zH Tryd.func68 [.tmp 4] 24 ?_
 refine zo ?_
 refine zB [(0,.bp 1000 0),(1,.int .i64 where0)] [(1000,.box 71 (.int .i64 y.1::(.int .i64 y.2.1::(cellsX T63 y.2.2.1++(cellsX T65 y.2.2.2.1++(cellsX T69 y.2.2.2.2))))))] ?_
 refine AW.seq ?_
 refine zo ?_
 refine zS 1 [(0,.bp 1000 0),(1,.int .i64 where0),(8,.bp 1000 0)] [(1000,.box 71 (.int .i64 y.1::(.int .i64 y.2.1::(cellsX T63 y.2.2.1++(cellsX T65 y.2.2.2.1++(cellsX T69 y.2.2.2.2))))))] ?_
 obtain ⟨v0,hv1,h⟩:=Option.bind_eq_some_iff.1 h
 refine zC [] [(1000,1000)] (hc_hazard_Yard_isNone y hv1) [(0,.bp 1000 0),(1,.int .i64 where0),(9,.bool (decide (y.1=0)))] [(1000,.box 71 (.int .i64 y.1::(.int .i64 y.2.1::(cellsX T63 y.2.2.1++(cellsX T65 y.2.2.2.1++(cellsX T69 y.2.2.2.2))))))] ?_
 refine zB [(0,.bp 1000 0),(1,.int .i64 where0),(9,.bool (decide (y.1=0)))] [(1000,.box 71 (.int .i64 y.1::(.int .i64 y.2.1::(cellsX T63 y.2.2.1++(cellsX T65 y.2.2.2.1++(cellsX T69 y.2.2.2.2))))))] ?_
 refine zQ h (fun hb2 h=>?_) (fun hb2 h=>?_)
 ·refine zo ?_
  refine zB [(4,.int .i64 0)] [(1000,.box 71 (.int .i64 y.1::(.int .i64 y.2.1::(cellsX T63 y.2.2.1++(cellsX T65 y.2.2.2.1++(cellsX T69 y.2.2.2.2))))))] ?_
  refine zr ?_
  obtain rfl:=Option.some.inj h
  exact zR [] [] []
 ·refine zk ?_
  refine zo ?_
  refine zB [(0,.bp 1000 0),(1,.int .i64 where0),(5,.int .i64 0)] [(1000,.box 71 (.int .i64 y.1::(.int .i64 y.2.1::(cellsX T63 y.2.2.1++(cellsX T65 y.2.2.2.1++(cellsX T69 y.2.2.2.2))))))] ?_
  refine AW.have1 (fun b1:Int=>hazard_Yard_count_k1 b1=some r) (fun b1=>⟨fr [(5,.int .i64 b1)],hpGet [(1000,.box 71 (.int .i64 y.1::(.int .i64 y.2.1::(cellsX T63 y.2.2.1++(cellsX T65 y.2.2.2.1++(cellsX T69 y.2.2.2.2))))))],gt⟩) (fun b1 h=>?_) (fun hk_hazard_Yard_count_k1=>?_)
  ·as_aux_lemma =>
    unfold hazard_Yard_count_k1 at h
    refine zo ?_
    refine zB [(4,.int .i64 b1)] [(1000,.box 71 (.int .i64 y.1::(.int .i64 y.2.1::(cellsX T63 y.2.2.1++(cellsX T65 y.2.2.2.1++(cellsX T69 y.2.2.2.2))))))] ?_
    refine AW.ret ?_
    obtain rfl:=Option.some.inj h
    exact zR [] [] []
  ·refine AW.seq ?_
   refine zo ?_
   refine zB [(1,.int .i64 where0),(5,.int .i64 0),(13,.agg (cellsX T63 y.2.2.1)),(14,.int .i64 0)] [(1000,.box 71 (.int .i64 y.1::(.int .i64 y.2.1::(cellsX T63 y.2.2.1++(cellsX T65 y.2.2.2.1++(cellsX T69 y.2.2.2.2))))))] ?_
   refine AW.block ?_
   obtain ⟨rv7,hw3,ho4⟩:=Option.bind_eq_some_iff.1 h
   refine AW.loopO (hazard_Yard_count_b1 where0 y) (fun st1=>⟨fr [(1,.int .i64 where0),(5,.int .i64 st1.1),(13,.agg (cellsX T63 y.2.2.1)),(14,.int .i64 st1.2)],hpGet [(1000,.box 71 (.int .i64 y.1::(.int .i64 y.2.1::(cellsX T63 y.2.2.1++(cellsX T65 y.2.2.2.1++(cellsX T69 y.2.2.2.2))))))],gt⟩) (0,0) hw3 (zL [] [] []) ?_
   as_aux_lemma =>
    intro st1 x6 h hd5
    unfold hazard_Yard_count_b1 at h
    refine zo ?_
    refine zB [(1,.int .i64 where0),(5,.int .i64 st1.1),(13,.agg (cellsX T63 y.2.2.1)),(14,.int .i64 st1.2),(15,.bool (decide (st1.2<8)))] [(1000,.box 71 (.int .i64 y.1::(.int .i64 y.2.1::(cellsX T63 y.2.2.1++(cellsX T65 y.2.2.2.1++(cellsX T69 y.2.2.2.2))))))] ?_
    refine AW.seq ?_
    refine zQ h (fun hb8 h=>?_) (fun hb8 h=>?_)
    ·refine zk ?_
     refine AW.seq ?_
     refine AW.block ?_
     refine zo ?_
     obtain ⟨c9,h⟩:=ck_some.1 h
     obtain ⟨c10,h⟩:=ck_some.1 h
     have hx11:(st1.2.toNat*1)<8:=by omega
     refine AO.idxA tab_ok (by decide) rfl rfl tab_63 rfl tab_62 rfl rfl (by first|assumption|omega|(simp only [go_sem,hb2,hb8,hx11])<;>(with_reducible and_intros)<;>first|assumption|rfl|omega|(unfold maxLen; omega)) (by first|assumption|omega|(simp only [go_sem,hb2,hb8,hx11])<;>(with_reducible and_intros)<;>first|assumption|rfl|omega|(unfold maxLen; omega)) (by first|assumption|omega|(simp only [go_sem,hb2,hb8,hx11])<;>(with_reducible and_intros)<;>first|assumption|rfl|omega|(unfold maxLen; omega)) (.inr rfl) (v:=.int .i64 (intAt T63 y.2.2.1 (st1.2.toNat*1))) (by first|assumption|omega|(simp only [go_sem,hb2,hb8,hx11])<;>(with_reducible and_intros)<;>first|assumption|rfl|omega|(unfold maxLen; omega)) ?_
     refine zT [(1,.int .i64 where0),(5,.int .i64 st1.1),(13,.agg (cellsX T63 y.2.2.1)),(14,.int .i64 st1.2),(16,.int .i64 (intAt T63 y.2.2.1 (st1.2.toNat*1)))] [(1000,.box 71 (.int .i64 y.1::(.int .i64 y.2.1::(cellsX T63 y.2.2.1++(cellsX T65 y.2.2.2.1++(cellsX T69 y.2.2.2.2))))))] gt ?_
     refine zB [(1,.int .i64 where0),(5,.int .i64 st1.1),(7,.int .i64 (intAt T63 y.2.2.1 (st1.2.toNat*1))),(13,.agg (cellsX T63 y.2.2.1)),(14,.int .i64 st1.2)] [(1000,.box 71 (.int .i64 y.1::(.int .i64 y.2.1::(cellsX T63 y.2.2.1++(cellsX T65 y.2.2.2.1++(cellsX T69 y.2.2.2.2))))))] ?_
     refine zo ?_
     refine zB [(1,.int .i64 where0),(5,.int .i64 st1.1),(13,.agg (cellsX T63 y.2.2.1)),(14,.int .i64 st1.2),(19,.bool (decide ((intAt T63 y.2.2.1 (st1.2.toNat*1))=where0)))] [(1000,.box 71 (.int .i64 y.1::(.int .i64 y.2.1::(cellsX T63 y.2.2.1++(cellsX T65 y.2.2.2.1++(cellsX T69 y.2.2.2.2))))))] ?_
     refine zQ h (fun hb12 h=>?_) (fun hb12 h=>?_)
     ·refine AW.ops ?_
      obtain ⟨c13,h⟩:=ck_some.1 h
      refine zA [(1,.int .i64 where0),(5,.int .i64 (st1.1+1)),(13,.agg (cellsX T63 y.2.2.1)),(14,.int .i64 st1.2)] [(1000,.box 71 (.int .i64 y.1::(.int .i64 y.2.1::(cellsX T63 y.2.2.1++(cellsX T65 y.2.2.2.1++(cellsX T69 y.2.2.2.2))))))] ?_
      refine ablock_n ?_
      refine athen_n ?_
      refine AW.ops ?_
      obtain ⟨c14,h⟩:=ck_some.1 h
      refine zA [(1,.int .i64 where0),(5,.int .i64 (st1.1+1)),(13,.agg (cellsX T63 y.2.2.1)),(14,.int .i64 (st1.2+1))] [(1000,.box 71 (.int .i64 y.1::(.int .i64 y.2.1::(cellsX T63 y.2.2.1++(cellsX T65 y.2.2.2.1++(cellsX T69 y.2.2.2.2))))))] ?_
      obtain rfl:=Option.some.inj h
      exact ⟨_,rfl,zL [] [] []⟩
     ·refine zm ?_
      refine athen_n ?_
      refine AW.ops ?_
      obtain ⟨c15,h⟩:=ck_some.1 h
      refine zA [(1,.int .i64 where0),(5,.int .i64 st1.1),(13,.agg (cellsX T63 y.2.2.1)),(14,.int .i64 (st1.2+1))] [(1000,.box 71 (.int .i64 y.1::(.int .i64 y.2.1::(cellsX T63 y.2.2.1++(cellsX T65 y.2.2.2.1++(cellsX T69 y.2.2.2.2))))))] ?_
      obtain rfl:=Option.some.inj h
      exact ⟨_,rfl,zL [] [] []⟩
    ·refine AW.exit ?_
     refine athen_e ?_
     obtain rfl:=Option.some.inj h
     rw [← hd5 _ rfl] at ho4
     have h:=ho4
     refine athen_e ?_
     refine ablock_s ?_
     refine athen_n ?_
     exact AW.weaken (zL [] [] []) (hk_hazard_Yard_count_k1 _ h)
theorem hc_hazard_Yard_By (y:Int×Int×(El T63)×(El T65)×(El T69)) {r:Int} (h:hazard_Yard_By y=some r):HC Tryd.prog 46 [(1000,.box 71 (.int .i64 y.1::(.int .i64 y.2.1::(cellsX T63 y.2.2.1++(cellsX T65 y.2.2.2.1++(cellsX T69 y.2.2.2.2))))))] [.bp 1000 0] [(1000,.box 71 (.int .i64 y.1::(.int .i64 y.2.1::(cellsX T63 y.2.2.1++(cellsX T65 y.2.2.2.1++(cellsX T69 y.2.2.2.2))))))] (.int .i64 r):=by
 unfold hazard_Yard_By at h
 refine zH Tryd.func46 [.tmp 2] 5 ?_
 refine zo ?_
 refine zB [(0,.bp 1000 0)] [(1000,.box 71 (.int .i64 y.1::(.int .i64 y.2.1::(cellsX T63 y.2.2.1++(cellsX T65 y.2.2.2.1++(cellsX T69 y.2.2.2.2))))))] ?_
 refine zo ?_
 refine zS 1 [(3,.bp 1000 0)] [(1000,.box 71 (.int .i64 y.1::(.int .i64 y.2.1::(cellsX T63 y.2.2.1++(cellsX T65 y.2.2.2.1++(cellsX T69 y.2.2.2.2))))))] ?_
 obtain ⟨v0,hv1,h⟩:=Option.bind_eq_some_iff.1 h
 refine zC [] [(1000,1000)] (hc_hazard_Yard_count 2 y hv1) [(4,.int .i64 v0)] [(1000,.box 71 (.int .i64 y.1::(.int .i64 y.2.1::(cellsX T63 y.2.2.1++(cellsX T65 y.2.2.2.1++(cellsX T69 y.2.2.2.2))))))] ?_
 refine zB [(2,.int .i64 v0)] [(1000,.box 71 (.int .i64 y.1::(.int .i64 y.2.1::(cellsX T63 y.2.2.1++(cellsX T65 y.2.2.2.1++(cellsX T69 y.2.2.2.2))))))] ?_
 refine AW.ret ?_
 obtain rfl:=Option.some.inj h
 exact zR [] [] []
theorem hc_hazard_Yard_Held (y:Int×Int×(El T63)×(El T65)×(El T69)) {r:(List Int)} (h:hazard_Yard_Held y=some r):HC Tryd.prog 44 [(1000,.box 71 (.int .i64 y.1::(.int .i64 y.2.1::(cellsX T63 y.2.2.1++(cellsX T65 y.2.2.2.1++(cellsX T69 y.2.2.2.2))))))] [.bp 1000 0] [(1000,.box 71 (.int .i64 y.1::(.int .i64 y.2.1::(cellsX T63 y.2.2.1++(cellsX T65 y.2.2.2.1++(cellsX T69 y.2.2.2.2)))))),(2000,.arr 3 (.int .i64) r)] (.own 2000):=by
 unfold hazard_Yard_Held at h
 refine zH Tryd.func44 [.tmp 2] 19 ?_
 refine zo ?_
 refine zB [(0,.bp 1000 0)] [(1000,.box 71 (.int .i64 y.1::(.int .i64 y.2.1::(cellsX T63 y.2.2.1++(cellsX T65 y.2.2.2.1++(cellsX T69 y.2.2.2.2))))))] ?_
 refine AW.seq ?_
 refine zo ?_
 refine zS 1 [(0,.bp 1000 0),(5,.bp 1000 0)] [(1000,.box 71 (.int .i64 y.1::(.int .i64 y.2.1::(cellsX T63 y.2.2.1++(cellsX T65 y.2.2.2.1++(cellsX T69 y.2.2.2.2))))))] ?_
 obtain ⟨v0,hv1,h⟩:=Option.bind_eq_some_iff.1 h
 refine zC [] [(1000,1000)] (hc_hazard_Yard_isNone y hv1) [(0,.bp 1000 0),(6,.bool (decide (y.1=0)))] [(1000,.box 71 (.int .i64 y.1::(.int .i64 y.2.1::(cellsX T63 y.2.2.1++(cellsX T65 y.2.2.2.1++(cellsX T69 y.2.2.2.2))))))] ?_
 refine zB [(0,.bp 1000 0),(6,.bool (decide (y.1=0)))] [(1000,.box 71 (.int .i64 y.1::(.int .i64 y.2.1::(cellsX T63 y.2.2.1++(cellsX T65 y.2.2.2.1++(cellsX T69 y.2.2.2.2))))))] ?_
 refine zQ h (fun hb2 h=>?_) (fun hb2 h=>?_)
 ·refine zo ?_
  refine zB [(2,.cv (.slice none 0 0))] [(1000,.box 71 (.int .i64 y.1::(.int .i64 y.2.1::(cellsX T63 y.2.2.1++(cellsX T65 y.2.2.2.1++(cellsX T69 y.2.2.2.2))))))] ?_
  refine zr ?_
  obtain rfl:=Option.some.inj h
  exact zR [] [2000] []
 ·refine zk ?_
  refine zo ?_
  refine zB [(0,.bp 1000 0),(3,.cv (.slice none 0 0))] [(1000,.box 71 (.int .i64 y.1::(.int .i64 y.2.1::(cellsX T63 y.2.2.1++(cellsX T65 y.2.2.2.1++(cellsX T69 y.2.2.2.2))))))] ?_
  refine AW.have1 (fun b1:(List Int)=>hazard_Yard_Held_k1 b1=some r) (fun b1=>⟨fr [(3,.own 16)],hpGet [(16,.arr 3 (.int .i64) b1),(1000,.box 71 (.int .i64 y.1::(.int .i64 y.2.1::(cellsX T63 y.2.2.1++(cellsX T65 y.2.2.2.1++(cellsX T69 y.2.2.2.2))))))],gt⟩) (fun b1 h=>?_) (fun hk_hazard_Yard_Held_k1=>?_)
  ·as_aux_lemma =>
    unfold hazard_Yard_Held_k1 at h
    refine zo ?_
    refine zB [(2,.own 16)] [(16,.arr 3 (.int .i64) b1),(1000,.box 71 (.int .i64 y.1::(.int .i64 y.2.1::(cellsX T63 y.2.2.1++(cellsX T65 y.2.2.2.1++(cellsX T69 y.2.2.2.2))))))] ?_
    refine AW.ret ?_
    obtain rfl:=Option.some.inj h
    exact zR [] [] [(2000,16)]
  ·refine AW.seq ?_
   refine zo ?_
   refine zB [(0,.bp 1000 0),(3,.cv (.slice none 0 0)),(7,.int .i64 0)] [(1000,.box 71 (.int .i64 y.1::(.int .i64 y.2.1::(cellsX T63 y.2.2.1++(cellsX T65 y.2.2.2.1++(cellsX T69 y.2.2.2.2))))))] ?_
   refine AW.block ?_
   obtain ⟨rv7,hw3,ho4⟩:=Option.bind_eq_some_iff.1 h
   refine AW.loopO (hazard_Yard_Held_b1 y) (fun st1=>⟨fr [(0,.bp 1000 0),(3,.own 16),(7,.int .i64 st1.2)],hpGet [(16,.arr 3 (.int .i64) st1.1),(1000,.box 71 (.int .i64 y.1::(.int .i64 y.2.1::(cellsX T63 y.2.2.1++(cellsX T65 y.2.2.2.1++(cellsX T69 y.2.2.2.2))))))],gt⟩) ([],0) hw3 (zL [] [16] []) ?_
   as_aux_lemma =>
    intro st1 x6 h hd5
    unfold hazard_Yard_Held_b1 at h
    refine zo ?_
    refine zB [(0,.bp 1000 0),(3,.own 16),(7,.int .i64 st1.2),(8,.bool (decide (st1.2<8)))] [(16,.arr 3 (.int .i64) st1.1),(1000,.box 71 (.int .i64 y.1::(.int .i64 y.2.1::(cellsX T63 y.2.2.1++(cellsX T65 y.2.2.2.1++(cellsX T69 y.2.2.2.2))))))] ?_
    refine AW.seq ?_
    refine zQ h (fun hb8 h=>?_) (fun hb8 h=>?_)
    ·refine zk ?_
     refine AW.seq ?_
     refine AW.block ?_
     refine zo ?_
     refine zB [(0,.bp 1000 0),(3,.own 16),(4,.int .i64 st1.2),(7,.int .i64 st1.2)] [(16,.arr 3 (.int .i64) st1.1),(1000,.box 71 (.int .i64 y.1::(.int .i64 y.2.1::(cellsX T63 y.2.2.1++(cellsX T65 y.2.2.2.1++(cellsX T69 y.2.2.2.2))))))] ?_
     refine zo ?_
     refine zS 2 [(0,.bp 1000 0),(3,.own 16),(4,.int .i64 st1.2),(7,.int .i64 st1.2),(10,.bp 1000 0),(11,.int .i64 st1.2)] [(16,.arr 3 (.int .i64) st1.1),(1000,.box 71 (.int .i64 y.1::(.int .i64 y.2.1::(cellsX T63 y.2.2.1++(cellsX T65 y.2.2.2.1++(cellsX T69 y.2.2.2.2))))))] ?_
     obtain ⟨v0_2,hv9,h⟩:=Option.bind_eq_some_iff.1 h
     refine zC [] [(1000,1000)] (hc_hazard_Yard_isHeld st1.2 y hv9) [(0,.bp 1000 0),(3,.own 16),(4,.int .i64 st1.2),(7,.int .i64 st1.2),(12,.bool v0_2)] [(16,.arr 3 (.int .i64) st1.1),(1000,.box 71 (.int .i64 y.1::(.int .i64 y.2.1::(cellsX T63 y.2.2.1++(cellsX T65 y.2.2.2.1++(cellsX T69 y.2.2.2.2))))))] ?_
     refine zB [(0,.bp 1000 0),(3,.own 16),(4,.int .i64 st1.2),(7,.int .i64 st1.2),(12,.bool v0_2)] [(16,.arr 3 (.int .i64) st1.1),(1000,.box 71 (.int .i64 y.1::(.int .i64 y.2.1::(cellsX T63 y.2.2.1++(cellsX T65 y.2.2.2.1++(cellsX T69 y.2.2.2.2))))))] ?_
     refine zQ h (fun hb10 h=>?_) (fun hb10 h=>?_)
     ·refine AW.ops ?_
      obtain ⟨c11,h⟩:=ck_some.1 h
      refine zA [(0,.bp 1000 0),(3,.own 16),(7,.int .i64 st1.2)] [(16,.arr 3 (.int .i64) (st1.1++[st1.2])),(1000,.box 71 (.int .i64 y.1::(.int .i64 y.2.1::(cellsX T63 y.2.2.1++(cellsX T65 y.2.2.2.1++(cellsX T69 y.2.2.2.2))))))] ?_
      refine ablock_n ?_
      refine athen_n ?_
      refine AW.ops ?_
      obtain ⟨c12,h⟩:=ck_some.1 h
      refine zA [(0,.bp 1000 0),(3,.own 16),(7,.int .i64 (st1.2+1))] [(16,.arr 3 (.int .i64) (st1.1++[st1.2])),(1000,.box 71 (.int .i64 y.1::(.int .i64 y.2.1::(cellsX T63 y.2.2.1++(cellsX T65 y.2.2.2.1++(cellsX T69 y.2.2.2.2))))))] ?_
      obtain rfl:=Option.some.inj h
      exact ⟨_,rfl,zL [] [] []⟩
     ·refine zm ?_
      refine athen_n ?_
      refine AW.ops ?_
      obtain ⟨c13,h⟩:=ck_some.1 h
      refine zA [(0,.bp 1000 0),(3,.own 16),(7,.int .i64 (st1.2+1))] [(16,.arr 3 (.int .i64) st1.1),(1000,.box 71 (.int .i64 y.1::(.int .i64 y.2.1::(cellsX T63 y.2.2.1++(cellsX T65 y.2.2.2.1++(cellsX T69 y.2.2.2.2))))))] ?_
      obtain rfl:=Option.some.inj h
      exact ⟨_,rfl,zL [] [] []⟩
    ·refine AW.exit ?_
     refine athen_e ?_
     obtain rfl:=Option.some.inj h
     rw [← hd5 _ rfl] at ho4
     have h:=ho4
     refine athen_e ?_
     refine ablock_s ?_
     refine athen_n ?_
     exact AW.weaken (zL [] [] []) (hk_hazard_Yard_Held_k1 _ h)
theorem hc_hazard_Yard_fails_7 (y:Int×Int×(El T63)×(El T65)×(El T69)) (c0:Int) (checks:Int) {r:Int} (h:hazard_Yard_fails_7 y c0 checks=some r):HC Tryd.prog 49 [(1000,.box 71 (.int .i64 y.1::(.int .i64 y.2.1::(cellsX T63 y.2.2.1++(cellsX T65 y.2.2.2.1++(cellsX T69 y.2.2.2.2)))))),(1001,.box 81 [.fn (.func 70) [] [.dp (.int .i64) c0 0],.int .i64 checks])] [.bp 1000 0,.vw 1001 2 0 1] [(1000,.box 71 (.int .i64 y.1::(.int .i64 y.2.1::(cellsX T63 y.2.2.1++(cellsX T65 y.2.2.2.1++(cellsX T69 y.2.2.2.2)))))),(1001,.box 81 [.fn (.func 70) [] [.dp (.int .i64) c0 0],.int .i64 checks])] (.int .i64 r):=by
 unfold hazard_Yard_fails_7 at h
 refine zH Tryd.func49 [.tmp 4] 23 ?_
 refine zo ?_
 refine zB [(0,.bp 1000 0),(1,.vw 1001 2 0 1)] [(1000,.box 71 (.int .i64 y.1::(.int .i64 y.2.1::(cellsX T63 y.2.2.1++(cellsX T65 y.2.2.2.1++(cellsX T69 y.2.2.2.2)))))),(1001,.box 81 [.fn (.func 70) [] [.dp (.int .i64) c0 0],.int .i64 checks])] ?_
 refine AW.seq ?_
 refine zo ?_
 refine zS 1 [(0,.bp 1000 0),(1,.vw 1001 2 0 1),(7,.bp 1000 0)] [(1000,.box 71 (.int .i64 y.1::(.int .i64 y.2.1::(cellsX T63 y.2.2.1++(cellsX T65 y.2.2.2.1++(cellsX T69 y.2.2.2.2)))))),(1001,.box 81 [.fn (.func 70) [] [.dp (.int .i64) c0 0],.int .i64 checks])] ?_
 obtain ⟨v0,hv1,h⟩:=Option.bind_eq_some_iff.1 h
 refine zC [] [(1000,1000)] (hc_hazard_Yard_isNone y hv1) [(0,.bp 1000 0),(1,.vw 1001 2 0 1),(8,.bool (decide (y.1=0)))] [(1000,.box 71 (.int .i64 y.1::(.int .i64 y.2.1::(cellsX T63 y.2.2.1++(cellsX T65 y.2.2.2.1++(cellsX T69 y.2.2.2.2)))))),(1001,.box 81 [.fn (.func 70) [] [.dp (.int .i64) c0 0],.int .i64 checks])] ?_
 refine zB [(0,.bp 1000 0),(1,.vw 1001 2 0 1),(8,.bool (decide (y.1=0)))] [(1000,.box 71 (.int .i64 y.1::(.int .i64 y.2.1::(cellsX T63 y.2.2.1++(cellsX T65 y.2.2.2.1++(cellsX T69 y.2.2.2.2)))))),(1001,.box 81 [.fn (.func 70) [] [.dp (.int .i64) c0 0],.int .i64 checks])] ?_
 refine zQ h (fun hb2 h=>?_) (fun hb2 h=>?_)
 ·refine zo ?_
  refine zB [(4,.int .i64 60)] [(1000,.box 71 (.int .i64 y.1::(.int .i64 y.2.1::(cellsX T63 y.2.2.1++(cellsX T65 y.2.2.2.1++(cellsX T69 y.2.2.2.2)))))),(1001,.box 81 [.fn (.func 70) [] [.dp (.int .i64) c0 0],.int .i64 checks])] ?_
  refine zr ?_
  obtain rfl:=Option.some.inj h
  exact zR [] [] []
 ·refine zk ?_
  refine AW.have1 (fun _:Unit=>hazard_Yard_fails_7_k1=some r) (fun _=>⟨fr [],hpGet [(1000,.box 71 (.int .i64 y.1::(.int .i64 y.2.1::(cellsX T63 y.2.2.1++(cellsX T65 y.2.2.2.1++(cellsX T69 y.2.2.2.2)))))),(1001,.box 81 [.fn (.func 70) [] [.dp (.int .i64) c0 0],.int .i64 checks])],gt⟩) (fun _ h=>?_) (fun hk_hazard_Yard_fails_7_k1=>?_)
  ·as_aux_lemma =>
    unfold hazard_Yard_fails_7_k1 at h
    refine zo ?_
    refine zB [(4,.int .i64 0)] [(1000,.box 71 (.int .i64 y.1::(.int .i64 y.2.1::(cellsX T63 y.2.2.1++(cellsX T65 y.2.2.2.1++(cellsX T69 y.2.2.2.2)))))),(1001,.box 81 [.fn (.func 70) [] [.dp (.int .i64) c0 0],.int .i64 checks])] ?_
    refine AW.ret ?_
    obtain rfl:=Option.some.inj h
    exact zR [] [] []
  ·refine AW.seq ?_
   refine zo ?_
   refine zB [(0,.bp 1000 0),(9,.vw 1001 2 0 1),(10,.int .i64 1),(11,.int .i64 0)] [(1000,.box 71 (.int .i64 y.1::(.int .i64 y.2.1::(cellsX T63 y.2.2.1++(cellsX T65 y.2.2.2.1++(cellsX T69 y.2.2.2.2)))))),(1001,.box 81 [.fn (.func 70) [] [.dp (.int .i64) c0 0],.int .i64 checks])] ?_
   refine AW.block ?_
   refine AW.unroll 8 ?_
   refine LoopU.nx ?_
   refine zo ?_
   refine zB [(0,.bp 1000 0),(9,.vw 1001 2 0 1),(10,.int .i64 1),(11,.int .i64 0),(12,.bool true)] [(1000,.box 71 (.int .i64 y.1::(.int .i64 y.2.1::(cellsX T63 y.2.2.1++(cellsX T65 y.2.2.2.1++(cellsX T69 y.2.2.2.2)))))),(1001,.box 81 [.fn (.func 70) [] [.dp (.int .i64) c0 0],.int .i64 checks])] ?_
   refine AW.seq ?_
   refine AW.cond (b:=true) rfl (fun _=>?_) (fun hb3=>by cases hb3)
   refine zk ?_
   refine AW.seq ?_
   refine AW.block ?_
   refine zo ?_
   refine AO.idxBox tab_ok (by decide) rfl rfl tab_92 rfl tab_81 rfl rfl rfl (by decide) (by decide) (at_:=0) rfl ?_
   refine zT [(0,.bp 1000 0),(9,.vw 1001 2 0 1),(10,.int .i64 1),(11,.int .i64 0),(13,.bp 1001 0)] [(1000,.box 71 (.int .i64 y.1::(.int .i64 y.2.1::(cellsX T63 y.2.2.1++(cellsX T65 y.2.2.2.1++(cellsX T69 y.2.2.2.2)))))),(1001,.box 81 [.fn (.func 70) [] [.dp (.int .i64) c0 0],.int .i64 checks])] gt ?_
   refine zB [(0,.bp 1000 0),(6,.bp 6 0),(9,.vw 1001 2 0 1),(10,.int .i64 1),(11,.int .i64 0)] [(6,.box 81 [.fn (.func 70) [] [.dp (.int .i64) c0 0],.int .i64 checks]),(1000,.box 71 (.int .i64 y.1::(.int .i64 y.2.1::(cellsX T63 y.2.2.1++(cellsX T65 y.2.2.2.1++(cellsX T69 y.2.2.2.2)))))),(1001,.box 81 [.fn (.func 70) [] [.dp (.int .i64) c0 0],.int .i64 checks])] ?_
   refine zo ?_
   refine zS 3 [(0,.bp 1000 0),(6,.bp 6 0),(9,.vw 1001 2 0 1),(10,.int .i64 1),(11,.int .i64 0),(16,.fn (.func 70) [] [.dp (.int .i64) c0 0]),(17,.bp 1000 0)] [(6,.box 81 [.fn (.func 70) [] [.dp (.int .i64) c0 0],.int .i64 checks]),(1000,.box 71 (.int .i64 y.1::(.int .i64 y.2.1::(cellsX T63 y.2.2.1++(cellsX T65 y.2.2.2.1++(cellsX T69 y.2.2.2.2)))))),(1001,.box 81 [.fn (.func 70) [] [.dp (.int .i64) c0 0],.int .i64 checks])] ?_
   obtain ⟨v0_2,hv4,h⟩:=Option.bind_eq_some_iff.1 h
   refine zC [] [(1000,1000)] (hc_hazard_isNode_1 c0 y hv4) [(0,.bp 1000 0),(6,.bp 6 0),(9,.vw 1001 2 0 1),(10,.int .i64 1),(11,.int .i64 0),(18,.bool v0_2)] [(6,.box 81 [.fn (.func 70) [] [.dp (.int .i64) c0 0],.int .i64 checks]),(1000,.box 71 (.int .i64 y.1::(.int .i64 y.2.1::(cellsX T63 y.2.2.1++(cellsX T65 y.2.2.2.1++(cellsX T69 y.2.2.2.2)))))),(1001,.box 81 [.fn (.func 70) [] [.dp (.int .i64) c0 0],.int .i64 checks])] ?_
   refine zB [(0,.bp 1000 0),(6,.bp 6 0),(9,.vw 1001 2 0 1),(10,.int .i64 1),(11,.int .i64 0),(19,.bool (!v0_2))] [(6,.box 81 [.fn (.func 70) [] [.dp (.int .i64) c0 0],.int .i64 checks]),(1000,.box 71 (.int .i64 y.1::(.int .i64 y.2.1::(cellsX T63 y.2.2.1++(cellsX T65 y.2.2.2.1++(cellsX T69 y.2.2.2.2)))))),(1001,.box 81 [.fn (.func 70) [] [.dp (.int .i64) c0 0],.int .i64 checks])] ?_
   refine zQ h (fun hb5 h=>?_) (fun hb5 h=>?_)
   ·refine zo ?_
    refine zB [(4,.int .i64 checks)] [(1000,.box 71 (.int .i64 y.1::(.int .i64 y.2.1::(cellsX T63 y.2.2.1++(cellsX T65 y.2.2.2.1++(cellsX T69 y.2.2.2.2)))))),(1001,.box 81 [.fn (.func 70) [] [.dp (.int .i64) c0 0],.int .i64 checks])] ?_
    refine AW.ret ?_
    refine ablock_r ?_
    refine athen_r ?_
    refine athen_r ?_
    refine ablock_r ?_
    refine athen_r ?_
    obtain rfl:=Option.some.inj h
    exact zR [] [] []
   ·refine zm ?_
    refine athen_n ?_
    refine AW.ops ?_
    obtain ⟨c6,h⟩:=ck_some.1 h
    refine zA [(0,.bp 1000 0),(9,.vw 1001 2 0 1),(10,.int .i64 1),(11,.int .i64 1)] [(1000,.box 71 (.int .i64 y.1::(.int .i64 y.2.1::(cellsX T63 y.2.2.1++(cellsX T65 y.2.2.2.1++(cellsX T69 y.2.2.2.2)))))),(1001,.box 81 [.fn (.func 70) [] [.dp (.int .i64) c0 0],.int .i64 checks])] ?_
    refine LoopU.at_ ?_
    refine LoopU.nx ?_
    refine zo ?_
    refine zB [(0,.bp 1000 0),(9,.vw 1001 2 0 1),(10,.int .i64 1),(11,.int .i64 1),(12,.bool false)] [(1000,.box 71 (.int .i64 y.1::(.int .i64 y.2.1::(cellsX T63 y.2.2.1++(cellsX T65 y.2.2.2.1++(cellsX T69 y.2.2.2.2)))))),(1001,.box 81 [.fn (.func 70) [] [.dp (.int .i64) c0 0],.int .i64 checks])] ?_
    refine AW.seq ?_
    refine AW.cond (b:=false) rfl (fun hb7=>by cases hb7) (fun _=>?_)
    refine AW.exit ?_
    refine athen_e ?_
    refine athen_e ?_
    refine ablock_s ?_
    refine athen_n ?_
    exact AW.weaken (zL [] [] []) (hk_hazard_Yard_fails_7_k1 () h)
theorem hc_hazard_Yard_State (node:Int) (y:Int×Int×(El T63)×(El T65)×(El T69)) {r:Int×Int} (h:hazard_Yard_State node y=some r):HC Tryd.prog 22 [(1000,.box 71 (.int .i64 y.1::(.int .i64 y.2.1::(cellsX T63 y.2.2.1++(cellsX T65 y.2.2.2.1++(cellsX T69 y.2.2.2.2))))))] [.bp 1000 0,.int .i64 node] [(1000,.box 71 (.int .i64 y.1::(.int .i64 y.2.1::(cellsX T63 y.2.2.1++(cellsX T65 y.2.2.2.1++(cellsX T69 y.2.2.2.2))))))] (.tup [.int .i64 r.1,.int .i64 r.2]):=by
 unfold hazard_Yard_State at h
 refine zH Tryd.func22 [.tmp 4,.tmp 5] 21 ?_
 refine zo ?_
 refine zB [(0,.bp 1000 0),(1,.int .i64 node)] [(1000,.box 71 (.int .i64 y.1::(.int .i64 y.2.1::(cellsX T63 y.2.2.1++(cellsX T65 y.2.2.2.1++(cellsX T69 y.2.2.2.2))))))] ?_
 refine AW.seq ?_
 refine zo ?_
 refine zS 2 [(0,.bp 1000 0),(1,.int .i64 node),(7,.bp 1000 0),(8,.int .i64 node)] [(1000,.box 71 (.int .i64 y.1::(.int .i64 y.2.1::(cellsX T63 y.2.2.1++(cellsX T65 y.2.2.2.1++(cellsX T69 y.2.2.2.2))))))] ?_
 obtain ⟨v0,hv1,h⟩:=Option.bind_eq_some_iff.1 h
 refine zC [] [] (hc_hazard_isNode node hv1) [(0,.bp 1000 0),(1,.int .i64 node),(7,.bp 1000 0),(9,.agg [.fn (.func 70) [] [.dp (.int .i64) node 0],.int .i64 2])] [(1000,.box 71 (.int .i64 y.1::(.int .i64 y.2.1::(cellsX T63 y.2.2.1++(cellsX T65 y.2.2.2.1++(cellsX T69 y.2.2.2.2))))))] ?_
 refine AO.buildBox tab_ok rfl (by decide) (by decide) rfl rfl tab_92 rfl tab_81 (by decide) (by decide) rfl (by decide) (cs:=[.fn (.func 70) [] [.dp (.int .i64) node 0],.int .i64 2]) rfl rfl rfl ?_
 refine zT [(0,.bp 1000 0),(1,.int .i64 node),(7,.bp 1000 0),(10,.vw 10 2 0 1)] [(10,.box 81 [.fn (.func 70) [] [.dp (.int .i64) node 0],.int .i64 2]),(1000,.box 71 (.int .i64 y.1::(.int .i64 y.2.1::(cellsX T63 y.2.2.1++(cellsX T65 y.2.2.2.1++(cellsX T69 y.2.2.2.2))))))] gt ?_
 obtain ⟨v0_2,hv2,h⟩:=Option.bind_eq_some_iff.1 h
 refine zC [] [(1000,1000),(1001,10)] (hc_hazard_Yard_fails_7 y node 2 hv2) [(0,.bp 1000 0),(1,.int .i64 node),(11,.int .i64 v0_2)] [(1000,.box 71 (.int .i64 y.1::(.int .i64 y.2.1::(cellsX T63 y.2.2.1++(cellsX T65 y.2.2.2.1++(cellsX T69 y.2.2.2.2))))))] ?_
 refine zB [(0,.bp 1000 0),(1,.int .i64 node),(6,.int .i64 v0_2)] [(1000,.box 71 (.int .i64 y.1::(.int .i64 y.2.1::(cellsX T63 y.2.2.1++(cellsX T65 y.2.2.2.1++(cellsX T69 y.2.2.2.2))))))] ?_
 refine zo ?_
 refine zB [(0,.bp 1000 0),(1,.int .i64 node),(6,.int .i64 v0_2),(13,.bool (!(decide (v0_2=0))))] [(1000,.box 71 (.int .i64 y.1::(.int .i64 y.2.1::(cellsX T63 y.2.2.1++(cellsX T65 y.2.2.2.1++(cellsX T69 y.2.2.2.2))))))] ?_
 refine zQ h (fun hb3 h=>?_) (fun hb3 h=>?_)
 ·refine zo ?_
  refine zB [(4,.int .i64 0),(5,.int .i64 v0_2)] [(1000,.box 71 (.int .i64 y.1::(.int .i64 y.2.1::(cellsX T63 y.2.2.1++(cellsX T65 y.2.2.2.1++(cellsX T69 y.2.2.2.2))))))] ?_
  refine zr ?_
  obtain rfl:=Option.some.inj h
  exact zR [] [] []
 ·refine zk ?_
  refine zo ?_
  obtain ⟨c4,h⟩:=ck_some.1 h
  obtain ⟨c5,h⟩:=ck_some.1 h
  refine zS 5 [(19,.bp 1000 (2+node.toNat*1))] [(1000,.box 71 (.int .i64 y.1::(.int .i64 y.2.1::(cellsX T63 y.2.2.1++(cellsX T65 y.2.2.2.1++(cellsX T69 y.2.2.2.2))))))] ?_
  have hx6:(node.toNat*1)<8:=by omega
  refine zB [(4,.int .i64 (intAt T63 y.2.2.1 (node.toNat*1))),(5,.int .i64 0)] [(1000,.box 71 (.int .i64 y.1::(.int .i64 y.2.1::(cellsX T63 y.2.2.1++(cellsX T65 y.2.2.2.1++(cellsX T69 y.2.2.2.2))))))] ?_
  refine AW.ret ?_
  obtain rfl:=Option.some.inj h
  exact zR [] [] []
end Go.Proofs.YtcckpmeepcoafaaDoor
