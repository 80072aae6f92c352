import Derived.Test.YtenchhmcjmjlbaaCkp
import Derived.Test.YtenchhmcjmjlbaaShk
import Derived.Test.YtenchhmcjmjlbaaCbc3
import Derived.Test.YtenchhmcjmjlbaaCbc6
import Derived.Test.YtenchhmcjmjlbaaCbc7
namespace Go.Proofs.Ytenchhmcjmjlbaa
open Go.RowKit
set_option linter.unusedSimpArgs false
set_option linter.unusedVariables false
set_option linter.constructorNameAsVariable false
set_option maxRecDepth 100000
set_option maxHeartbeats 40000000
theorem hc_linealref08_IsUse (c:List (List (Int×Int×Int×Int))) (use:List (List Int)) {r:Bool} (h:linealref08_IsUse c use=some r):HC Try.prog 48 [] [.sl (.sl (.pair (.int .i64) (.pair (.int .i64) (.pair (.int .i64) (.int .i64))))) c,.sl (.sl (.int .i64)) use] [] (.bool r):=by
 unfold linealref08_IsUse at h
 refine zH Try.func48 [.tmp 4] 44 ?_
 refine zo ?_
 refine zB [(0,.sl (.sl (.pair (.int .i64) (.pair (.int .i64) (.pair (.int .i64) (.int .i64))))) c),(1,.sl (.sl (.int .i64)) use)] [] ?_
 refine AW.seq ?_
 refine zo ?_
 refine zS 2 [(0,.sl (.sl (.pair (.int .i64) (.pair (.int .i64) (.pair (.int .i64) (.int .i64))))) c),(1,.sl (.sl (.int .i64)) use),(8,.int .i64 (use.length:Int))] [] ?_
 obtain ⟨v0,hv1,h⟩:=Option.bind_eq_some_iff.1 h
 refine zC [] [] (hc_linealref08_within 1 (use.length:Int) 2 hv1) [(0,.sl (.sl (.pair (.int .i64) (.pair (.int .i64) (.pair (.int .i64) (.int .i64))))) c),(1,.sl (.sl (.int .i64)) use),(9,.bool v0)] [] ?_
 refine zB [(0,.sl (.sl (.pair (.int .i64) (.pair (.int .i64) (.pair (.int .i64) (.int .i64))))) c),(1,.sl (.sl (.int .i64)) use),(10,.bool (!v0))] [] ?_
 refine zQ h (fun hb2 h=>?_) (fun hb2 h=>?_)
 ·refine zo ?_
  refine zB [(4,.bool false)] [] ?_
  refine zr ?_
  obtain rfl:=Option.some.inj h
  exact zR [] [] []
 ·refine zk ?_
  refine AW.have1 (fun _:Unit=>linealref08_IsUse_k1=some r) (fun _=>⟨fr [],hpGet [],gt⟩) (fun _ h=>?_) (fun hk_linealref08_IsUse_k1=>?_)
  ·as_aux_lemma =>
    unfold linealref08_IsUse_k1 at h
    refine zo ?_
    refine zB [(4,.bool true)] [] ?_
    refine AW.ret ?_
    obtain rfl:=Option.some.inj h
    exact zR [] [] []
  ·refine AW.seq ?_
   refine zo ?_
   refine zB [(0,.sl (.sl (.pair (.int .i64) (.pair (.int .i64) (.pair (.int .i64) (.int .i64))))) c),(1,.sl (.sl (.int .i64)) use),(5,.int .i64 0)] [] ?_
   refine AW.block ?_
   obtain ⟨rv7,hw3,ho4⟩:=Option.bind_eq_some_iff.1 h
   refine AW.loopO (linealref08_IsUse_b1 c use) (fun st1=>⟨fr [(0,.sl (.sl (.pair (.int .i64) (.pair (.int .i64) (.pair (.int .i64) (.int .i64))))) c),(1,.sl (.sl (.int .i64)) use),(5,.int .i64 st1)],hpGet [],gt⟩) 0 hw3 (zL [] [] []) ?_
   as_aux_lemma =>
    intro st1 x6 h hd5
    unfold linealref08_IsUse_b1 at h
    refine AW.seq ?_
    refine zo ?_
    refine zB [(0,.sl (.sl (.pair (.int .i64) (.pair (.int .i64) (.pair (.int .i64) (.int .i64))))) c),(1,.sl (.sl (.int .i64)) use),(5,.int .i64 st1),(14,.bool (decide (st1<(use.length:Int))))] [] ?_
    refine zQ h (fun hb8 h=>?_) (fun hb8 h=>?_)
    ·refine zk ?_
     refine AW.have1 (fun _:Unit=>linealref08_IsUse_k2 st1=some x6) (fun _=>⟨fr [(0,.sl (.sl (.pair (.int .i64) (.pair (.int .i64) (.pair (.int .i64) (.int .i64))))) c),(1,.sl (.sl (.int .i64)) use),(5,.int .i64 st1)],hpGet [],gt⟩) (fun _ h=>?_) (fun hk_linealref08_IsUse_k2=>?_)
     ·as_aux_lemma =>
       unfold linealref08_IsUse_k2 at h
       refine AW.ops ?_
       obtain ⟨c9,h⟩:=ck_some.1 h
       refine zA [(0,.sl (.sl (.pair (.int .i64) (.pair (.int .i64) (.pair (.int .i64) (.int .i64))))) c),(1,.sl (.sl (.int .i64)) use),(5,.int .i64 (st1+1))] [] ?_
       obtain rfl:=Option.some.inj h
       exact ⟨_,rfl,zL [] [] []⟩
     ·refine AW.seq ?_
      refine AW.block ?_
      refine AW.seq ?_
      refine zo ?_
      obtain ⟨c10,h⟩:=ck_some.1 h
      obtain ⟨c11,h⟩:=ck_some.1 h
      refine zS 5 [(0,.sl (.sl (.pair (.int .i64) (.pair (.int .i64) (.pair (.int .i64) (.int .i64))))) c),(1,.sl (.sl (.int .i64)) use),(5,.int .i64 st1),(21,.int .i64 ((use.getD st1.toNat []).length:Int))] [] ?_
      refine zB [(0,.sl (.sl (.pair (.int .i64) (.pair (.int .i64) (.pair (.int .i64) (.int .i64))))) c),(1,.sl (.sl (.int .i64)) use),(5,.int .i64 st1),(22,.bool (decide (3<((use.getD st1.toNat []).length:Int))))] [] ?_
      refine zQ h (fun hb12 h=>?_) (fun hb12 h=>?_)
      ·refine zo ?_
       refine zB [(4,.bool false)] [] ?_
       refine zr ?_
       refine ablock_r ?_
       refine athen_r ?_
       obtain rfl:=Option.some.inj h
       try rw [← hd5 _ rfl] at ho4
       have h:=ho4
       try simp only at h
       refine athen_r ?_
       refine ablock_r ?_
       refine athen_r ?_
       obtain rfl:=Option.some.inj h
       exact zR [] [] []
      ·refine zk ?_
       refine zo ?_
       refine zB [(0,.sl (.sl (.pair (.int .i64) (.pair (.int .i64) (.pair (.int .i64) (.int .i64))))) c),(1,.sl (.sl (.int .i64)) use),(5,.int .i64 st1),(6,.int .i64 0)] [] ?_
       refine AW.block ?_
       obtain ⟨rv17,hw13,ho14⟩:=Option.bind_eq_some_iff.1 h
       refine AW.loopO (linealref08_IsUse_b2 c use st1) (fun st2=>⟨fr [(0,.sl (.sl (.pair (.int .i64) (.pair (.int .i64) (.pair (.int .i64) (.int .i64))))) c),(1,.sl (.sl (.int .i64)) use),(5,.int .i64 st1),(6,.int .i64 st2)],hpGet [],gt⟩) 0 hw13 (zL [] [] []) ?_
       as_aux_lemma =>
        intro st2 x16 h hd15
        unfold linealref08_IsUse_b2 at h
        refine AW.seq ?_
        refine zo ?_
        obtain ⟨c18,h⟩:=ck_some.1 h
        obtain ⟨c19,h⟩:=ck_some.1 h
        refine zS 5 [(0,.sl (.sl (.pair (.int .i64) (.pair (.int .i64) (.pair (.int .i64) (.int .i64))))) c),(1,.sl (.sl (.int .i64)) use),(5,.int .i64 st1),(6,.int .i64 st2),(23,.int .i64 st2),(27,.sl (.int .i64) (use.getD st1.toNat []))] [] ?_
        refine zB [(0,.sl (.sl (.pair (.int .i64) (.pair (.int .i64) (.pair (.int .i64) (.int .i64))))) c),(1,.sl (.sl (.int .i64)) use),(5,.int .i64 st1),(6,.int .i64 st2),(29,.bool (decide (st2<((use.getD st1.toNat []).length:Int))))] [] ?_
        refine zQ h (fun hb20 h=>?_) (fun hb20 h=>?_)
        ·refine zk ?_
         refine AW.seq ?_
         refine AW.block ?_
         refine zo ?_
         obtain ⟨c21,h⟩:=ck_some.1 h
         obtain ⟨c22,h⟩:=ck_some.1 h
         refine zS 5 [(0,.sl (.sl (.pair (.int .i64) (.pair (.int .i64) (.pair (.int .i64) (.int .i64))))) c),(1,.sl (.sl (.int .i64)) use),(5,.int .i64 st1),(6,.int .i64 st2),(35,.sl (.int .i64) (use.getD st1.toNat [])),(36,.int .i64 st2)] [] ?_
         obtain ⟨c23,h⟩:=ck_some.1 h
         obtain ⟨c24,h⟩:=ck_some.1 h
         obtain ⟨c25,h⟩:=ck_some.1 h
         refine zS 5 [(0,.sl (.sl (.pair (.int .i64) (.pair (.int .i64) (.pair (.int .i64) (.int .i64))))) c),(1,.sl (.sl (.int .i64)) use),(5,.int .i64 st1),(6,.int .i64 st2),(38,.int .i64 ((use.getD st1.toNat []).getD st2.toNat 0)),(41,.int .i64 ((c.length:Int) - 1))] [] ?_
         obtain ⟨v0_2,hv26,h⟩:=Option.bind_eq_some_iff.1 h
         refine zC [] [] (hc_linealref08_within 0 ((use.getD st1.toNat []).getD st2.toNat 0) ((c.length:Int) - 1) hv26) [(0,.sl (.sl (.pair (.int .i64) (.pair (.int .i64) (.pair (.int .i64) (.int .i64))))) c),(1,.sl (.sl (.int .i64)) use),(5,.int .i64 st1),(6,.int .i64 st2),(42,.bool v0_2)] [] ?_
         refine zB [(0,.sl (.sl (.pair (.int .i64) (.pair (.int .i64) (.pair (.int .i64) (.int .i64))))) c),(1,.sl (.sl (.int .i64)) use),(5,.int .i64 st1),(6,.int .i64 st2),(43,.bool (!v0_2))] [] ?_
         refine zQ h (fun hb27 h=>?_) (fun hb27 h=>?_)
         ·refine zo ?_
          refine zB [(4,.bool false)] [] ?_
          refine AW.ret ?_
          refine ablock_r ?_
          refine athen_r ?_
          obtain rfl:=Option.some.inj h
          try rw [← hd15 _ rfl] at ho14
          have h:=ho14
          try simp only at h
          refine athen_r ?_
          refine ablock_r ?_
          refine ablock_r ?_
          refine athen_r ?_
          obtain rfl:=Option.some.inj h
          try rw [← hd5 _ rfl] at ho4
          have h:=ho4
          try simp only at h
          refine athen_r ?_
          refine ablock_r ?_
          refine athen_r ?_
          obtain rfl:=Option.some.inj h
          exact zR [] [] []
         ·refine zm ?_
          refine athen_n ?_
          refine AW.ops ?_
          obtain ⟨c28,h⟩:=ck_some.1 h
          refine zA [(0,.sl (.sl (.pair (.int .i64) (.pair (.int .i64) (.pair (.int .i64) (.int .i64))))) c),(1,.sl (.sl (.int .i64)) use),(5,.int .i64 st1),(6,.int .i64 (st2+1))] [] ?_
          obtain rfl:=Option.some.inj h
          exact ⟨_,rfl,zL [] [] []⟩
        ·refine AW.exit ?_
         refine athen_e ?_
         obtain rfl:=Option.some.inj h
         try rw [← hd15 _ rfl] at ho14
         have h:=ho14
         try simp only at h
         refine athen_e ?_
         refine ablock_s ?_
         refine ablock_n ?_
         refine athen_n ?_
         exact AW.weaken (zL [] [] []) (hk_linealref08_IsUse_k2 () h)
    ·refine AW.exit ?_
     refine athen_e ?_
     obtain rfl:=Option.some.inj h
     try rw [← hd5 _ rfl] at ho4
     have h:=ho4
     try simp only at h
     refine athen_e ?_
     refine ablock_s ?_
     refine athen_n ?_
     exact AW.weaken (zL [] [] []) (hk_linealref08_IsUse_k1 () h)
theorem hc_linealref02_Same (a:ZH) (b:ZH) {r:Bool} (h:linealref02_Same a b=some r):HC Try.prog 18 [] [.sl (.pair (.int .i64) (.pair (.int .i64) (.pair (.int .i64) (.pair (.int .i64) (.pair (.int .i64) (.int .i64)))))) a,.sl (.pair (.int .i64) (.pair (.int .i64) (.pair (.int .i64) (.pair (.int .i64) (.pair (.int .i64) (.int .i64)))))) b] [] (.bool r):=by
 unfold linealref02_Same at h
 refine zH Try.func18 [.tmp 4] 26 ?_
 refine zo ?_
 refine zB [(0,.sl (.pair (.int .i64) (.pair (.int .i64) (.pair (.int .i64) (.pair (.int .i64) (.pair (.int .i64) (.int .i64)))))) a),(1,.sl (.pair (.int .i64) (.pair (.int .i64) (.pair (.int .i64) (.pair (.int .i64) (.pair (.int .i64) (.int .i64)))))) b)] [] ?_
 refine AW.seq ?_
 refine zo ?_
 refine zB [(0,.sl (.pair (.int .i64) (.pair (.int .i64) (.pair (.int .i64) (.pair (.int .i64) (.pair (.int .i64) (.int .i64)))))) a),(1,.sl (.pair (.int .i64) (.pair (.int .i64) (.pair (.int .i64) (.pair (.int .i64) (.pair (.int .i64) (.int .i64)))))) b),(10,.bool (!(decide ((a.length:Int)=(b.length:Int)))))] [] ?_
 refine zQ h (fun hb1 h=>?_) (fun hb1 h=>?_)
 ·refine zo ?_
  refine zB [(4,.bool false)] [] ?_
  refine zr ?_
  obtain rfl:=Option.some.inj h
  exact zR [] [] []
 ·refine zk ?_
  refine AW.have1 (fun _:Unit=>linealref02_Same_k1=some r) (fun _=>⟨fr [],hpGet [],gt⟩) (fun _ h=>?_) (fun hk_linealref02_Same_k1=>?_)
  ·as_aux_lemma =>
    unfold linealref02_Same_k1 at h
    refine zo ?_
    refine zB [(4,.bool true)] [] ?_
    refine AW.ret ?_
    obtain rfl:=Option.some.inj h
    exact zR [] [] []
  ·refine AW.seq ?_
   refine zo ?_
   refine zB [(0,.sl (.pair (.int .i64) (.pair (.int .i64) (.pair (.int .i64) (.pair (.int .i64) (.pair (.int .i64) (.int .i64)))))) a),(1,.sl (.pair (.int .i64) (.pair (.int .i64) (.pair (.int .i64) (.pair (.int .i64) (.pair (.int .i64) (.int .i64)))))) b),(5,.int .i64 0)] [] ?_
   refine AW.block ?_
   obtain ⟨rv6,hw2,ho3⟩:=Option.bind_eq_some_iff.1 h
   refine AW.loopO (linealref02_Same_b1 a b) (fun st1=>⟨fr [(0,.sl (.pair (.int .i64) (.pair (.int .i64) (.pair (.int .i64) (.pair (.int .i64) (.pair (.int .i64) (.int .i64)))))) a),(1,.sl (.pair (.int .i64) (.pair (.int .i64) (.pair (.int .i64) (.pair (.int .i64) (.pair (.int .i64) (.int .i64)))))) b),(5,.int .i64 st1)],hpGet [],gt⟩) 0 hw2 (zL [] [] []) ?_
   as_aux_lemma =>
    intro st1 x5 h hd4
    unfold linealref02_Same_b1 at h
    refine AW.seq ?_
    refine zo ?_
    refine zB [(0,.sl (.pair (.int .i64) (.pair (.int .i64) (.pair (.int .i64) (.pair (.int .i64) (.pair (.int .i64) (.int .i64)))))) a),(1,.sl (.pair (.int .i64) (.pair (.int .i64) (.pair (.int .i64) (.pair (.int .i64) (.pair (.int .i64) (.int .i64)))))) b),(5,.int .i64 st1),(14,.bool (decide (st1<(a.length:Int))))] [] ?_
    refine zQ h (fun hb7 h=>?_) (fun hb7 h=>?_)
    ·refine zk ?_
     refine AW.seq ?_
     refine AW.block ?_
     refine AW.seq ?_
     refine AW.drawTail tab_ok mixed_ok 8 [] [] (by decide) (by kernel_rfl) (by kernel_rfl) (by decide) ?_
     dsimp only [List.take_succ_cons,List.take_zero]
     obtain ⟨c9,h⟩:=ck_some.1 h
     obtain ⟨c10,h⟩:=ck_some.1 h
     refine adops_cut 6 (fun K' hK8=>?_)
     try dsimp only [List.drop_succ_cons,List.drop_zero,List.take_succ_cons,List.take_zero]
     simp only [go_sem,hb1,hb7]
     repeat with_reducible refine zN ?_
     refine hK8 _ ?_
     as_aux_lemma =>
      obtain ⟨c12,h⟩:=ck_some.1 h
      obtain ⟨c13,h⟩:=ck_some.1 h
      refine adops_cut 2 (fun K' hK11=>?_)
      try dsimp only [List.drop_succ_cons,List.drop_zero,List.take_succ_cons,List.take_zero]
      simp only [go_sem,hb1,hb7]
      repeat with_reducible refine zN ?_
      refine hK11 _ ?_
      refine adops_nil ?_
      refine zT [(0,.sl (.pair (.int .i64) (.pair (.int .i64) (.pair (.int .i64) (.pair (.int .i64) (.pair (.int .i64) (.int .i64)))))) a),(1,.sl (.pair (.int .i64) (.pair (.int .i64) (.pair (.int .i64) (.pair (.int .i64) (.pair (.int .i64) (.int .i64)))))) b),(5,.int .i64 st1),(20,.agg [.int .i64 (a.getD st1.toNat (0,0,0,0,0,0)).1,.int .i64 (a.getD st1.toNat (0,0,0,0,0,0)).2.1,.int .i64 (a.getD st1.toNat (0,0,0,0,0,0)).2.2.1,.int .i64 (a.getD st1.toNat (0,0,0,0,0,0)).2.2.2.1,.int .i64 (a.getD st1.toNat (0,0,0,0,0,0)).2.2.2.2.1,.int .i64 (a.getD st1.toNat (0,0,0,0,0,0)).2.2.2.2.2]),(24,.agg [.int .i64 (b.getD st1.toNat (0,0,0,0,0,0)).1,.int .i64 (b.getD st1.toNat (0,0,0,0,0,0)).2.1,.int .i64 (b.getD st1.toNat (0,0,0,0,0,0)).2.2.1,.int .i64 (b.getD st1.toNat (0,0,0,0,0,0)).2.2.2.1,.int .i64 (b.getD st1.toNat (0,0,0,0,0,0)).2.2.2.2.1,.int .i64 (b.getD st1.toNat (0,0,0,0,0,0)).2.2.2.2.2])] [] gt ?_
      obtain ⟨c14,h⟩:=ck_some.1 h
      obtain ⟨c15,h⟩:=ck_some.1 h
      obtain ⟨c16,h⟩:=ck_some.1 h
      obtain ⟨c17,h⟩:=ck_some.1 h
      obtain ⟨c18,h⟩:=ck_some.1 h
      obtain ⟨c19,h⟩:=ck_some.1 h
      obtain ⟨c20,h⟩:=ck_some.1 h
      obtain ⟨c21,h⟩:=ck_some.1 h
      obtain ⟨c22,h⟩:=ck_some.1 h
      obtain ⟨c23,h⟩:=ck_some.1 h
      obtain ⟨c24,h⟩:=ck_some.1 h
      obtain ⟨c25,h⟩:=ck_some.1 h
      refine AO.aggEq (neg:=true) eqty_68 (by decide) rfl rfl (lx:=[.int .i64 (a.getD st1.toNat (0,0,0,0,0,0)).1,.int .i64 (a.getD st1.toNat (0,0,0,0,0,0)).2.1,.int .i64 (a.getD st1.toNat (0,0,0,0,0,0)).2.2.1,.int .i64 (a.getD st1.toNat (0,0,0,0,0,0)).2.2.2.1,.int .i64 (a.getD st1.toNat (0,0,0,0,0,0)).2.2.2.2.1,.int .i64 (a.getD st1.toNat (0,0,0,0,0,0)).2.2.2.2.2]) (ly:=[.int .i64 (b.getD st1.toNat (0,0,0,0,0,0)).1,.int .i64 (b.getD st1.toNat (0,0,0,0,0,0)).2.1,.int .i64 (b.getD st1.toNat (0,0,0,0,0,0)).2.2.1,.int .i64 (b.getD st1.toNat (0,0,0,0,0,0)).2.2.2.1,.int .i64 (b.getD st1.toNat (0,0,0,0,0,0)).2.2.2.2.1,.int .i64 (b.getD st1.toNat (0,0,0,0,0,0)).2.2.2.2.2]) (by first|rfl|(simp only [go_sem,hb1,hb7])<;>(with_reducible and_intros)<;>first|assumption|rfl|omega|(unfold maxLen; omega)) (by first|rfl|(simp only [go_sem,hb1,hb7])<;>(with_reducible and_intros)<;>first|assumption|rfl|omega|(unfold maxLen; omega)) (by first|rfl|(simp only [go_sem,hb1,hb7])<;>(with_reducible and_intros)<;>first|assumption|rfl|omega|(unfold maxLen; omega)) (by first|rfl|(simp only [go_sem,hb1,hb7])<;>(with_reducible and_intros)<;>first|assumption|rfl|omega|(unfold maxLen; omega)) (by first|assumption|omega|(simp only [go_sem,hb1,hb7])<;>(with_reducible and_intros)<;>first|assumption|rfl|omega|(unfold maxLen; omega)) (by first|assumption|omega|(simp only [go_sem,hb1,hb7])<;>(with_reducible and_intros)<;>first|assumption|rfl|omega|(unfold maxLen; omega)) ?_
      refine zT [(0,.sl (.pair (.int .i64) (.pair (.int .i64) (.pair (.int .i64) (.pair (.int .i64) (.pair (.int .i64) (.int .i64)))))) a),(1,.sl (.pair (.int .i64) (.pair (.int .i64) (.pair (.int .i64) (.pair (.int .i64) (.pair (.int .i64) (.int .i64)))))) b),(5,.int .i64 st1),(25,.bool (!(decide ((a.getD st1.toNat (0,0,0,0,0,0))=(b.getD st1.toNat (0,0,0,0,0,0))))))] [] gt ?_
      refine zB [(0,.sl (.pair (.int .i64) (.pair (.int .i64) (.pair (.int .i64) (.pair (.int .i64) (.pair (.int .i64) (.int .i64)))))) a),(1,.sl (.pair (.int .i64) (.pair (.int .i64) (.pair (.int .i64) (.pair (.int .i64) (.pair (.int .i64) (.int .i64)))))) b),(5,.int .i64 st1),(25,.bool (!(decide ((a.getD st1.toNat (0,0,0,0,0,0))=(b.getD st1.toNat (0,0,0,0,0,0))))))] [] ?_
      refine zQ h (fun hb26 h=>?_) (fun hb26 h=>?_)
      ·refine zo ?_
       refine zB [(4,.bool false)] [] ?_
       refine AW.ret ?_
       refine ablock_r ?_
       refine athen_r ?_
       obtain rfl:=Option.some.inj h
       try rw [← hd4 _ rfl] at ho3
       have h:=ho3
       try simp only at h
       refine athen_r ?_
       refine ablock_r ?_
       refine athen_r ?_
       obtain rfl:=Option.some.inj h
       exact zR [] [] []
      ·refine zm ?_
       refine athen_n ?_
       refine AW.ops ?_
       obtain ⟨c27,h⟩:=ck_some.1 h
       refine zA [(0,.sl (.pair (.int .i64) (.pair (.int .i64) (.pair (.int .i64) (.pair (.int .i64) (.pair (.int .i64) (.int .i64)))))) a),(1,.sl (.pair (.int .i64) (.pair (.int .i64) (.pair (.int .i64) (.pair (.int .i64) (.pair (.int .i64) (.int .i64)))))) b),(5,.int .i64 (st1+1))] [] ?_
       obtain rfl:=Option.some.inj h
       exact ⟨_,rfl,zL [] [] []⟩
    ·refine AW.exit ?_
     refine athen_e ?_
     obtain rfl:=Option.some.inj h
     try rw [← hd4 _ rfl] at ho3
     have h:=ho3
     try simp only at h
     refine athen_e ?_
     refine ablock_s ?_
     refine athen_n ?_
     exact AW.weaken (zL [] [] []) (hk_linealref02_Same_k1 () h)
theorem hc_code_run_left (r0:((List (List (Int×Int×Int×Int)))×(List (List Int)))×(List Int)×(El T80)×(Int×Int×Int)×(El T85)×(El T86)×Int) {r:(List Int)} (h:code_run_left r0=some r):HC Try.prog 58 [] [.agg (.sl (.sl (.pair (.int .i64) (.pair (.int .i64) (.pair (.int .i64) (.int .i64))))) r0.1.1::(.sl (.sl (.int .i64)) r0.1.2::(.sl (.int .i64) r0.2.1::(cellsX T80 r0.2.2.1++(.int .i64 r0.2.2.2.1.1::(.int .i64 r0.2.2.2.1.2.1::(.int .i64 r0.2.2.2.1.2.2::(cellsX T85 r0.2.2.2.2.1++(cellsX T86 r0.2.2.2.2.2.1++(.int .i64 r0.2.2.2.2.2.2::[]))))))))))] [(2000,.arr 3 (.int .i64) r)] (.own 2000):=by
 unfold code_run_left at h
 refine zH Try.func58 [.tmp 2] 21 ?_
 refine zo ?_
 refine zB [(1,.bp 1 0)] [(1,.box 88 (.sl (.sl (.pair (.int .i64) (.pair (.int .i64) (.pair (.int .i64) (.int .i64))))) r0.1.1::(.sl (.sl (.int .i64)) r0.1.2::(.sl (.int .i64) r0.2.1::(cellsX T80 r0.2.2.1++(.int .i64 r0.2.2.2.1.1::(.int .i64 r0.2.2.2.1.2.1::(.int .i64 r0.2.2.2.1.2.2::(cellsX T85 r0.2.2.2.2.1++(cellsX T86 r0.2.2.2.2.2.1++(.int .i64 r0.2.2.2.2.2.2::[])))))))))))] ?_
 refine zo ?_
 refine zB [(1,.bp 1 0),(3,.cv (.slice none 0 0))] [(1,.box 88 (.sl (.sl (.pair (.int .i64) (.pair (.int .i64) (.pair (.int .i64) (.int .i64))))) r0.1.1::(.sl (.sl (.int .i64)) r0.1.2::(.sl (.int .i64) r0.2.1::(cellsX T80 r0.2.2.1++(.int .i64 r0.2.2.2.1.1::(.int .i64 r0.2.2.2.1.2.1::(.int .i64 r0.2.2.2.1.2.2::(cellsX T85 r0.2.2.2.2.1++(cellsX T86 r0.2.2.2.2.2.1++(.int .i64 r0.2.2.2.2.2.2::[])))))))))))] ?_
 refine AW.have1 (fun b1:(List Int)=>code_run_left_k1 b1=some r) (fun b1=>⟨fr [(3,.own 18)],hpGet [(18,.arr 3 (.int .i64) b1)],gt⟩) (fun b1 h=>?_) (fun hk_code_run_left_k1=>?_)
 ·as_aux_lemma =>
   unfold code_run_left_k1 at h
   refine zo ?_
   refine zB [(2,.own 18)] [(18,.arr 3 (.int .i64) b1)] ?_
   refine AW.ret ?_
   obtain rfl:=Option.some.inj h
   exact zR [] [] [(2000,18)]
 ·refine AW.seq ?_
  refine zo ?_
  refine zB [(1,.bp 1 0),(3,.cv (.slice none 0 0)),(8,.int .i64 (r0.1.2.length:Int)),(9,.int .i64 0)] [(1,.box 88 (.sl (.sl (.pair (.int .i64) (.pair (.int .i64) (.pair (.int .i64) (.int .i64))))) r0.1.1::(.sl (.sl (.int .i64)) r0.1.2::(.sl (.int .i64) r0.2.1::(cellsX T80 r0.2.2.1++(.int .i64 r0.2.2.2.1.1::(.int .i64 r0.2.2.2.1.2.1::(.int .i64 r0.2.2.2.1.2.2::(cellsX T85 r0.2.2.2.2.1++(cellsX T86 r0.2.2.2.2.2.1++(.int .i64 r0.2.2.2.2.2.2::[])))))))))))] ?_
  refine AW.block ?_
  obtain ⟨rv5,hw1,ho2⟩:=Option.bind_eq_some_iff.1 h
  refine AW.loopO (code_run_left_b1 r0) (fun st1=>⟨fr [(1,.bp 1 0),(3,.own 18),(8,.int .i64 (r0.1.2.length:Int)),(9,.int .i64 st1.2)],hpGet [(1,.box 88 (.sl (.sl (.pair (.int .i64) (.pair (.int .i64) (.pair (.int .i64) (.int .i64))))) r0.1.1::(.sl (.sl (.int .i64)) r0.1.2::(.sl (.int .i64) r0.2.1::(cellsX T80 r0.2.2.1++(.int .i64 r0.2.2.2.1.1::(.int .i64 r0.2.2.2.1.2.1::(.int .i64 r0.2.2.2.1.2.2::(cellsX T85 r0.2.2.2.2.1++(cellsX T86 r0.2.2.2.2.2.1++(.int .i64 r0.2.2.2.2.2.2::[]))))))))))),(18,.arr 3 (.int .i64) st1.1)],gt⟩) ([],0) hw1 (zL [] [18] []) ?_
  as_aux_lemma =>
   intro st1 x4 h hd3
   unfold code_run_left_b1 at h
   refine zo ?_
   refine zB [(1,.bp 1 0),(3,.own 18),(8,.int .i64 (r0.1.2.length:Int)),(9,.int .i64 st1.2),(10,.bool (decide (st1.2<(r0.1.2.length:Int))))] [(1,.box 88 (.sl (.sl (.pair (.int .i64) (.pair (.int .i64) (.pair (.int .i64) (.int .i64))))) r0.1.1::(.sl (.sl (.int .i64)) r0.1.2::(.sl (.int .i64) r0.2.1::(cellsX T80 r0.2.2.1++(.int .i64 r0.2.2.2.1.1::(.int .i64 r0.2.2.2.1.2.1::(.int .i64 r0.2.2.2.1.2.2::(cellsX T85 r0.2.2.2.2.1++(cellsX T86 r0.2.2.2.2.2.1++(.int .i64 r0.2.2.2.2.2.2::[]))))))))))),(18,.arr 3 (.int .i64) st1.1)] ?_
   refine AW.seq ?_
   refine zQ h (fun hb6 h=>?_) (fun hb6 h=>?_)
   ·refine zk ?_
    refine AW.seq ?_
    refine AW.block ?_
    refine zo ?_
    refine zB [(1,.bp 1 0),(3,.own 18),(4,.int .i64 st1.2),(8,.int .i64 (r0.1.2.length:Int)),(9,.int .i64 st1.2)] [(1,.box 88 (.sl (.sl (.pair (.int .i64) (.pair (.int .i64) (.pair (.int .i64) (.int .i64))))) r0.1.1::(.sl (.sl (.int .i64)) r0.1.2::(.sl (.int .i64) r0.2.1::(cellsX T80 r0.2.2.1++(.int .i64 r0.2.2.2.1.1::(.int .i64 r0.2.2.2.1.2.1::(.int .i64 r0.2.2.2.1.2.2::(cellsX T85 r0.2.2.2.2.1++(cellsX T86 r0.2.2.2.2.2.1++(.int .i64 r0.2.2.2.2.2.2::[]))))))))))),(18,.arr 3 (.int .i64) st1.1)] ?_
    refine zo ?_
    refine zS 2 [(1,.bp 1 0),(3,.own 18),(4,.int .i64 st1.2),(8,.int .i64 (r0.1.2.length:Int)),(9,.int .i64 st1.2),(12,.agg (.sl (.sl (.pair (.int .i64) (.pair (.int .i64) (.pair (.int .i64) (.int .i64))))) r0.1.1::(.sl (.sl (.int .i64)) r0.1.2::(.sl (.int .i64) r0.2.1::(cellsX T80 r0.2.2.1++(.int .i64 r0.2.2.2.1.1::(.int .i64 r0.2.2.2.1.2.1::(.int .i64 r0.2.2.2.1.2.2::(cellsX T85 r0.2.2.2.2.1++(cellsX T86 r0.2.2.2.2.2.1++(.int .i64 r0.2.2.2.2.2.2::[]))))))))))),(13,.int .i64 st1.2)] [(1,.box 88 (.sl (.sl (.pair (.int .i64) (.pair (.int .i64) (.pair (.int .i64) (.int .i64))))) r0.1.1::(.sl (.sl (.int .i64)) r0.1.2::(.sl (.int .i64) r0.2.1::(cellsX T80 r0.2.2.1++(.int .i64 r0.2.2.2.1.1::(.int .i64 r0.2.2.2.1.2.1::(.int .i64 r0.2.2.2.1.2.2::(cellsX T85 r0.2.2.2.2.1++(cellsX T86 r0.2.2.2.2.2.1++(.int .i64 r0.2.2.2.2.2.2::[]))))))))))),(18,.arr 3 (.int .i64) st1.1)] ?_
    obtain ⟨v0,hv7,h⟩:=Option.bind_eq_some_iff.1 h
    refine zC [] [] (hc_code_run_hasLine r0 st1.2 hv7) [(1,.bp 1 0),(3,.own 18),(4,.int .i64 st1.2),(8,.int .i64 (r0.1.2.length:Int)),(9,.int .i64 st1.2),(14,.bool v0)] [(1,.box 88 (.sl (.sl (.pair (.int .i64) (.pair (.int .i64) (.pair (.int .i64) (.int .i64))))) r0.1.1::(.sl (.sl (.int .i64)) r0.1.2::(.sl (.int .i64) r0.2.1::(cellsX T80 r0.2.2.1++(.int .i64 r0.2.2.2.1.1::(.int .i64 r0.2.2.2.1.2.1::(.int .i64 r0.2.2.2.1.2.2::(cellsX T85 r0.2.2.2.2.1++(cellsX T86 r0.2.2.2.2.2.1++(.int .i64 r0.2.2.2.2.2.2::[]))))))))))),(18,.arr 3 (.int .i64) st1.1)] ?_
    refine zB [(1,.bp 1 0),(3,.own 18),(4,.int .i64 st1.2),(8,.int .i64 (r0.1.2.length:Int)),(9,.int .i64 st1.2),(14,.bool v0)] [(1,.box 88 (.sl (.sl (.pair (.int .i64) (.pair (.int .i64) (.pair (.int .i64) (.int .i64))))) r0.1.1::(.sl (.sl (.int .i64)) r0.1.2::(.sl (.int .i64) r0.2.1::(cellsX T80 r0.2.2.1++(.int .i64 r0.2.2.2.1.1::(.int .i64 r0.2.2.2.1.2.1::(.int .i64 r0.2.2.2.1.2.2::(cellsX T85 r0.2.2.2.2.1++(cellsX T86 r0.2.2.2.2.2.1++(.int .i64 r0.2.2.2.2.2.2::[]))))))))))),(18,.arr 3 (.int .i64) st1.1)] ?_
    refine zQ h (fun hb8 h=>?_) (fun hb8 h=>?_)
    ·refine AW.ops ?_
     obtain ⟨c9,h⟩:=ck_some.1 h
     refine zA [(1,.bp 1 0),(3,.own 18),(8,.int .i64 (r0.1.2.length:Int)),(9,.int .i64 st1.2)] [(1,.box 88 (.sl (.sl (.pair (.int .i64) (.pair (.int .i64) (.pair (.int .i64) (.int .i64))))) r0.1.1::(.sl (.sl (.int .i64)) r0.1.2::(.sl (.int .i64) r0.2.1::(cellsX T80 r0.2.2.1++(.int .i64 r0.2.2.2.1.1::(.int .i64 r0.2.2.2.1.2.1::(.int .i64 r0.2.2.2.1.2.2::(cellsX T85 r0.2.2.2.2.1++(cellsX T86 r0.2.2.2.2.2.1++(.int .i64 r0.2.2.2.2.2.2::[]))))))))))),(18,.arr 3 (.int .i64) (st1.1++[st1.2]))] ?_
     refine ablock_n ?_
     refine athen_n ?_
     refine AW.ops ?_
     obtain ⟨c10,h⟩:=ck_some.1 h
     refine zA [(1,.bp 1 0),(3,.own 18),(8,.int .i64 (r0.1.2.length:Int)),(9,.int .i64 (st1.2+1))] [(1,.box 88 (.sl (.sl (.pair (.int .i64) (.pair (.int .i64) (.pair (.int .i64) (.int .i64))))) r0.1.1::(.sl (.sl (.int .i64)) r0.1.2::(.sl (.int .i64) r0.2.1::(cellsX T80 r0.2.2.1++(.int .i64 r0.2.2.2.1.1::(.int .i64 r0.2.2.2.1.2.1::(.int .i64 r0.2.2.2.1.2.2::(cellsX T85 r0.2.2.2.2.1++(cellsX T86 r0.2.2.2.2.2.1++(.int .i64 r0.2.2.2.2.2.2::[]))))))))))),(18,.arr 3 (.int .i64) (st1.1++[st1.2]))] ?_
     obtain rfl:=Option.some.inj h
     exact ⟨_,rfl,zL [] [] []⟩
    ·refine zm ?_
     refine athen_n ?_
     refine AW.ops ?_
     obtain ⟨c11,h⟩:=ck_some.1 h
     refine zA [(1,.bp 1 0),(3,.own 18),(8,.int .i64 (r0.1.2.length:Int)),(9,.int .i64 (st1.2+1))] [(1,.box 88 (.sl (.sl (.pair (.int .i64) (.pair (.int .i64) (.pair (.int .i64) (.int .i64))))) r0.1.1::(.sl (.sl (.int .i64)) r0.1.2::(.sl (.int .i64) r0.2.1::(cellsX T80 r0.2.2.1++(.int .i64 r0.2.2.2.1.1::(.int .i64 r0.2.2.2.1.2.1::(.int .i64 r0.2.2.2.1.2.2::(cellsX T85 r0.2.2.2.2.1++(cellsX T86 r0.2.2.2.2.2.1++(.int .i64 r0.2.2.2.2.2.2::[]))))))))))),(18,.arr 3 (.int .i64) st1.1)] ?_
     obtain rfl:=Option.some.inj h
     exact ⟨_,rfl,zL [] [] []⟩
   ·refine AW.exit ?_
    refine athen_e ?_
    obtain rfl:=Option.some.inj h
    rw [← hd3 _ rfl] at ho2
    have h:=ho2
    refine athen_e ?_
    refine ablock_s ?_
    refine athen_n ?_
    exact AW.weaken (zL [] [] []) (hk_code_run_left_k1 _ h)
theorem hc_code_Left (c:List (List (Int×Int×Int×Int))) (use:List (List Int)) (schedule:List Int) {r:(List Int)×Int} (h:code_Left c use schedule=some r):HC Try.prog 21 [] [.sl (.sl (.pair (.int .i64) (.pair (.int .i64) (.pair (.int .i64) (.int .i64))))) c,.sl (.sl (.int .i64)) use,.sl (.int .i64) schedule] [(2000,.arr 3 (.int .i64) r.1)] (.tup [.own 2000,.int .i64 r.2]):=by
 unfold code_Left at h
 refine zH Try.func21 [.tmp 6,.tmp 7] 22 ?_
 refine zo ?_
 refine zB [(0,.sl (.sl (.pair (.int .i64) (.pair (.int .i64) (.pair (.int .i64) (.int .i64))))) c),(1,.sl (.sl (.int .i64)) use),(2,.sl (.int .i64) schedule)] [] ?_
 refine zo ?_
 refine zS 3 [(11,.sl (.sl (.pair (.int .i64) (.pair (.int .i64) (.pair (.int .i64) (.int .i64))))) c),(12,.sl (.sl (.int .i64)) use),(13,.sl (.int .i64) schedule)] [] ?_
 obtain ⟨v0,hv1,h⟩:=Option.bind_eq_some_iff.1 h
 refine zC [] [] (hc_code_played c use schedule hv1) [(14,.tup [.agg (.sl (.sl (.pair (.int .i64) (.pair (.int .i64) (.pair (.int .i64) (.int .i64))))) v0.1::(.sl (.sl (.int .i64)) v0.2.1::(.own 24000::(cellsX T80 v0.2.2.2.1++(.int .i64 v0.2.2.2.2.1::(.int .i64 v0.2.2.2.2.2.1::(.int .i64 v0.2.2.2.2.2.2.1::(cellsX T85 v0.2.2.2.2.2.2.2.1++(cellsX T86 v0.2.2.2.2.2.2.2.2.1++(.int .i64 v0.2.2.2.2.2.2.2.2.2.1::[])))))))))),.int .i64 v0.2.2.2.2.2.2.2.2.2.2])] [(24000,.arr 3 (.int .i64) v0.2.2.1)] ?_
 refine AO.weaken (s':=⟨fr [(14,.tup [.agg (.sl (.sl (.pair (.int .i64) (.pair (.int .i64) (.pair (.int .i64) (.int .i64))))) v0.1::(.sl (.sl (.int .i64)) v0.2.1::(.sl (.int .i64) v0.2.2.1::(cellsX T80 v0.2.2.2.1++(.int .i64 v0.2.2.2.2.1::(.int .i64 v0.2.2.2.2.2.1::(.int .i64 v0.2.2.2.2.2.2.1::(cellsX T85 v0.2.2.2.2.2.2.2.1++(cellsX T86 v0.2.2.2.2.2.2.2.2.1++(.int .i64 v0.2.2.2.2.2.2.2.2.2.1::[])))))))))),.int .i64 v0.2.2.2.2.2.2.2.2.2.2])],hpGet [],gt⟩) (zL [24000] [] []) ?_
 refine zS 5 [(8,.bp 8 0),(16,.int .i64 v0.2.2.2.2.2.2.2.2.2.2)] [(8,.box 88 (.sl (.sl (.pair (.int .i64) (.pair (.int .i64) (.pair (.int .i64) (.int .i64))))) v0.1::(.sl (.sl (.int .i64)) v0.2.1::(.sl (.int .i64) v0.2.2.1::(cellsX T80 v0.2.2.2.1++(.int .i64 v0.2.2.2.2.1::(.int .i64 v0.2.2.2.2.2.1::(.int .i64 v0.2.2.2.2.2.2.1::(cellsX T85 v0.2.2.2.2.2.2.2.1++(cellsX T86 v0.2.2.2.2.2.2.2.2.1++(.int .i64 v0.2.2.2.2.2.2.2.2.2.1::[])))))))))))] ?_
 refine zB [(8,.bp 8 0),(9,.int .i64 v0.2.2.2.2.2.2.2.2.2.2)] [(8,.box 88 (.sl (.sl (.pair (.int .i64) (.pair (.int .i64) (.pair (.int .i64) (.int .i64))))) v0.1::(.sl (.sl (.int .i64)) v0.2.1::(.sl (.int .i64) v0.2.2.1::(cellsX T80 v0.2.2.2.1++(.int .i64 v0.2.2.2.2.1::(.int .i64 v0.2.2.2.2.2.1::(.int .i64 v0.2.2.2.2.2.2.1::(cellsX T85 v0.2.2.2.2.2.2.2.1++(cellsX T86 v0.2.2.2.2.2.2.2.2.1++(.int .i64 v0.2.2.2.2.2.2.2.2.2.1::[])))))))))))] ?_
 refine AW.seq ?_
 refine zo ?_
 refine zB [(8,.bp 8 0),(9,.int .i64 v0.2.2.2.2.2.2.2.2.2.2),(18,.bool (!(decide (v0.2.2.2.2.2.2.2.2.2.2=0))))] [(8,.box 88 (.sl (.sl (.pair (.int .i64) (.pair (.int .i64) (.pair (.int .i64) (.int .i64))))) v0.1::(.sl (.sl (.int .i64)) v0.2.1::(.sl (.int .i64) v0.2.2.1::(cellsX T80 v0.2.2.2.1++(.int .i64 v0.2.2.2.2.1::(.int .i64 v0.2.2.2.2.2.1::(.int .i64 v0.2.2.2.2.2.2.1::(cellsX T85 v0.2.2.2.2.2.2.2.1++(cellsX T86 v0.2.2.2.2.2.2.2.2.1++(.int .i64 v0.2.2.2.2.2.2.2.2.2.1::[])))))))))))] ?_
 refine zQ h (fun hb2 h=>?_) (fun hb2 h=>?_)
 ·refine zo ?_
  refine zB [(6,.cv (.slice none 0 0)),(7,.int .i64 v0.2.2.2.2.2.2.2.2.2.2)] [] ?_
  refine zr ?_
  obtain rfl:=Option.some.inj h
  exact zR [] [2000] []
 ·refine zk ?_
  refine zo ?_
  refine zS 1 [(20,.agg (.sl (.sl (.pair (.int .i64) (.pair (.int .i64) (.pair (.int .i64) (.int .i64))))) v0.1::(.sl (.sl (.int .i64)) v0.2.1::(.sl (.int .i64) v0.2.2.1::(cellsX T80 v0.2.2.2.1++(.int .i64 v0.2.2.2.2.1::(.int .i64 v0.2.2.2.2.2.1::(.int .i64 v0.2.2.2.2.2.2.1::(cellsX T85 v0.2.2.2.2.2.2.2.1++(cellsX T86 v0.2.2.2.2.2.2.2.2.1++(.int .i64 v0.2.2.2.2.2.2.2.2.2.1::[])))))))))))] [] ?_
  obtain ⟨v0_2,hv3,h⟩:=Option.bind_eq_some_iff.1 h
  refine zC [] [] (hc_code_run_left ((v0.1,v0.2.1),v0.2.2.1,v0.2.2.2.1,(v0.2.2.2.2.1,v0.2.2.2.2.2.1,v0.2.2.2.2.2.2.1),v0.2.2.2.2.2.2.2.1,v0.2.2.2.2.2.2.2.2.1,v0.2.2.2.2.2.2.2.2.2.1) hv3) [(21,.own 31000)] [(31000,.arr 3 (.int .i64) v0_2)] ?_
  refine zB [(6,.own 31000),(7,.int .i64 0)] [(31000,.arr 3 (.int .i64) v0_2)] ?_
  refine AW.ret ?_
  obtain rfl:=Option.some.inj h
  exact zR [] [] [(2000,31000)]
theorem hc_linealref01_isTable (s:Int×Int×(List (List Int))×(List (List Int))) (l:List (List Int)) (limit:Int) {r:Bool} (h:linealref01_isTable s l limit=some r):HC Try.prog 137 [] [.agg [.int .i64 s.1,.int .i64 s.2.1,.sl (.sl (.int .i64)) s.2.2.1,.sl (.sl (.int .i64)) s.2.2.2],.sl (.sl (.int .i64)) l,.int .i64 limit] [] (.bool r):=by
 unfold linealref01_isTable at h
 refine zH Try.func137 [.tmp 6] 42 ?_
 refine zo ?_
 refine zB [(1,.sl (.sl (.int .i64)) l),(2,.int .i64 limit),(3,.bp 3 0)] [(3,.box 24 [.int .i64 s.1,.int .i64 s.2.1,.sl (.sl (.int .i64)) s.2.2.1,.sl (.sl (.int .i64)) s.2.2.2])] ?_
 refine AW.seq ?_
 refine zo ?_
 refine zB [(1,.sl (.sl (.int .i64)) l),(2,.int .i64 limit),(3,.bp 3 0),(15,.bool (!(decide ((l.length:Int)=s.1))))] [(3,.box 24 [.int .i64 s.1,.int .i64 s.2.1,.sl (.sl (.int .i64)) s.2.2.1,.sl (.sl (.int .i64)) s.2.2.2])] ?_
 refine zQ h (fun hb1 h=>?_) (fun hb1 h=>?_)
 ·refine zo ?_
  refine zB [(6,.bool false)] [] ?_
  refine zr ?_
  obtain rfl:=Option.some.inj h
  exact zR [] [] []
 ·refine zk ?_
  refine AW.have1 (fun _:Unit=>linealref01_isTable_k1=some r) (fun _=>⟨fr [],hpGet [],gt⟩) (fun _ h=>?_) (fun hk_linealref01_isTable_k1=>?_)
  ·as_aux_lemma =>
    unfold linealref01_isTable_k1 at h
    refine zo ?_
    refine zB [(6,.bool true)] [] ?_
    refine AW.ret ?_
    obtain rfl:=Option.some.inj h
    exact zR [] [] []
  ·refine AW.seq ?_
   refine zo ?_
   refine zB [(2,.int .i64 limit),(3,.bp 3 0),(16,.sl (.sl (.int .i64)) l),(17,.int .i64 (l.length:Int)),(18,.int .i64 0)] [(3,.box 24 [.int .i64 s.1,.int .i64 s.2.1,.sl (.sl (.int .i64)) s.2.2.1,.sl (.sl (.int .i64)) s.2.2.2])] ?_
   refine AW.block ?_
   obtain ⟨rv6,hw2,ho3⟩:=Option.bind_eq_some_iff.1 h
   refine AW.loopO (linealref01_isTable_b1 s l limit) (fun st1=>⟨fr [(2,.int .i64 limit),(3,.bp 3 0),(16,.sl (.sl (.int .i64)) l),(17,.int .i64 (l.length:Int)),(18,.int .i64 st1)],hpGet [(3,.box 24 [.int .i64 s.1,.int .i64 s.2.1,.sl (.sl (.int .i64)) s.2.2.1,.sl (.sl (.int .i64)) s.2.2.2])],gt⟩) 0 hw2 (zL [] [] []) ?_
   as_aux_lemma =>
    intro st1 x5 h hd4
    unfold linealref01_isTable_b1 at h
    refine zo ?_
    refine zB [(2,.int .i64 limit),(3,.bp 3 0),(16,.sl (.sl (.int .i64)) l),(17,.int .i64 (l.length:Int)),(18,.int .i64 st1),(19,.bool (decide (st1<(l.length:Int))))] [(3,.box 24 [.int .i64 s.1,.int .i64 s.2.1,.sl (.sl (.int .i64)) s.2.2.1,.sl (.sl (.int .i64)) s.2.2.2])] ?_
    refine AW.seq ?_
    refine zQ h (fun hb7 h=>?_) (fun hb7 h=>?_)
    ·refine zk ?_
     refine AW.have1 (fun _:Unit=>linealref01_isTable_k2 st1=some x5) (fun _=>⟨fr [(2,.int .i64 limit),(3,.bp 3 0),(16,.sl (.sl (.int .i64)) l),(17,.int .i64 (l.length:Int)),(18,.int .i64 st1)],hpGet [(3,.box 24 [.int .i64 s.1,.int .i64 s.2.1,.sl (.sl (.int .i64)) s.2.2.1,.sl (.sl (.int .i64)) s.2.2.2])],gt⟩) (fun _ h=>?_) (fun hk_linealref01_isTable_k2=>?_)
     ·as_aux_lemma =>
       unfold linealref01_isTable_k2 at h
       refine AW.ops ?_
       obtain ⟨c8,h⟩:=ck_some.1 h
       refine zA [(2,.int .i64 limit),(3,.bp 3 0),(16,.sl (.sl (.int .i64)) l),(17,.int .i64 (l.length:Int)),(18,.int .i64 (st1+1))] [(3,.box 24 [.int .i64 s.1,.int .i64 s.2.1,.sl (.sl (.int .i64)) s.2.2.1,.sl (.sl (.int .i64)) s.2.2.2])] ?_
       obtain rfl:=Option.some.inj h
       exact ⟨_,rfl,zL [] [] []⟩
     ·refine AW.seq ?_
      refine AW.block ?_
      refine zo ?_
      obtain ⟨c9,h⟩:=ck_some.1 h
      obtain ⟨c10,h⟩:=ck_some.1 h
      refine zB [(2,.int .i64 limit),(3,.bp 3 0),(8,.sl (.int .i64) (l.getD st1.toNat [])),(16,.sl (.sl (.int .i64)) l),(17,.int .i64 (l.length:Int)),(18,.int .i64 st1)] [(3,.box 24 [.int .i64 s.1,.int .i64 s.2.1,.sl (.sl (.int .i64)) s.2.2.1,.sl (.sl (.int .i64)) s.2.2.2])] ?_
      refine AW.seq ?_
      refine zo ?_
      refine zB [(2,.int .i64 limit),(3,.bp 3 0),(8,.sl (.int .i64) (l.getD st1.toNat [])),(16,.sl (.sl (.int .i64)) l),(17,.int .i64 (l.length:Int)),(18,.int .i64 st1),(26,.bool (!(decide (((l.getD st1.toNat []).length:Int)=s.2.1))))] [(3,.box 24 [.int .i64 s.1,.int .i64 s.2.1,.sl (.sl (.int .i64)) s.2.2.1,.sl (.sl (.int .i64)) s.2.2.2])] ?_
      refine zQ h (fun hb11 h=>?_) (fun hb11 h=>?_)
      ·refine zo ?_
       refine zB [(6,.bool false)] [] ?_
       refine zr ?_
       refine ablock_r ?_
       refine athen_r ?_
       obtain rfl:=Option.some.inj h
       try rw [← hd4 _ rfl] at ho3
       have h:=ho3
       try simp only at h
       refine athen_r ?_
       refine ablock_r ?_
       refine athen_r ?_
       obtain rfl:=Option.some.inj h
       exact zR [] [] []
      ·refine zk ?_
       refine zo ?_
       refine zB [(2,.int .i64 limit),(3,.bp 3 0),(16,.sl (.sl (.int .i64)) l),(17,.int .i64 (l.length:Int)),(18,.int .i64 st1),(27,.sl (.int .i64) (l.getD st1.toNat [])),(28,.int .i64 ((l.getD st1.toNat []).length:Int)),(29,.int .i64 0)] [(3,.box 24 [.int .i64 s.1,.int .i64 s.2.1,.sl (.sl (.int .i64)) s.2.2.1,.sl (.sl (.int .i64)) s.2.2.2])] ?_
       refine AW.block ?_
       obtain ⟨rv16,hw12,ho13⟩:=Option.bind_eq_some_iff.1 h
       refine AW.loopO (linealref01_isTable_b2 l limit st1) (fun st2=>⟨fr [(2,.int .i64 limit),(3,.bp 3 0),(16,.sl (.sl (.int .i64)) l),(17,.int .i64 (l.length:Int)),(18,.int .i64 st1),(27,.sl (.int .i64) (l.getD st1.toNat [])),(28,.int .i64 ((l.getD st1.toNat []).length:Int)),(29,.int .i64 st2)],hpGet [(3,.box 24 [.int .i64 s.1,.int .i64 s.2.1,.sl (.sl (.int .i64)) s.2.2.1,.sl (.sl (.int .i64)) s.2.2.2])],gt⟩) 0 hw12 (zL [] [] []) ?_
       as_aux_lemma =>
        intro st2 x15 h hd14
        unfold linealref01_isTable_b2 at h
        refine zo ?_
        refine zB [(2,.int .i64 limit),(3,.bp 3 0),(16,.sl (.sl (.int .i64)) l),(17,.int .i64 (l.length:Int)),(18,.int .i64 st1),(27,.sl (.int .i64) (l.getD st1.toNat [])),(28,.int .i64 ((l.getD st1.toNat []).length:Int)),(29,.int .i64 st2),(30,.bool (decide (st2<((l.getD st1.toNat []).length:Int))))] [(3,.box 24 [.int .i64 s.1,.int .i64 s.2.1,.sl (.sl (.int .i64)) s.2.2.1,.sl (.sl (.int .i64)) s.2.2.2])] ?_
        refine AW.seq ?_
        refine zQ h (fun hb17 h=>?_) (fun hb17 h=>?_)
        ·refine zk ?_
         refine AW.seq ?_
         refine AW.block ?_
         refine zo ?_
         obtain ⟨c18,h⟩:=ck_some.1 h
         obtain ⟨c19,h⟩:=ck_some.1 h
         refine zB [(2,.int .i64 limit),(3,.bp 3 0),(10,.int .i64 ((l.getD st1.toNat []).getD st2.toNat 0)),(16,.sl (.sl (.int .i64)) l),(17,.int .i64 (l.length:Int)),(18,.int .i64 st1),(27,.sl (.int .i64) (l.getD st1.toNat [])),(28,.int .i64 ((l.getD st1.toNat []).length:Int)),(29,.int .i64 st2)] [(3,.box 24 [.int .i64 s.1,.int .i64 s.2.1,.sl (.sl (.int .i64)) s.2.2.1,.sl (.sl (.int .i64)) s.2.2.2])] ?_
         refine zo ?_
         refine zS 3 [(2,.int .i64 limit),(3,.bp 3 0),(10,.int .i64 ((l.getD st1.toNat []).getD st2.toNat 0)),(16,.sl (.sl (.int .i64)) l),(17,.int .i64 (l.length:Int)),(18,.int .i64 st1),(27,.sl (.int .i64) (l.getD st1.toNat [])),(28,.int .i64 ((l.getD st1.toNat []).length:Int)),(29,.int .i64 st2),(35,.bool (decide (((l.getD st1.toNat []).getD st2.toNat 0)<0)))] [(3,.box 24 [.int .i64 s.1,.int .i64 s.2.1,.sl (.sl (.int .i64)) s.2.2.1,.sl (.sl (.int .i64)) s.2.2.2])] ?_
         rcases zI h with ⟨hb20,h⟩|⟨hb20,h⟩
         ·refine zB [(2,.int .i64 limit),(3,.bp 3 0),(16,.sl (.sl (.int .i64)) l),(17,.int .i64 (l.length:Int)),(18,.int .i64 st1),(27,.sl (.int .i64) (l.getD st1.toNat [])),(28,.int .i64 ((l.getD st1.toNat []).length:Int)),(29,.int .i64 st2),(39,.bool true)] [(3,.box 24 [.int .i64 s.1,.int .i64 s.2.1,.sl (.sl (.int .i64)) s.2.2.1,.sl (.sl (.int .i64)) s.2.2.2])] ?_
          refine AW.cond (b:=true) rfl (fun _=>?_) (fun hb21=>by cases hb21)
          refine zo ?_
          refine zB [(6,.bool false)] [] ?_
          refine AW.ret ?_
          refine ablock_r ?_
          refine athen_r ?_
          obtain rfl:=Option.some.inj h
          try rw [← hd14 _ rfl] at ho13
          have h:=ho13
          try simp only at h
          refine athen_r ?_
          refine ablock_r ?_
          refine ablock_r ?_
          refine athen_r ?_
          obtain rfl:=Option.some.inj h
          try rw [← hd4 _ rfl] at ho3
          have h:=ho3
          try simp only at h
          refine athen_r ?_
          refine ablock_r ?_
          refine athen_r ?_
          obtain rfl:=Option.some.inj h
          exact zR [] [] []
         ·refine zB [(2,.int .i64 limit),(3,.bp 3 0),(16,.sl (.sl (.int .i64)) l),(17,.int .i64 (l.length:Int)),(18,.int .i64 st1),(27,.sl (.int .i64) (l.getD st1.toNat [])),(28,.int .i64 ((l.getD st1.toNat []).length:Int)),(29,.int .i64 st2),(39,.bool (decide (limit≤((l.getD st1.toNat []).getD st2.toNat 0))))] [(3,.box 24 [.int .i64 s.1,.int .i64 s.2.1,.sl (.sl (.int .i64)) s.2.2.1,.sl (.sl (.int .i64)) s.2.2.2])] ?_
          refine zQ h (fun hb22 h=>?_) (fun hb22 h=>?_)
          ·refine zo ?_
           refine zB [(6,.bool false)] [] ?_
           refine AW.ret ?_
           refine ablock_r ?_
           refine athen_r ?_
           obtain rfl:=Option.some.inj h
           try rw [← hd14 _ rfl] at ho13
           have h:=ho13
           try simp only at h
           refine athen_r ?_
           refine ablock_r ?_
           refine ablock_r ?_
           refine athen_r ?_
           obtain rfl:=Option.some.inj h
           try rw [← hd4 _ rfl] at ho3
           have h:=ho3
           try simp only at h
           refine athen_r ?_
           refine ablock_r ?_
           refine athen_r ?_
           obtain rfl:=Option.some.inj h
           exact zR [] [] []
          ·refine zm ?_
           refine athen_n ?_
           refine AW.ops ?_
           obtain ⟨c23,h⟩:=ck_some.1 h
           refine zA [(2,.int .i64 limit),(3,.bp 3 0),(16,.sl (.sl (.int .i64)) l),(17,.int .i64 (l.length:Int)),(18,.int .i64 st1),(27,.sl (.int .i64) (l.getD st1.toNat [])),(28,.int .i64 ((l.getD st1.toNat []).length:Int)),(29,.int .i64 (st2+1))] [(3,.box 24 [.int .i64 s.1,.int .i64 s.2.1,.sl (.sl (.int .i64)) s.2.2.1,.sl (.sl (.int .i64)) s.2.2.2])] ?_
           obtain rfl:=Option.some.inj h
           exact ⟨_,rfl,zL [] [] []⟩
        ·refine AW.exit ?_
         refine athen_e ?_
         obtain rfl:=Option.some.inj h
         try rw [← hd14 _ rfl] at ho13
         have h:=ho13
         try simp only at h
         refine athen_e ?_
         refine ablock_s ?_
         refine ablock_n ?_
         refine athen_n ?_
         exact AW.weaken (zL [] [] []) (hk_linealref01_isTable_k2 () h)
    ·refine AW.exit ?_
     refine athen_e ?_
     obtain rfl:=Option.some.inj h
     try rw [← hd4 _ rfl] at ho3
     have h:=ho3
     try simp only at h
     refine athen_e ?_
     refine ablock_s ?_
     refine athen_n ?_
     exact AW.weaken (zL [] [] []) (hk_linealref01_isTable_k1 () h)
end Go.Proofs.Ytenchhmcjmjlbaa
