import Derived.Test.YtkocijiclklbfaaCkp
import Derived.Test.YtkocijiclklbfaaShk
import Derived.Test.YtkocijiclklbfaaAvd
import Derived.Test.YtkocijiclklbfaaCkc7
namespace Go.Proofs.Ytkocijiclklbfaa
open Go.RowKit
set_option linter.unusedSimpArgs false
set_option linter.unusedVariables false
set_option linter.constructorNameAsVariable false
set_option maxRecDepth 100000
set_option maxHeartbeats 40000000
theorem hc_linealref08_IsUse (c:List (List (Int×Int×Int×Int))) (use:List (List Int)) {r:Bool} (h:linealref08_IsUse c use=some r):HC Try.prog 20 [] [.sl (.sl (.pair (.int .i64) (.pair (.int .i64) (.pair (.int .i64) (.int .i64))))) c,.sl (.sl (.int .i64)) use] [] (.bool r):=by
 unfold linealref08_IsUse at h
 refine zH Try.func20 [.tmp 4] 44 ?_
 refine zo ?_
 refine zB [(0,.sl (.sl (.pair (.int .i64) (.pair (.int .i64) (.pair (.int .i64) (.int .i64))))) c),(1,.sl (.sl (.int .i64)) use)] [] ?_
 refine AW.seq ?_
 refine zo ?_
 refine zS 2 [(0,.sl (.sl (.pair (.int .i64) (.pair (.int .i64) (.pair (.int .i64) (.int .i64))))) c),(1,.sl (.sl (.int .i64)) use),(8,.int .i64 (use.length:Int))] [] ?_
 obtain ⟨v0,hv1,h⟩:=Option.bind_eq_some_iff.1 h
 refine zC [] [] (hc_linealref08_within 1 (use.length:Int) 2 hv1) [(0,.sl (.sl (.pair (.int .i64) (.pair (.int .i64) (.pair (.int .i64) (.int .i64))))) c),(1,.sl (.sl (.int .i64)) use),(9,.bool v0)] [] ?_
 refine zB [(0,.sl (.sl (.pair (.int .i64) (.pair (.int .i64) (.pair (.int .i64) (.int .i64))))) c),(1,.sl (.sl (.int .i64)) use),(10,.bool (!v0))] [] ?_
 refine zQ h (fun hb2 h=>?_) (fun hb2 h=>?_)
 ·refine zo ?_
  refine zB [(4,.bool false)] [] ?_
  refine zr ?_
  obtain rfl:=Option.some.inj h
  exact zR [] [] []
 ·refine zk ?_
  refine AW.have1 (fun _:Unit=>linealref08_IsUse_k1=some r) (fun _=>⟨fr [],hpGet [],gt⟩) (fun _ h=>?_) (fun hk_linealref08_IsUse_k1=>?_)
  ·as_aux_lemma =>
    unfold linealref08_IsUse_k1 at h
    refine zo ?_
    refine zB [(4,.bool true)] [] ?_
    refine AW.ret ?_
    obtain rfl:=Option.some.inj h
    exact zR [] [] []
  ·refine AW.seq ?_
   refine zo ?_
   refine zB [(0,.sl (.sl (.pair (.int .i64) (.pair (.int .i64) (.pair (.int .i64) (.int .i64))))) c),(1,.sl (.sl (.int .i64)) use),(5,.int .i64 0)] [] ?_
   refine AW.block ?_
   obtain ⟨rv7,hw3,ho4⟩:=Option.bind_eq_some_iff.1 h
   refine AW.loopO (linealref08_IsUse_b1 c use) (fun st1=>⟨fr [(0,.sl (.sl (.pair (.int .i64) (.pair (.int .i64) (.pair (.int .i64) (.int .i64))))) c),(1,.sl (.sl (.int .i64)) use),(5,.int .i64 st1)],hpGet [],gt⟩) 0 hw3 (zL [] [] []) ?_
   as_aux_lemma =>
    intro st1 x6 h hd5
    unfold linealref08_IsUse_b1 at h
    refine AW.seq ?_
    refine zo ?_
    refine zB [(0,.sl (.sl (.pair (.int .i64) (.pair (.int .i64) (.pair (.int .i64) (.int .i64))))) c),(1,.sl (.sl (.int .i64)) use),(5,.int .i64 st1),(14,.bool (decide (st1<(use.length:Int))))] [] ?_
    refine zQ h (fun hb8 h=>?_) (fun hb8 h=>?_)
    ·refine zk ?_
     refine AW.have1 (fun _:Unit=>linealref08_IsUse_k2 st1=some x6) (fun _=>⟨fr [(0,.sl (.sl (.pair (.int .i64) (.pair (.int .i64) (.pair (.int .i64) (.int .i64))))) c),(1,.sl (.sl (.int .i64)) use),(5,.int .i64 st1)],hpGet [],gt⟩) (fun _ h=>?_) (fun hk_linealref08_IsUse_k2=>?_)
     ·as_aux_lemma =>
       unfold linealref08_IsUse_k2 at h
       refine AW.ops ?_
       obtain ⟨c9,h⟩:=ck_some.1 h
       refine zA [(0,.sl (.sl (.pair (.int .i64) (.pair (.int .i64) (.pair (.int .i64) (.int .i64))))) c),(1,.sl (.sl (.int .i64)) use),(5,.int .i64 (st1+1))] [] ?_
       obtain rfl:=Option.some.inj h
       exact ⟨_,rfl,zL [] [] []⟩
     ·refine AW.seq ?_
      refine AW.block ?_
      refine AW.seq ?_
      refine zo ?_
      obtain ⟨c10,h⟩:=ck_some.1 h
      obtain ⟨c11,h⟩:=ck_some.1 h
      refine zS 5 [(0,.sl (.sl (.pair (.int .i64) (.pair (.int .i64) (.pair (.int .i64) (.int .i64))))) c),(1,.sl (.sl (.int .i64)) use),(5,.int .i64 st1),(21,.int .i64 ((use.getD st1.toNat []).length:Int))] [] ?_
      refine zB [(0,.sl (.sl (.pair (.int .i64) (.pair (.int .i64) (.pair (.int .i64) (.int .i64))))) c),(1,.sl (.sl (.int .i64)) use),(5,.int .i64 st1),(22,.bool (decide (3<((use.getD st1.toNat []).length:Int))))] [] ?_
      refine zQ h (fun hb12 h=>?_) (fun hb12 h=>?_)
      ·refine zo ?_
       refine zB [(4,.bool false)] [] ?_
       refine zr ?_
       refine ablock_r ?_
       refine athen_r ?_
       obtain rfl:=Option.some.inj h
       try rw [← hd5 _ rfl] at ho4
       have h:=ho4
       try simp only at h
       refine athen_r ?_
       refine ablock_r ?_
       refine athen_r ?_
       obtain rfl:=Option.some.inj h
       exact zR [] [] []
      ·refine zk ?_
       refine zo ?_
       refine zB [(0,.sl (.sl (.pair (.int .i64) (.pair (.int .i64) (.pair (.int .i64) (.int .i64))))) c),(1,.sl (.sl (.int .i64)) use),(5,.int .i64 st1),(6,.int .i64 0)] [] ?_
       refine AW.block ?_
       obtain ⟨rv17,hw13,ho14⟩:=Option.bind_eq_some_iff.1 h
       refine AW.loopO (linealref08_IsUse_b2 c use st1) (fun st2=>⟨fr [(0,.sl (.sl (.pair (.int .i64) (.pair (.int .i64) (.pair (.int .i64) (.int .i64))))) c),(1,.sl (.sl (.int .i64)) use),(5,.int .i64 st1),(6,.int .i64 st2)],hpGet [],gt⟩) 0 hw13 (zL [] [] []) ?_
       as_aux_lemma =>
        intro st2 x16 h hd15
        unfold linealref08_IsUse_b2 at h
        refine AW.seq ?_
        refine zo ?_
        obtain ⟨c18,h⟩:=ck_some.1 h
        obtain ⟨c19,h⟩:=ck_some.1 h
        refine zS 5 [(0,.sl (.sl (.pair (.int .i64) (.pair (.int .i64) (.pair (.int .i64) (.int .i64))))) c),(1,.sl (.sl (.int .i64)) use),(5,.int .i64 st1),(6,.int .i64 st2),(23,.int .i64 st2),(27,.sl (.int .i64) (use.getD st1.toNat []))] [] ?_
        refine zB [(0,.sl (.sl (.pair (.int .i64) (.pair (.int .i64) (.pair (.int .i64) (.int .i64))))) c),(1,.sl (.sl (.int .i64)) use),(5,.int .i64 st1),(6,.int .i64 st2),(29,.bool (decide (st2<((use.getD st1.toNat []).length:Int))))] [] ?_
        refine zQ h (fun hb20 h=>?_) (fun hb20 h=>?_)
        ·refine zk ?_
         refine AW.seq ?_
         refine AW.block ?_
         refine zo ?_
         obtain ⟨c21,h⟩:=ck_some.1 h
         obtain ⟨c22,h⟩:=ck_some.1 h
         refine zS 5 [(0,.sl (.sl (.pair (.int .i64) (.pair (.int .i64) (.pair (.int .i64) (.int .i64))))) c),(1,.sl (.sl (.int .i64)) use),(5,.int .i64 st1),(6,.int .i64 st2),(35,.sl (.int .i64) (use.getD st1.toNat [])),(36,.int .i64 st2)] [] ?_
         obtain ⟨c23,h⟩:=ck_some.1 h
         obtain ⟨c24,h⟩:=ck_some.1 h
         obtain ⟨c25,h⟩:=ck_some.1 h
         refine zS 5 [(0,.sl (.sl (.pair (.int .i64) (.pair (.int .i64) (.pair (.int .i64) (.int .i64))))) c),(1,.sl (.sl (.int .i64)) use),(5,.int .i64 st1),(6,.int .i64 st2),(38,.int .i64 ((use.getD st1.toNat []).getD st2.toNat 0)),(41,.int .i64 ((c.length:Int) - 1))] [] ?_
         obtain ⟨v0_2,hv26,h⟩:=Option.bind_eq_some_iff.1 h
         refine zC [] [] (hc_linealref08_within 0 ((use.getD st1.toNat []).getD st2.toNat 0) ((c.length:Int) - 1) hv26) [(0,.sl (.sl (.pair (.int .i64) (.pair (.int .i64) (.pair (.int .i64) (.int .i64))))) c),(1,.sl (.sl (.int .i64)) use),(5,.int .i64 st1),(6,.int .i64 st2),(42,.bool v0_2)] [] ?_
         refine zB [(0,.sl (.sl (.pair (.int .i64) (.pair (.int .i64) (.pair (.int .i64) (.int .i64))))) c),(1,.sl (.sl (.int .i64)) use),(5,.int .i64 st1),(6,.int .i64 st2),(43,.bool (!v0_2))] [] ?_
         refine zQ h (fun hb27 h=>?_) (fun hb27 h=>?_)
         ·refine zo ?_
          refine zB [(4,.bool false)] [] ?_
          refine AW.ret ?_
          refine ablock_r ?_
          refine athen_r ?_
          obtain rfl:=Option.some.inj h
          try rw [← hd15 _ rfl] at ho14
          have h:=ho14
          try simp only at h
          refine athen_r ?_
          refine ablock_r ?_
          refine ablock_r ?_
          refine athen_r ?_
          obtain rfl:=Option.some.inj h
          try rw [← hd5 _ rfl] at ho4
          have h:=ho4
          try simp only at h
          refine athen_r ?_
          refine ablock_r ?_
          refine athen_r ?_
          obtain rfl:=Option.some.inj h
          exact zR [] [] []
         ·refine zm ?_
          refine athen_n ?_
          refine AW.ops ?_
          obtain ⟨c28,h⟩:=ck_some.1 h
          refine zA [(0,.sl (.sl (.pair (.int .i64) (.pair (.int .i64) (.pair (.int .i64) (.int .i64))))) c),(1,.sl (.sl (.int .i64)) use),(5,.int .i64 st1),(6,.int .i64 (st2+1))] [] ?_
          obtain rfl:=Option.some.inj h
          exact ⟨_,rfl,zL [] [] []⟩
        ·refine AW.exit ?_
         refine athen_e ?_
         obtain rfl:=Option.some.inj h
         try rw [← hd15 _ rfl] at ho14
         have h:=ho14
         try simp only at h
         refine athen_e ?_
         refine ablock_s ?_
         refine ablock_n ?_
         refine athen_n ?_
         exact AW.weaken (zL [] [] []) (hk_linealref08_IsUse_k2 () h)
    ·refine AW.exit ?_
     refine athen_e ?_
     obtain rfl:=Option.some.inj h
     try rw [← hd5 _ rfl] at ho4
     have h:=ho4
     try simp only at h
     refine athen_e ?_
     refine ablock_s ?_
     refine athen_n ?_
     exact AW.weaken (zL [] [] []) (hk_linealref08_IsUse_k1 () h)
theorem hc_linealref08_ValidUse (c:List (List (Int×Int×Int×Int))) (use:List (List Int)) {r:Bool×Int} (h:linealref08_ValidUse c use=some r):HC Try.prog 7 [] [.sl (.sl (.pair (.int .i64) (.pair (.int .i64) (.pair (.int .i64) (.int .i64))))) c,.sl (.sl (.int .i64)) use] [] (.tup [.bool r.1,.int .i64 r.2]):=by
 unfold linealref08_ValidUse at h
 refine zH Try.func7 [.tmp 4,.tmp 5] 12 ?_
 refine zo ?_
 refine zB [(0,.sl (.sl (.pair (.int .i64) (.pair (.int .i64) (.pair (.int .i64) (.int .i64))))) c),(1,.sl (.sl (.int .i64)) use)] [] ?_
 refine AW.seq ?_
 refine zo ?_
 refine zS 1 [(0,.sl (.sl (.pair (.int .i64) (.pair (.int .i64) (.pair (.int .i64) (.int .i64))))) c),(1,.sl (.sl (.int .i64)) use),(6,.sl (.sl (.pair (.int .i64) (.pair (.int .i64) (.pair (.int .i64) (.int .i64))))) c)] [] ?_
 obtain ⟨v0,hv1,h⟩:=Option.bind_eq_some_iff.1 h
 refine zC [] [] (hc_linealref08_Valid c hv1) [(0,.sl (.sl (.pair (.int .i64) (.pair (.int .i64) (.pair (.int .i64) (.int .i64))))) c),(1,.sl (.sl (.int .i64)) use),(7,.bool v0)] [] ?_
 refine zB [(0,.sl (.sl (.pair (.int .i64) (.pair (.int .i64) (.pair (.int .i64) (.int .i64))))) c),(1,.sl (.sl (.int .i64)) use),(8,.bool (!v0))] [] ?_
 refine zQ h (fun hb2 h=>?_) (fun hb2 h=>?_)
 ·refine zo ?_
  refine zB [(4,.bool false),(5,.int .i64 80)] [] ?_
  refine zr ?_
  obtain rfl:=Option.some.inj h
  exact zR [] [] []
 ·refine zk ?_
  refine zo ?_
  refine zS 2 [(9,.sl (.sl (.pair (.int .i64) (.pair (.int .i64) (.pair (.int .i64) (.int .i64))))) c),(10,.sl (.sl (.int .i64)) use)] [] ?_
  obtain ⟨v0_2,hv3,h⟩:=Option.bind_eq_some_iff.1 h
  refine zC [] [] (hc_linealref08_IsUse c use hv3) [(11,.bool v0_2)] [] ?_
  refine zB [(4,.bool v0_2),(5,.int .i64 0)] [] ?_
  refine AW.ret ?_
  obtain rfl:=Option.some.inj h
  exact zR [] [] []
theorem hc_linealref08_asked (c:List (List (Int×Int×Int×Int))) (use:List (List Int)) {r:Int} (h:linealref08_asked c use=some r):HC Try.prog 38 [] [.sl (.sl (.pair (.int .i64) (.pair (.int .i64) (.pair (.int .i64) (.int .i64))))) c,.sl (.sl (.int .i64)) use] [] (.int .i64 r):=by
 unfold linealref08_asked at h
 refine zH Try.func38 [.tmp 4] 12 ?_
 refine zo ?_
 refine zB [(0,.sl (.sl (.pair (.int .i64) (.pair (.int .i64) (.pair (.int .i64) (.int .i64))))) c),(1,.sl (.sl (.int .i64)) use)] [] ?_
 refine AW.seq ?_
 refine zo ?_
 refine zS 1 [(0,.sl (.sl (.pair (.int .i64) (.pair (.int .i64) (.pair (.int .i64) (.int .i64))))) c),(1,.sl (.sl (.int .i64)) use),(5,.sl (.sl (.pair (.int .i64) (.pair (.int .i64) (.pair (.int .i64) (.int .i64))))) c)] [] ?_
 obtain ⟨v0,hv1,h⟩:=Option.bind_eq_some_iff.1 h
 refine zC [] [] (hc_linealref08_Valid c hv1) [(0,.sl (.sl (.pair (.int .i64) (.pair (.int .i64) (.pair (.int .i64) (.int .i64))))) c),(1,.sl (.sl (.int .i64)) use),(6,.bool v0)] [] ?_
 refine zB [(0,.sl (.sl (.pair (.int .i64) (.pair (.int .i64) (.pair (.int .i64) (.int .i64))))) c),(1,.sl (.sl (.int .i64)) use),(7,.bool (!v0))] [] ?_
 refine zQ h (fun hb2 h=>?_) (fun hb2 h=>?_)
 ·refine zo ?_
  refine zB [(4,.int .i64 80)] [] ?_
  refine zr ?_
  obtain rfl:=Option.some.inj h
  exact zR [] [] []
 ·refine zk ?_
  refine AW.seq ?_
  refine zo ?_
  refine zS 2 [(8,.sl (.sl (.pair (.int .i64) (.pair (.int .i64) (.pair (.int .i64) (.int .i64))))) c),(9,.sl (.sl (.int .i64)) use)] [] ?_
  obtain ⟨v0_2,hv3,h⟩:=Option.bind_eq_some_iff.1 h
  refine zC [] [] (hc_linealref08_IsUse c use hv3) [(10,.bool v0_2)] [] ?_
  refine zB [(11,.bool (!v0_2))] [] ?_
  refine zQ h (fun hb4 h=>?_) (fun hb4 h=>?_)
  ·refine zo ?_
   refine zB [(4,.int .i64 81)] [] ?_
   refine zr ?_
   obtain rfl:=Option.some.inj h
   exact zR [] [] []
  ·refine zk ?_
   refine zo ?_
   refine zB [(4,.int .i64 0)] [] ?_
   refine AW.ret ?_
   obtain rfl:=Option.some.inj h
   exact zR [] [] []
theorem hc_linealref08_Begin (c:List (List (Int×Int×Int×Int))) (use:List (List Int)) (marks:List Int) {r:Unit} (h:linealref08_Begin c use marks=some r):HC Try.prog 53 [] [.sl (.sl (.pair (.int .i64) (.pair (.int .i64) (.pair (.int .i64) (.int .i64))))) c,.sl (.sl (.int .i64)) use,.sl (.int .i64) marks] [(2000,.box 72 [.sl (.sl (.pair (.int .i64) (.pair (.int .i64) (.pair (.int .i64) (.int .i64))))) c,.sl (.sl (.int .i64)) use,.sl (.int .i64) marks,.own 2001,.int .i64 0,.int .i64 0,.int .i64 0,.int .i64 0,.cv (.slice none 0 0),.cv (.slice none 0 0)]),(2001,.arr 92 (.pair (.int .i64) (.pair (.int .i64) (.pair .bool (.pair (.int .i64) (.pair (.int .i64) (.pair (.int .i64) (.pair (.int .i64) (.int .i64)))))))) (List.replicate use.length ((0,0,false,0,0,0,0,0):Int×Int×Bool×Int×Int×Int×Int×Int)))] (.bp 2000 0):=by
 unfold linealref08_Begin at h
 refine zH Try.func53 [.tmp 6] 15 ?_
 refine zo ?_
 refine zB [(0,.sl (.sl (.pair (.int .i64) (.pair (.int .i64) (.pair (.int .i64) (.int .i64))))) c),(1,.sl (.sl (.int .i64)) use),(2,.sl (.int .i64) marks)] [] ?_
 refine zo ?_
 refine zS 5 [(7,.sl (.sl (.pair (.int .i64) (.pair (.int .i64) (.pair (.int .i64) (.int .i64))))) c),(8,.sl (.sl (.int .i64)) use),(9,.sl (.int .i64) marks),(11,.int .i64 (use.length:Int))] [] ?_
 obtain ⟨c1,h⟩:=ck_some.1 h
 refine zB [(6,.bp 14 0)] [(12,.arr 92 (.pair (.int .i64) (.pair (.int .i64) (.pair .bool (.pair (.int .i64) (.pair (.int .i64) (.pair (.int .i64) (.pair (.int .i64) (.int .i64)))))))) (List.replicate use.length ((0,0,false,0,0,0,0,0):Int×Int×Bool×Int×Int×Int×Int×Int))),(14,.box 72 [.sl (.sl (.pair (.int .i64) (.pair (.int .i64) (.pair (.int .i64) (.int .i64))))) c,.sl (.sl (.int .i64)) use,.sl (.int .i64) marks,.own 12,.int .i64 0,.int .i64 0,.int .i64 0,.int .i64 0,.cv (.slice none 0 0),.cv (.slice none 0 0)])] ?_
 refine AW.ret ?_
 obtain rfl:=Option.some.inj h
 exact zR [] [] [(2000,14),(2001,12)]
end Go.Proofs.Ytkocijiclklbfaa
