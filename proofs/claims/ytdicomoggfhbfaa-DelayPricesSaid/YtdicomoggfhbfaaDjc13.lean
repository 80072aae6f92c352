import Derived.Test.YtdicomoggfhbfaaDlp
import Derived.Test.YtdicomoggfhbfaaShd
import Derived.Test.YtdicomoggfhbfaaAvd
import Derived.Test.YtdicomoggfhbfaaDjc10
import Derived.Test.YtdicomoggfhbfaaDjc11
import Derived.Test.YtdicomoggfhbfaaDjc12
import Derived.Test.YtdicomoggfhbfaaDjc9
namespace Go.Proofs.Ytdicomoggfhbfaa
open Go.RowKit
set_option linter.unusedSimpArgs false
set_option linter.unusedVariables false
set_option linter.constructorNameAsVariable false
set_option maxRecDepth 100000
set_option maxHeartbeats 40000000
theorem hc_linealref09_earlier (l:List (Int×Int)) (m:List (Int×Int)) {r:Bool} (h:linealref09_earlier l m=some r):HC Try.prog 132 [] [.sl (.pair (.int .i64) (.int .i64)) l,.sl (.pair (.int .i64) (.int .i64)) m] [] (.bool r):=by
 unfold linealref09_earlier at h
 refine zH Try.func132 [.tmp 4] 69 ?_
 refine zo ?_
 refine zB [(0,.sl (.pair (.int .i64) (.int .i64)) l),(1,.sl (.pair (.int .i64) (.int .i64)) m)] [] ?_
 refine AW.have1 (fun _:Unit=>linealref09_earlier_k1 l m=some r) (fun _=>⟨fr [(0,.sl (.pair (.int .i64) (.int .i64)) l),(1,.sl (.pair (.int .i64) (.int .i64)) m)],hpGet [],gt⟩) (fun _ h=>?_) (fun hk_linealref09_earlier_k1=>?_)
 ·as_aux_lemma =>
   unfold linealref09_earlier_k1 at h
   refine zo ?_
   refine zS 5 [(68,.bool (decide ((l.length:Int)<(m.length:Int))))] [] ?_
   refine zB [(4,.bool (decide ((l.length:Int)<(m.length:Int))))] [] ?_
   refine AW.ret ?_
   obtain rfl:=Option.some.inj h
   exact zR [] [] []
 ·refine AW.seq ?_
  refine zo ?_
  refine zB [(0,.sl (.pair (.int .i64) (.int .i64)) l),(1,.sl (.pair (.int .i64) (.int .i64)) m),(5,.int .i64 0)] [] ?_
  refine AW.block ?_
  obtain ⟨rv5,hw1,ho2⟩:=Option.bind_eq_some_iff.1 h
  refine AW.loopO (linealref09_earlier_b1 l m) (fun st1=>⟨fr [(0,.sl (.pair (.int .i64) (.int .i64)) l),(1,.sl (.pair (.int .i64) (.int .i64)) m),(5,.int .i64 st1)],hpGet [],gt⟩) 0 hw1 (zL [] [] []) ?_
  as_aux_lemma =>
   intro st1 x4 h hd3
   unfold linealref09_earlier_b1 at h
   refine AW.seq ?_
   refine zo ?_
   refine zS 5 [(0,.sl (.pair (.int .i64) (.int .i64)) l),(1,.sl (.pair (.int .i64) (.int .i64)) m),(5,.int .i64 st1),(10,.bool (decide (st1<(l.length:Int))))] [] ?_
   rcases zI h with ⟨hb6,h⟩|⟨hb6,h⟩
   ·refine zB [(0,.sl (.pair (.int .i64) (.int .i64)) l),(1,.sl (.pair (.int .i64) (.int .i64)) m),(5,.int .i64 st1),(15,.bool (decide (st1<(m.length:Int))))] [] ?_
    refine zQ h (fun hb7 h=>?_) (fun hb7 h=>?_)
    ·refine zk ?_
     refine AW.seq ?_
     refine AW.block ?_
     refine AW.seq ?_
     refine AW.drawTail tab_ok mixed_ok 8 [] [] (by decide) (by kernel_rfl) (by kernel_rfl) (by decide) ?_
     dsimp only [List.take_succ_cons,List.take_zero]
     obtain ⟨c9,h⟩:=ck_some.1 h
     obtain ⟨c10,h⟩:=ck_some.1 h
     refine adops_cut 6 (fun K' hK8=>?_)
     try dsimp only [List.drop_succ_cons,List.drop_zero,List.take_succ_cons,List.take_zero]
     simp only [go_sem,hb6,hb7]
     repeat with_reducible refine zN ?_
     refine hK8 _ ?_
     as_aux_lemma =>
      obtain ⟨c12,h⟩:=ck_some.1 h
      obtain ⟨c13,h⟩:=ck_some.1 h
      refine adops_cut 2 (fun K' hK11=>?_)
      try dsimp only [List.drop_succ_cons,List.drop_zero,List.take_succ_cons,List.take_zero]
      simp only [go_sem,hb6,hb7]
      repeat with_reducible refine zN ?_
      refine hK11 _ ?_
      refine adops_nil ?_
      refine zT [(0,.sl (.pair (.int .i64) (.int .i64)) l),(1,.sl (.pair (.int .i64) (.int .i64)) m),(5,.int .i64 st1),(21,.agg [.int .i64 (l.getD st1.toNat (0,0)).1,.int .i64 (l.getD st1.toNat (0,0)).2]),(25,.agg [.int .i64 (m.getD st1.toNat (0,0)).1,.int .i64 (m.getD st1.toNat (0,0)).2])] [] gt ?_
      obtain ⟨c14,h⟩:=ck_some.1 h
      obtain ⟨c15,h⟩:=ck_some.1 h
      obtain ⟨c16,h⟩:=ck_some.1 h
      obtain ⟨c17,h⟩:=ck_some.1 h
      refine AO.aggEq (neg:=true) eqty_110 (by decide) rfl rfl (lx:=[.int .i64 (l.getD st1.toNat (0,0)).1,.int .i64 (l.getD st1.toNat (0,0)).2]) (ly:=[.int .i64 (m.getD st1.toNat (0,0)).1,.int .i64 (m.getD st1.toNat (0,0)).2]) (by first|rfl|(simp only [go_sem,hb6,hb7])<;>(with_reducible and_intros)<;>first|assumption|rfl|omega|(unfold maxLen; omega)) (by first|rfl|(simp only [go_sem,hb6,hb7])<;>(with_reducible and_intros)<;>first|assumption|rfl|omega|(unfold maxLen; omega)) (by first|rfl|(simp only [go_sem,hb6,hb7])<;>(with_reducible and_intros)<;>first|assumption|rfl|omega|(unfold maxLen; omega)) (by first|rfl|(simp only [go_sem,hb6,hb7])<;>(with_reducible and_intros)<;>first|assumption|rfl|omega|(unfold maxLen; omega)) (by first|assumption|omega|(simp only [go_sem,hb6,hb7])<;>(with_reducible and_intros)<;>first|assumption|rfl|omega|(unfold maxLen; omega)) (by first|assumption|omega|(simp only [go_sem,hb6,hb7])<;>(with_reducible and_intros)<;>first|assumption|rfl|omega|(unfold maxLen; omega)) ?_
      refine zT [(0,.sl (.pair (.int .i64) (.int .i64)) l),(1,.sl (.pair (.int .i64) (.int .i64)) m),(5,.int .i64 st1),(26,.bool (!(decide ((l.getD st1.toNat (0,0))=(m.getD st1.toNat (0,0))))))] [] gt ?_
      refine zB [(0,.sl (.pair (.int .i64) (.int .i64)) l),(1,.sl (.pair (.int .i64) (.int .i64)) m),(5,.int .i64 st1),(26,.bool (!(decide ((l.getD st1.toNat (0,0))=(m.getD st1.toNat (0,0))))))] [] ?_
      refine zQ h (fun hb18 h=>?_) (fun hb18 h=>?_)
      ·refine AW.seq ?_
       refine AW.draw tab_ok mixed_ok [] [] (by decide) (lex_fast (by kernel_rfl)) ?_
       as_aux_lemma =>
        obtain ⟨c20,h⟩:=ck_some.1 h
        obtain ⟨c21,h⟩:=ck_some.1 h
        refine adops_cut 6 (fun K' hK19=>?_)
        try dsimp only [List.drop_succ_cons,List.drop_zero,List.take_succ_cons,List.take_zero]
        simp only [go_sem,hb6,hb7,hb18]
        repeat with_reducible refine zN ?_
        refine hK19 _ ?_
        as_aux_lemma =>
         obtain ⟨c23,h⟩:=ck_some.1 h
         obtain ⟨c24,h⟩:=ck_some.1 h
         refine adops_cut 6 (fun K' hK22=>?_)
         try dsimp only [List.drop_succ_cons,List.drop_zero,List.take_succ_cons,List.take_zero]
         simp only [go_sem,hb6,hb7,hb18]
         repeat with_reducible refine zN ?_
         refine hK22 _ ?_
         as_aux_lemma =>
          rcases zI h with ⟨hb25,h⟩|⟨hb25,h⟩
          ·simp only [hb25]
           as_aux_lemma =>
            refine adops_cut 4 (fun K' hK26=>?_)
            try dsimp only [List.drop_succ_cons,List.drop_zero,List.take_succ_cons,List.take_zero]
            simp only [go_sem,hb6,hb7,hb18,hb25]
            repeat with_reducible refine zN ?_
            refine hK26 _ ?_
            as_aux_lemma =>
             refine adops_cut 4 (fun K' hK27=>?_)
             try dsimp only [List.drop_succ_cons,List.drop_zero,List.take_succ_cons,List.take_zero]
             simp only [go_sem,hb6,hb7,hb18,hb25]
             repeat with_reducible refine zN ?_
             refine hK27 _ ?_
             as_aux_lemma =>
              refine adops_cut 4 (fun K' hK28=>?_)
              try dsimp only [List.drop_succ_cons,List.drop_zero,List.take_succ_cons,List.take_zero]
              simp only [go_sem,hb6,hb7,hb18,hb25]
              repeat with_reducible refine zN ?_
              refine hK28 _ ?_
              as_aux_lemma =>
               refine adops_cut 4 (fun K' hK29=>?_)
               try dsimp only [List.drop_succ_cons,List.drop_zero,List.take_succ_cons,List.take_zero]
               simp only [go_sem,hb6,hb7,hb18,hb25]
               repeat with_reducible refine zN ?_
               refine hK29 _ ?_
               as_aux_lemma =>
                refine adops_cut 4 (fun K' hK30=>?_)
                try dsimp only [List.drop_succ_cons,List.drop_zero,List.take_succ_cons,List.take_zero]
                simp only [go_sem,hb6,hb7,hb18,hb25]
                repeat with_reducible refine zN ?_
                refine hK30 _ ?_
                as_aux_lemma =>
                 refine adops_cut 4 (fun K' hK31=>?_)
                 try dsimp only [List.drop_succ_cons,List.drop_zero,List.take_succ_cons,List.take_zero]
                 simp only [go_sem,hb6,hb7,hb18,hb25]
                 repeat with_reducible refine zN ?_
                 refine hK31 _ ?_
                 as_aux_lemma =>
                  refine adops_cut 2 (fun K' hK32=>?_)
                  try dsimp only [List.drop_succ_cons,List.drop_zero,List.take_succ_cons,List.take_zero]
                  simp only [go_sem,hb6,hb7,hb18,hb25]
                  repeat with_reducible refine zN ?_
                  refine hK32 _ ?_
                  refine adops_nil ?_
                  refine athen_n ?_
                  refine zV [(4,.bool true)] [] gt ?_
                  as_aux_lemma =>
                   refine AW.ret ?_
                   refine ablock_r ?_
                   refine athen_r ?_
                   obtain rfl:=Option.some.inj h
                   rw [← hd3 _ rfl] at ho2
                   have h:=ho2
                   try simp only at h
                   refine athen_r ?_
                   refine ablock_r ?_
                   refine athen_r ?_
                   obtain rfl:=Option.some.inj h
                   exact zR [] [] []
          ·simp only [hb25]
           as_aux_lemma =>
            obtain ⟨c34,h⟩:=ck_some.1 h
            obtain ⟨c35,h⟩:=ck_some.1 h
            refine adops_cut 6 (fun K' hK33=>?_)
            try dsimp only [List.drop_succ_cons,List.drop_zero,List.take_succ_cons,List.take_zero]
            simp only [go_sem,hb6,hb7,hb18,hb25]
            repeat with_reducible refine zN ?_
            refine hK33 _ ?_
            as_aux_lemma =>
             obtain ⟨c37,h⟩:=ck_some.1 h
             obtain ⟨c38,h⟩:=ck_some.1 h
             refine adops_cut 6 (fun K' hK36=>?_)
             try dsimp only [List.drop_succ_cons,List.drop_zero,List.take_succ_cons,List.take_zero]
             simp only [go_sem,hb6,hb7,hb18,hb25]
             repeat with_reducible refine zN ?_
             refine hK36 _ ?_
             as_aux_lemma =>
              rcases zI h with ⟨hb39,h⟩|⟨hb39,h⟩
              ·simp only [hb39]
               as_aux_lemma =>
                obtain ⟨c41,h⟩:=ck_some.1 h
                obtain ⟨c42,h⟩:=ck_some.1 h
                refine adops_cut 6 (fun K' hK40=>?_)
                try dsimp only [List.drop_succ_cons,List.drop_zero,List.take_succ_cons,List.take_zero]
                simp only [go_sem,hb6,hb7,hb18,hb25,hb39]
                repeat with_reducible refine zN ?_
                refine hK40 _ ?_
                as_aux_lemma =>
                 obtain ⟨c44,h⟩:=ck_some.1 h
                 obtain ⟨c45,h⟩:=ck_some.1 h
                 refine adops_cut 6 (fun K' hK43=>?_)
                 try dsimp only [List.drop_succ_cons,List.drop_zero,List.take_succ_cons,List.take_zero]
                 simp only [go_sem,hb6,hb7,hb18,hb25,hb39]
                 repeat with_reducible refine zN ?_
                 refine hK43 _ ?_
                 as_aux_lemma =>
                  refine adops_cut 2 (fun K' hK46=>?_)
                  try dsimp only [List.drop_succ_cons,List.drop_zero,List.take_succ_cons,List.take_zero]
                  simp only [go_sem,hb6,hb7,hb18,hb25,hb39]
                  repeat with_reducible refine zN ?_
                  refine hK46 _ ?_
                  refine adops_nil ?_
                  refine athen_n ?_
                  refine zV [(4,.bool (decide ((l.getD st1.toNat (0,0)).2<(m.getD st1.toNat (0,0)).2)))] [] gt ?_
                  as_aux_lemma =>
                   refine AW.ret ?_
                   refine ablock_r ?_
                   refine athen_r ?_
                   obtain rfl:=Option.some.inj h
                   rw [← hd3 _ rfl] at ho2
                   have h:=ho2
                   try simp only at h
                   refine athen_r ?_
                   refine ablock_r ?_
                   refine athen_r ?_
                   obtain rfl:=Option.some.inj h
                   exact zR [] [] []
              ·simp only [hb39]
               as_aux_lemma =>
                refine adops_cut 4 (fun K' hK47=>?_)
                try dsimp only [List.drop_succ_cons,List.drop_zero,List.take_succ_cons,List.take_zero]
                simp only [go_sem,hb6,hb7,hb18,hb25,hb39]
                repeat with_reducible refine zN ?_
                refine hK47 _ ?_
                as_aux_lemma =>
                 refine adops_cut 4 (fun K' hK48=>?_)
                 try dsimp only [List.drop_succ_cons,List.drop_zero,List.take_succ_cons,List.take_zero]
                 simp only [go_sem,hb6,hb7,hb18,hb25,hb39]
                 repeat with_reducible refine zN ?_
                 refine hK48 _ ?_
                 as_aux_lemma =>
                  refine adops_cut 6 (fun K' hK49=>?_)
                  try dsimp only [List.drop_succ_cons,List.drop_zero,List.take_succ_cons,List.take_zero]
                  simp only [go_sem,hb6,hb7,hb18,hb25,hb39]
                  repeat with_reducible refine zN ?_
                  refine hK49 _ ?_
                  refine adops_nil ?_
                  refine athen_n ?_
                  refine zV [(4,.bool false)] [] gt ?_
                  as_aux_lemma =>
                   refine AW.ret ?_
                   refine ablock_r ?_
                   refine athen_r ?_
                   obtain rfl:=Option.some.inj h
                   rw [← hd3 _ rfl] at ho2
                   have h:=ho2
                   try simp only at h
                   refine athen_r ?_
                   refine ablock_r ?_
                   refine athen_r ?_
                   obtain rfl:=Option.some.inj h
                   exact zR [] [] []
      ·refine zm ?_
       refine athen_n ?_
       refine AW.ops ?_
       obtain ⟨c50,h⟩:=ck_some.1 h
       refine zA [(0,.sl (.pair (.int .i64) (.int .i64)) l),(1,.sl (.pair (.int .i64) (.int .i64)) m),(5,.int .i64 (st1+1))] [] ?_
       obtain rfl:=Option.some.inj h
       exact ⟨_,rfl,zL [] [] []⟩
    ·refine AW.exit ?_
     refine athen_e ?_
     obtain rfl:=Option.some.inj h
     try rw [← hd3 _ rfl] at ho2
     have h:=ho2
     try simp only at h
     refine athen_e ?_
     refine ablock_s ?_
     refine athen_n ?_
     exact AW.weaken (zL [] [] []) (hk_linealref09_earlier_k1 () h)
   ·refine zS 4 [(0,.sl (.pair (.int .i64) (.int .i64)) l),(1,.sl (.pair (.int .i64) (.int .i64)) m),(5,.int .i64 st1),(10,.bool false),(14,.cv (undef))] [] ?_
    refine zB [(0,.sl (.pair (.int .i64) (.int .i64)) l),(1,.sl (.pair (.int .i64) (.int .i64)) m),(5,.int .i64 st1),(15,.bool false)] [] ?_
    refine AW.cond (b:=false) rfl (fun hb51=>by cases hb51) (fun _=>?_)
    refine AW.exit ?_
    refine athen_e ?_
    obtain rfl:=Option.some.inj h
    try rw [← hd3 _ rfl] at ho2
    have h:=ho2
    try simp only at h
    refine athen_e ?_
    refine ablock_s ?_
    refine athen_n ?_
    exact AW.weaken (zL [] [] []) (hk_linealref09_earlier_k1 () h)
theorem hc_linealref09_cheapest (x0:List (List (Int×Bool))) (costs:List (List Int)) {r:(List (Int×Int))} (h:linealref09_cheapest x0 costs=some r):HC Try.prog 93 [] [.sl (.sl (.pair (.int .i64) .bool)) x0,.sl (.sl (.int .i64)) costs] [] (.sl (.pair (.int .i64) (.int .i64)) r):=by
 unfold linealref09_cheapest at h
 refine zH Try.func93 [.tmp 4] 68 ?_
 refine zo ?_
 refine zB [(0,.sl (.sl (.pair (.int .i64) .bool)) x0),(1,.sl (.sl (.int .i64)) costs)] [] ?_
 refine zo ?_
 refine zS 1 [(0,.sl (.sl (.pair (.int .i64) .bool)) x0),(1,.sl (.sl (.int .i64)) costs),(14,.sl (.sl (.pair (.int .i64) .bool)) x0)] [] ?_
 obtain ⟨v0,hv1,h⟩:=Option.bind_eq_some_iff.1 h
 refine zC [] [] (hc_linealref09_AllFences x0 hv1) [(0,.sl (.sl (.pair (.int .i64) .bool)) x0),(1,.sl (.sl (.int .i64)) costs),(15,.own 25000)] [(25000,.arr 110 (.pair (.int .i64) (.int .i64)) v0)] ?_
 refine zB [(0,.sl (.sl (.pair (.int .i64) .bool)) x0),(1,.sl (.sl (.int .i64)) costs),(5,.own 25000)] [(25000,.arr 110 (.pair (.int .i64) (.int .i64)) v0)] ?_
 refine zo ?_
 refine zS 1 [(1,.sl (.sl (.int .i64)) costs),(5,.own 25000),(16,.sl (.sl (.pair (.int .i64) .bool)) x0)] [(25000,.arr 110 (.pair (.int .i64) (.int .i64)) v0)] ?_
 obtain ⟨v0_2,hv2,h⟩:=Option.bind_eq_some_iff.1 h
 refine zC [] [] (hc_linealref09_needed x0 hv2) [(1,.sl (.sl (.int .i64)) costs),(5,.own 25000),(17,.own 27000)] [(25000,.arr 110 (.pair (.int .i64) (.int .i64)) v0),(27000,.arr 35 Y0 v0_2)] ?_
 refine zB [(1,.sl (.sl (.int .i64)) costs),(5,.own 25000),(6,.own 27000)] [(25000,.arr 110 (.pair (.int .i64) (.int .i64)) v0),(27000,.arr 35 Y0 v0_2)] ?_
 refine zo ?_
 refine zB [(1,.sl (.sl (.int .i64)) costs),(5,.own 25000),(6,.own 27000),(7,.own 25000)] [(25000,.arr 110 (.pair (.int .i64) (.int .i64)) v0),(27000,.arr 35 Y0 v0_2)] ?_
 refine AW.have1 (fun b3_3:(List (Int×Int))=>linealref09_cheapest_k1 b3_3=some r) (fun b3_3=>⟨fr [(7,.sl (.pair (.int .i64) (.int .i64)) b3_3)],hpGet [],gt⟩) (fun b3_3 h=>?_) (fun hk_linealref09_cheapest_k1=>?_)
 ·as_aux_lemma =>
   unfold linealref09_cheapest_k1 at h
   refine zo ?_
   refine zB [(4,.sl (.pair (.int .i64) (.int .i64)) b3_3)] [] ?_
   refine AW.ret ?_
   obtain rfl:=Option.some.inj h
   exact zR [] [] []
 ·refine AW.seq ?_
  refine zo ?_
  refine zB [(1,.sl (.sl (.int .i64)) costs),(5,.own 25000),(6,.own 27000),(7,.own 25000),(21,.int .i64 (ishl .i64 1 (v0.length:Int))),(22,.int .i64 0)] [(25000,.arr 110 (.pair (.int .i64) (.int .i64)) v0),(27000,.arr 35 Y0 v0_2)] ?_
  refine AW.block ?_
  obtain ⟨rv7,hw3,ho4⟩:=Option.bind_eq_some_iff.1 h
  refine AW.loopO (linealref09_cheapest_b1 costs v0 v0_2) (fun st1=>⟨fr [(1,.sl (.sl (.int .i64)) costs),(5,.sl (.pair (.int .i64) (.int .i64)) v0),(6,.own 27000),(7,.sl (.pair (.int .i64) (.int .i64)) st1.1),(21,.int .i64 (ishl .i64 1 (v0.length:Int))),(22,.int .i64 st1.2)],hpGet [(27000,.arr 35 Y0 v0_2)],gt⟩) (v0,0) hw3 (zL [25000] [] []) ?_
  as_aux_lemma =>
   intro st1 x6 h hd5
   unfold linealref09_cheapest_b1 at h
   refine zo ?_
   refine zB [(1,.sl (.sl (.int .i64)) costs),(5,.sl (.pair (.int .i64) (.int .i64)) v0),(6,.own 27000),(7,.sl (.pair (.int .i64) (.int .i64)) st1.1),(21,.int .i64 (ishl .i64 1 (v0.length:Int))),(22,.int .i64 st1.2),(23,.bool (decide (st1.2<(ishl .i64 1 (v0.length:Int)))))] [(27000,.arr 35 Y0 v0_2)] ?_
   refine AW.seq ?_
   refine zQ h (fun hb8 h=>?_) (fun hb8 h=>?_)
   ·refine zk ?_
    refine AW.have1 (fun b3_2:(List (Int×Int))=>linealref09_cheapest_k2 st1 b3_2=some x6) (fun b3_2=>⟨fr [(1,.sl (.sl (.int .i64)) costs),(5,.sl (.pair (.int .i64) (.int .i64)) v0),(6,.own 27000),(7,.sl (.pair (.int .i64) (.int .i64)) b3_2),(21,.int .i64 (ishl .i64 1 (v0.length:Int))),(22,.int .i64 st1.2)],hpGet [(27000,.arr 35 Y0 v0_2)],gt⟩) (fun b3_2 h=>?_) (fun hk_linealref09_cheapest_k2=>?_)
    ·as_aux_lemma =>
      unfold linealref09_cheapest_k2 at h
      refine AW.ops ?_
      obtain ⟨c9,h⟩:=ck_some.1 h
      refine zA [(1,.sl (.sl (.int .i64)) costs),(5,.sl (.pair (.int .i64) (.int .i64)) v0),(6,.own 27000),(7,.sl (.pair (.int .i64) (.int .i64)) b3_2),(21,.int .i64 (ishl .i64 1 (v0.length:Int))),(22,.int .i64 (st1.2+1))] [(27000,.arr 35 Y0 v0_2)] ?_
      obtain rfl:=Option.some.inj h
      exact ⟨_,rfl,zL [] [] []⟩
    ·refine AW.seq ?_
     refine AW.block ?_
     refine zo ?_
     refine zB [(1,.sl (.sl (.int .i64)) costs),(5,.sl (.pair (.int .i64) (.int .i64)) v0),(6,.own 27000),(7,.sl (.pair (.int .i64) (.int .i64)) st1.1),(8,.int .i64 st1.2),(21,.int .i64 (ishl .i64 1 (v0.length:Int))),(22,.int .i64 st1.2)] [(27000,.arr 35 Y0 v0_2)] ?_
     refine zo ?_
     refine zB [(1,.sl (.sl (.int .i64)) costs),(5,.sl (.pair (.int .i64) (.int .i64)) v0),(6,.own 27000),(7,.sl (.pair (.int .i64) (.int .i64)) st1.1),(8,.int .i64 st1.2),(9,.cv (.slice none 0 0)),(21,.int .i64 (ishl .i64 1 (v0.length:Int))),(22,.int .i64 st1.2)] [(27000,.arr 35 Y0 v0_2)] ?_
     refine AW.have1 (fun b3:(List (Int×Int))=>linealref09_cheapest_k3 costs v0_2 st1 b3=some x6) (fun b3=>⟨fr [(1,.sl (.sl (.int .i64)) costs),(5,.sl (.pair (.int .i64) (.int .i64)) v0),(6,.own 27000),(7,.sl (.pair (.int .i64) (.int .i64)) st1.1),(9,.own 40),(21,.int .i64 (ishl .i64 1 (v0.length:Int))),(22,.int .i64 st1.2)],hpGet [(40,.arr 110 (.pair (.int .i64) (.int .i64)) b3),(27000,.arr 35 Y0 v0_2)],gt⟩) (fun b3 h=>?_) (fun hk_linealref09_cheapest_k3=>?_)
     ·as_aux_lemma =>
       unfold linealref09_cheapest_k3 at h
       refine AW.seq ?_
       refine zo ?_
       refine zS 2 [(1,.sl (.sl (.int .i64)) costs),(5,.sl (.pair (.int .i64) (.int .i64)) v0),(6,.own 27000),(7,.sl (.pair (.int .i64) (.int .i64)) st1.1),(9,.own 40),(21,.int .i64 (ishl .i64 1 (v0.length:Int))),(22,.int .i64 st1.2),(42,.own 40),(43,.own 27000)] [(40,.arr 110 (.pair (.int .i64) (.int .i64)) b3),(27000,.arr 35 Y0 v0_2)] ?_
       obtain ⟨v0_3,hv10,h⟩:=Option.bind_eq_some_iff.1 h
       refine zC [40,27000] [] (hc_linealref09_enough b3 v0_2 hv10) [(1,.sl (.sl (.int .i64)) costs),(5,.sl (.pair (.int .i64) (.int .i64)) v0),(6,.own 27000),(7,.sl (.pair (.int .i64) (.int .i64)) st1.1),(9,.own 40),(21,.int .i64 (ishl .i64 1 (v0.length:Int))),(22,.int .i64 st1.2),(44,.bool v0_3)] [(40,.arr 110 (.pair (.int .i64) (.int .i64)) b3),(27000,.arr 35 Y0 v0_2)] ?_
       refine zB [(1,.sl (.sl (.int .i64)) costs),(5,.sl (.pair (.int .i64) (.int .i64)) v0),(6,.own 27000),(7,.sl (.pair (.int .i64) (.int .i64)) st1.1),(9,.own 40),(21,.int .i64 (ishl .i64 1 (v0.length:Int))),(22,.int .i64 st1.2),(45,.bool (!v0_3))] [(40,.arr 110 (.pair (.int .i64) (.int .i64)) b3),(27000,.arr 35 Y0 v0_2)] ?_
       refine zQ h (fun hb11 h=>?_) (fun hb11 h=>?_)
       ·refine AW.exit ?_
        refine athen_e ?_
        refine ablock_s ?_
        refine athen_n ?_
        exact AW.weaken (zL [] [] []) (hk_linealref09_cheapest_k2 _ h)
       ·refine zk ?_
        refine zo ?_
        refine zS 2 [(1,.sl (.sl (.int .i64)) costs),(5,.sl (.pair (.int .i64) (.int .i64)) v0),(6,.own 27000),(7,.sl (.pair (.int .i64) (.int .i64)) st1.1),(9,.own 40),(21,.int .i64 (ishl .i64 1 (v0.length:Int))),(22,.int .i64 st1.2),(46,.sl (.sl (.int .i64)) costs),(47,.own 40)] [(40,.arr 110 (.pair (.int .i64) (.int .i64)) b3),(27000,.arr 35 Y0 v0_2)] ?_
        obtain ⟨v0_4,hv12,h⟩:=Option.bind_eq_some_iff.1 h
        refine zC [40] [] (hc_linealref09_cost costs b3 hv12) [(1,.sl (.sl (.int .i64)) costs),(5,.sl (.pair (.int .i64) (.int .i64)) v0),(6,.own 27000),(7,.sl (.pair (.int .i64) (.int .i64)) st1.1),(9,.own 40),(21,.int .i64 (ishl .i64 1 (v0.length:Int))),(22,.int .i64 st1.2),(48,.int .i64 v0_4)] [(40,.arr 110 (.pair (.int .i64) (.int .i64)) b3),(27000,.arr 35 Y0 v0_2)] ?_
        refine zS 2 [(1,.sl (.sl (.int .i64)) costs),(5,.sl (.pair (.int .i64) (.int .i64)) v0),(6,.own 27000),(7,.sl (.pair (.int .i64) (.int .i64)) st1.1),(9,.own 40),(21,.int .i64 (ishl .i64 1 (v0.length:Int))),(22,.int .i64 st1.2),(48,.int .i64 v0_4),(49,.sl (.sl (.int .i64)) costs),(50,.sl (.pair (.int .i64) (.int .i64)) st1.1)] [(40,.arr 110 (.pair (.int .i64) (.int .i64)) b3),(27000,.arr 35 Y0 v0_2)] ?_
        obtain ⟨v0_5,hv13,h⟩:=Option.bind_eq_some_iff.1 h
        refine zC [] [] (hc_linealref09_cost costs st1.1 hv13) [(1,.sl (.sl (.int .i64)) costs),(5,.sl (.pair (.int .i64) (.int .i64)) v0),(6,.own 27000),(7,.sl (.pair (.int .i64) (.int .i64)) st1.1),(9,.own 40),(21,.int .i64 (ishl .i64 1 (v0.length:Int))),(22,.int .i64 st1.2),(48,.int .i64 v0_4),(51,.int .i64 v0_5)] [(40,.arr 110 (.pair (.int .i64) (.int .i64)) b3),(27000,.arr 35 Y0 v0_2)] ?_
        refine zB [(1,.sl (.sl (.int .i64)) costs),(5,.sl (.pair (.int .i64) (.int .i64)) v0),(6,.own 27000),(7,.sl (.pair (.int .i64) (.int .i64)) st1.1),(9,.own 40),(12,.int .i64 v0_4),(13,.int .i64 v0_5),(21,.int .i64 (ishl .i64 1 (v0.length:Int))),(22,.int .i64 st1.2)] [(40,.arr 110 (.pair (.int .i64) (.int .i64)) b3),(27000,.arr 35 Y0 v0_2)] ?_
        refine zo ?_
        refine zS 4 [(1,.sl (.sl (.int .i64)) costs),(5,.sl (.pair (.int .i64) (.int .i64)) v0),(6,.own 27000),(7,.sl (.pair (.int .i64) (.int .i64)) st1.1),(9,.own 40),(12,.int .i64 v0_4),(13,.int .i64 v0_5),(21,.int .i64 (ishl .i64 1 (v0.length:Int))),(22,.int .i64 st1.2),(55,.bool (decide (v0_4<v0_5)))] [(40,.arr 110 (.pair (.int .i64) (.int .i64)) b3),(27000,.arr 35 Y0 v0_2)] ?_
        rcases zI h with ⟨hb14,h⟩|⟨hb14,h⟩
        ·refine zS 4 [(1,.sl (.sl (.int .i64)) costs),(5,.sl (.pair (.int .i64) (.int .i64)) v0),(6,.own 27000),(7,.sl (.pair (.int .i64) (.int .i64)) st1.1),(9,.own 40),(21,.int .i64 (ishl .i64 1 (v0.length:Int))),(22,.int .i64 st1.2),(55,.bool true),(59,.cv (undef))] [(40,.arr 110 (.pair (.int .i64) (.int .i64)) b3),(27000,.arr 35 Y0 v0_2)] ?_
         refine zS 4 [(1,.sl (.sl (.int .i64)) costs),(5,.sl (.pair (.int .i64) (.int .i64)) v0),(6,.own 27000),(7,.sl (.pair (.int .i64) (.int .i64)) st1.1),(9,.own 40),(21,.int .i64 (ishl .i64 1 (v0.length:Int))),(22,.int .i64 st1.2),(55,.bool true),(63,.cv (undef))] [(40,.arr 110 (.pair (.int .i64) (.int .i64)) b3),(27000,.arr 35 Y0 v0_2)] ?_
         refine zB [(1,.sl (.sl (.int .i64)) costs),(5,.sl (.pair (.int .i64) (.int .i64)) v0),(6,.own 27000),(7,.sl (.pair (.int .i64) (.int .i64)) st1.1),(9,.own 40),(21,.int .i64 (ishl .i64 1 (v0.length:Int))),(22,.int .i64 st1.2),(64,.bool true)] [(40,.arr 110 (.pair (.int .i64) (.int .i64)) b3),(27000,.arr 35 Y0 v0_2)] ?_
         refine AW.cond (b:=true) rfl (fun _=>?_) (fun hb15=>by cases hb15)
         refine AW.ops ?_
         refine zA [(1,.sl (.sl (.int .i64)) costs),(5,.sl (.pair (.int .i64) (.int .i64)) v0),(6,.own 27000),(7,.own 40),(21,.int .i64 (ishl .i64 1 (v0.length:Int))),(22,.int .i64 st1.2)] [(40,.arr 110 (.pair (.int .i64) (.int .i64)) b3),(27000,.arr 35 Y0 v0_2)] ?_
         refine ablock_n ?_
         refine athen_n ?_
         exact AW.weaken (zL [40] [] []) (hk_linealref09_cheapest_k2 _ h)
        ·refine zS 4 [(1,.sl (.sl (.int .i64)) costs),(5,.sl (.pair (.int .i64) (.int .i64)) v0),(6,.own 27000),(7,.sl (.pair (.int .i64) (.int .i64)) st1.1),(9,.own 40),(21,.int .i64 (ishl .i64 1 (v0.length:Int))),(22,.int .i64 st1.2),(55,.bool false),(59,.bool (decide (v0_4=v0_5)))] [(40,.arr 110 (.pair (.int .i64) (.int .i64)) b3),(27000,.arr 35 Y0 v0_2)] ?_
         rcases zI h with ⟨hb16,h⟩|⟨hb16,h⟩
         ·refine zS 2 [(1,.sl (.sl (.int .i64)) costs),(5,.sl (.pair (.int .i64) (.int .i64)) v0),(6,.own 27000),(7,.sl (.pair (.int .i64) (.int .i64)) st1.1),(9,.own 40),(21,.int .i64 (ishl .i64 1 (v0.length:Int))),(22,.int .i64 st1.2),(55,.bool false),(59,.bool true),(60,.own 40),(61,.sl (.pair (.int .i64) (.int .i64)) st1.1)] [(40,.arr 110 (.pair (.int .i64) (.int .i64)) b3),(27000,.arr 35 Y0 v0_2)] ?_
          obtain ⟨v0_6,hv17,h⟩:=Option.bind_eq_some_iff.1 h
          refine zG [40] [] (hc_linealref09_earlier b3 st1.1 hv17) [(1,.sl (.sl (.int .i64)) costs),(5,.sl (.pair (.int .i64) (.int .i64)) v0),(6,.own 27000),(7,.sl (.pair (.int .i64) (.int .i64)) st1.1),(9,.own 40),(21,.int .i64 (ishl .i64 1 (v0.length:Int))),(22,.int .i64 st1.2),(55,.bool false),(59,.bool true),(62,.bool v0_6)] [(40,.arr 110 (.pair (.int .i64) (.int .i64)) b3),(27000,.arr 35 Y0 v0_2)] ?_
          refine zB [(1,.sl (.sl (.int .i64)) costs),(5,.sl (.pair (.int .i64) (.int .i64)) v0),(6,.own 27000),(7,.sl (.pair (.int .i64) (.int .i64)) st1.1),(9,.own 40),(21,.int .i64 (ishl .i64 1 (v0.length:Int))),(22,.int .i64 st1.2),(64,.bool v0_6)] [(40,.arr 110 (.pair (.int .i64) (.int .i64)) b3),(27000,.arr 35 Y0 v0_2)] ?_
          refine zQ h (fun hb18 h=>?_) (fun hb18 h=>?_)
          ·refine AW.ops ?_
           refine zA [(1,.sl (.sl (.int .i64)) costs),(5,.sl (.pair (.int .i64) (.int .i64)) v0),(6,.own 27000),(7,.own 40),(21,.int .i64 (ishl .i64 1 (v0.length:Int))),(22,.int .i64 st1.2)] [(40,.arr 110 (.pair (.int .i64) (.int .i64)) b3),(27000,.arr 35 Y0 v0_2)] ?_
           refine ablock_n ?_
           refine athen_n ?_
           exact AW.weaken (zL [40] [] []) (hk_linealref09_cheapest_k2 _ h)
          ·refine zm ?_
           refine athen_n ?_
           exact AW.weaken (zL [] [] []) (hk_linealref09_cheapest_k2 _ h)
         ·refine zB [(1,.sl (.sl (.int .i64)) costs),(5,.sl (.pair (.int .i64) (.int .i64)) v0),(6,.own 27000),(7,.sl (.pair (.int .i64) (.int .i64)) st1.1),(9,.own 40),(21,.int .i64 (ishl .i64 1 (v0.length:Int))),(22,.int .i64 st1.2),(64,.bool false)] [(40,.arr 110 (.pair (.int .i64) (.int .i64)) b3),(27000,.arr 35 Y0 v0_2)] ?_
          refine AW.cond (b:=false) rfl (fun hb19=>by cases hb19) (fun _=>?_)
          refine zm ?_
          refine athen_n ?_
          exact AW.weaken (zL [] [] []) (hk_linealref09_cheapest_k2 _ h)
     ·refine AW.seq ?_
      refine zo ?_
      refine zB [(1,.sl (.sl (.int .i64)) costs),(5,.sl (.pair (.int .i64) (.int .i64)) v0),(6,.own 27000),(7,.sl (.pair (.int .i64) (.int .i64)) st1.1),(8,.int .i64 st1.2),(9,.cv (.slice none 0 0)),(21,.int .i64 (ishl .i64 1 (v0.length:Int))),(22,.int .i64 st1.2),(25,.sl (.pair (.int .i64) (.int .i64)) v0),(26,.int .i64 (v0.length:Int)),(27,.int .i64 0)] [(27000,.arr 35 Y0 v0_2)] ?_
      refine AW.block ?_
      obtain ⟨rv24,hw20,ho21⟩:=Option.bind_eq_some_iff.1 h
      refine AW.loopO (linealref09_cheapest_b2 v0 st1) (fun st2=>⟨fr [(1,.sl (.sl (.int .i64)) costs),(5,.sl (.pair (.int .i64) (.int .i64)) v0),(6,.own 27000),(7,.sl (.pair (.int .i64) (.int .i64)) st1.1),(8,.int .i64 st1.2),(9,.own 40),(21,.int .i64 (ishl .i64 1 (v0.length:Int))),(22,.int .i64 st1.2),(25,.sl (.pair (.int .i64) (.int .i64)) v0),(26,.int .i64 (v0.length:Int)),(27,.int .i64 st2.2)],hpGet [(40,.arr 110 (.pair (.int .i64) (.int .i64)) st2.1),(27000,.arr 35 Y0 v0_2)],gt⟩) ([],0) hw20 (zL [] [40] []) ?_
      as_aux_lemma =>
       intro st2 x23 h hd22
       unfold linealref09_cheapest_b2 at h
       refine zo ?_
       refine zB [(1,.sl (.sl (.int .i64)) costs),(5,.sl (.pair (.int .i64) (.int .i64)) v0),(6,.own 27000),(7,.sl (.pair (.int .i64) (.int .i64)) st1.1),(8,.int .i64 st1.2),(9,.own 40),(21,.int .i64 (ishl .i64 1 (v0.length:Int))),(22,.int .i64 st1.2),(25,.sl (.pair (.int .i64) (.int .i64)) v0),(26,.int .i64 (v0.length:Int)),(27,.int .i64 st2.2),(28,.bool (decide (st2.2<(v0.length:Int))))] [(40,.arr 110 (.pair (.int .i64) (.int .i64)) st2.1),(27000,.arr 35 Y0 v0_2)] ?_
       refine AW.seq ?_
       refine zQ h (fun hb25 h=>?_) (fun hb25 h=>?_)
       ·refine zk ?_
        refine AW.seq ?_
        refine AW.block ?_
        refine zo ?_
        obtain ⟨c26,h⟩:=ck_some.1 h
        obtain ⟨c27,h⟩:=ck_some.1 h
        refine zS 5 [(1,.sl (.sl (.int .i64)) costs),(5,.sl (.pair (.int .i64) (.int .i64)) v0),(6,.own 27000),(7,.sl (.pair (.int .i64) (.int .i64)) st1.1),(8,.int .i64 st1.2),(9,.own 40),(10,.int .i64 st2.2),(11,.bp 11 0),(21,.int .i64 (ishl .i64 1 (v0.length:Int))),(22,.int .i64 st1.2),(25,.sl (.pair (.int .i64) (.int .i64)) v0),(26,.int .i64 (v0.length:Int)),(27,.int .i64 st2.2),(31,.agg [.int .i64 (v0.getD st2.2.toNat (0,0)).1,.int .i64 (v0.getD st2.2.toNat (0,0)).2])] [(11,.box 110 [.int .i64 0,.int .i64 0]),(40,.arr 110 (.pair (.int .i64) (.int .i64)) st2.1),(27000,.arr 35 Y0 v0_2)] ?_
        refine zB [(1,.sl (.sl (.int .i64)) costs),(5,.sl (.pair (.int .i64) (.int .i64)) v0),(6,.own 27000),(7,.sl (.pair (.int .i64) (.int .i64)) st1.1),(8,.int .i64 st1.2),(9,.own 40),(10,.int .i64 st2.2),(11,.bp 11 0),(21,.int .i64 (ishl .i64 1 (v0.length:Int))),(22,.int .i64 st1.2),(25,.sl (.pair (.int .i64) (.int .i64)) v0),(26,.int .i64 (v0.length:Int)),(27,.int .i64 st2.2)] [(11,.box 110 [.int .i64 (v0.getD st2.2.toNat (0,0)).1,.int .i64 (v0.getD st2.2.toNat (0,0)).2]),(40,.arr 110 (.pair (.int .i64) (.int .i64)) st2.1),(27000,.arr 35 Y0 v0_2)] ?_
        refine zo ?_
        obtain ⟨c28,h⟩:=ck_some.1 h
        refine zB [(1,.sl (.sl (.int .i64)) costs),(5,.sl (.pair (.int .i64) (.int .i64)) v0),(6,.own 27000),(7,.sl (.pair (.int .i64) (.int .i64)) st1.1),(8,.int .i64 st1.2),(9,.own 40),(11,.bp 11 0),(21,.int .i64 (ishl .i64 1 (v0.length:Int))),(22,.int .i64 st1.2),(25,.sl (.pair (.int .i64) (.int .i64)) v0),(26,.int .i64 (v0.length:Int)),(27,.int .i64 st2.2),(36,.bool (decide ((iand .i64 (ishr .i64 st1.2 st2.2) 1)=1)))] [(11,.box 110 [.int .i64 (v0.getD st2.2.toNat (0,0)).1,.int .i64 (v0.getD st2.2.toNat (0,0)).2]),(40,.arr 110 (.pair (.int .i64) (.int .i64)) st2.1),(27000,.arr 35 Y0 v0_2)] ?_
        refine zQ h (fun hb29 h=>?_) (fun hb29 h=>?_)
        ·refine AW.ops ?_
         obtain ⟨c30,h⟩:=ck_some.1 h
         refine zA [(1,.sl (.sl (.int .i64)) costs),(5,.sl (.pair (.int .i64) (.int .i64)) v0),(6,.own 27000),(7,.sl (.pair (.int .i64) (.int .i64)) st1.1),(8,.int .i64 st1.2),(9,.own 40),(21,.int .i64 (ishl .i64 1 (v0.length:Int))),(22,.int .i64 st1.2),(25,.sl (.pair (.int .i64) (.int .i64)) v0),(26,.int .i64 (v0.length:Int)),(27,.int .i64 st2.2)] [(40,.arr 110 (.pair (.int .i64) (.int .i64)) (st2.1++[(v0.getD st2.2.toNat (0,0))])),(27000,.arr 35 Y0 v0_2)] ?_
         refine ablock_n ?_
         refine athen_n ?_
         refine AW.ops ?_
         obtain ⟨c31,h⟩:=ck_some.1 h
         refine zA [(1,.sl (.sl (.int .i64)) costs),(5,.sl (.pair (.int .i64) (.int .i64)) v0),(6,.own 27000),(7,.sl (.pair (.int .i64) (.int .i64)) st1.1),(8,.int .i64 st1.2),(9,.own 40),(21,.int .i64 (ishl .i64 1 (v0.length:Int))),(22,.int .i64 st1.2),(25,.sl (.pair (.int .i64) (.int .i64)) v0),(26,.int .i64 (v0.length:Int)),(27,.int .i64 (st2.2+1))] [(40,.arr 110 (.pair (.int .i64) (.int .i64)) (st2.1++[(v0.getD st2.2.toNat (0,0))])),(27000,.arr 35 Y0 v0_2)] ?_
         obtain rfl:=Option.some.inj h
         exact ⟨_,rfl,zL [] [] []⟩
        ·refine zm ?_
         refine athen_n ?_
         refine AW.ops ?_
         obtain ⟨c32,h⟩:=ck_some.1 h
         refine zA [(1,.sl (.sl (.int .i64)) costs),(5,.sl (.pair (.int .i64) (.int .i64)) v0),(6,.own 27000),(7,.sl (.pair (.int .i64) (.int .i64)) st1.1),(8,.int .i64 st1.2),(9,.own 40),(21,.int .i64 (ishl .i64 1 (v0.length:Int))),(22,.int .i64 st1.2),(25,.sl (.pair (.int .i64) (.int .i64)) v0),(26,.int .i64 (v0.length:Int)),(27,.int .i64 (st2.2+1))] [(40,.arr 110 (.pair (.int .i64) (.int .i64)) st2.1),(27000,.arr 35 Y0 v0_2)] ?_
         obtain rfl:=Option.some.inj h
         exact ⟨_,rfl,zL [] [] []⟩
       ·refine AW.exit ?_
        refine athen_e ?_
        obtain rfl:=Option.some.inj h
        rw [← hd22 _ rfl] at ho21
        have h:=ho21
        refine athen_e ?_
        refine ablock_s ?_
        refine athen_n ?_
        exact AW.weaken (zL [] [] []) (hk_linealref09_cheapest_k3 _ h)
   ·refine AW.exit ?_
    refine athen_e ?_
    obtain rfl:=Option.some.inj h
    rw [← hd5 _ rfl] at ho4
    have h:=ho4
    refine athen_e ?_
    refine ablock_s ?_
    refine athen_n ?_
    exact AW.weaken (zL [] [] []) (hk_linealref09_cheapest_k1 _ h)
theorem hc_linealref09_Cheapest (x0:List (List (Int×Bool))) (costs:List (List Int)) {r:(List (Int×Int))×Int} (h:linealref09_Cheapest x0 costs=some r):HC Try.prog 41 [] [.sl (.sl (.pair (.int .i64) .bool)) x0,.sl (.sl (.int .i64)) costs] [] (.tup [.sl (.pair (.int .i64) (.int .i64)) r.1,.int .i64 r.2]):=by
 unfold linealref09_Cheapest at h
 refine zH Try.func41 [.tmp 4,.tmp 5] 16 ?_
 refine zo ?_
 refine zB [(0,.sl (.sl (.pair (.int .i64) .bool)) x0),(1,.sl (.sl (.int .i64)) costs)] [] ?_
 refine AW.seq ?_
 refine zo ?_
 refine zS 2 [(0,.sl (.sl (.pair (.int .i64) .bool)) x0),(1,.sl (.sl (.int .i64)) costs),(7,.sl (.sl (.pair (.int .i64) .bool)) x0),(8,.sl (.sl (.int .i64)) costs)] [] ?_
 obtain ⟨v0,hv1,h⟩:=Option.bind_eq_some_iff.1 h
 refine zC [] [] (hc_linealref09_priced x0 costs hv1) [(0,.sl (.sl (.pair (.int .i64) .bool)) x0),(1,.sl (.sl (.int .i64)) costs),(9,.int .i64 v0)] [] ?_
 refine zB [(0,.sl (.sl (.pair (.int .i64) .bool)) x0),(1,.sl (.sl (.int .i64)) costs),(6,.int .i64 v0)] [] ?_
 refine zo ?_
 refine zB [(0,.sl (.sl (.pair (.int .i64) .bool)) x0),(1,.sl (.sl (.int .i64)) costs),(6,.int .i64 v0),(11,.bool (!(decide (v0=0))))] [] ?_
 refine zQ h (fun hb2 h=>?_) (fun hb2 h=>?_)
 ·refine zo ?_
  refine zB [(4,.cv (.slice none 0 0)),(5,.int .i64 v0)] [] ?_
  refine zr ?_
  obtain rfl:=Option.some.inj h
  exact zR [] [] []
 ·refine zk ?_
  refine zo ?_
  refine zS 2 [(13,.sl (.sl (.pair (.int .i64) .bool)) x0),(14,.sl (.sl (.int .i64)) costs)] [] ?_
  obtain ⟨v0_2,hv3,h⟩:=Option.bind_eq_some_iff.1 h
  refine zC [] [] (hc_linealref09_cheapest x0 costs hv3) [(15,.sl (.pair (.int .i64) (.int .i64)) v0_2)] [] ?_
  refine zB [(4,.sl (.pair (.int .i64) (.int .i64)) v0_2),(5,.int .i64 0)] [] ?_
  refine AW.ret ?_
  obtain rfl:=Option.some.inj h
  exact zR [] [] []
theorem hc_delay_Least (x0:List (List (Int×Bool))) (costs:List (List Int)) {r:Int×Int} (h:delay_Least x0 costs=some r):HC Try.prog 42 [] [.sl (.sl (.pair (.int .i64) .bool)) x0,.sl (.sl (.int .i64)) costs] [] (.tup [.int .i64 r.1,.int .i64 r.2]):=by
 unfold delay_Least at h
 refine zH Try.func42 [.tmp 4,.tmp 5] 21 ?_
 refine zo ?_
 refine zB [(0,.sl (.sl (.pair (.int .i64) .bool)) x0),(1,.sl (.sl (.int .i64)) costs)] [] ?_
 refine zo ?_
 refine zS 2 [(9,.sl (.sl (.pair (.int .i64) .bool)) x0),(10,.sl (.sl (.int .i64)) costs)] [] ?_
 obtain ⟨v0,hv1,h⟩:=Option.bind_eq_some_iff.1 h
 refine zC [] [] (hc_delay_offerOf x0 costs hv1) [(11,.tup [.agg [.sl (.sl (.pair (.int .i64) .bool)) v0.1,.own 21000,.sl (.sl (.int .i64)) v0.2.2.1],.int .i64 v0.2.2.2])] [(21000,.arr 35 Y0 v0.2.1)] ?_
 refine AO.weaken (s':=⟨fr [(11,.tup [.agg [.sl (.sl (.pair (.int .i64) .bool)) v0.1,.sl Y0 v0.2.1,.sl (.sl (.int .i64)) v0.2.2.1],.int .i64 v0.2.2.2])],hpGet [],gt⟩) (zL [21000] [] []) ?_
 refine zS 5 [(6,.bp 6 0),(13,.int .i64 v0.2.2.2)] [(6,.box 103 [.sl (.sl (.pair (.int .i64) .bool)) v0.1,.sl Y0 v0.2.1,.sl (.sl (.int .i64)) v0.2.2.1])] ?_
 refine zB [(6,.bp 6 0),(7,.int .i64 v0.2.2.2)] [(6,.box 103 [.sl (.sl (.pair (.int .i64) .bool)) v0.1,.sl Y0 v0.2.1,.sl (.sl (.int .i64)) v0.2.2.1])] ?_
 refine AW.seq ?_
 refine zo ?_
 refine zB [(6,.bp 6 0),(7,.int .i64 v0.2.2.2),(15,.bool (!(decide (v0.2.2.2=0))))] [(6,.box 103 [.sl (.sl (.pair (.int .i64) .bool)) v0.1,.sl Y0 v0.2.1,.sl (.sl (.int .i64)) v0.2.2.1])] ?_
 refine zQ h (fun hb2 h=>?_) (fun hb2 h=>?_)
 ·refine zo ?_
  refine zB [(4,.int .i64 0),(5,.int .i64 v0.2.2.2)] [] ?_
  refine zr ?_
  obtain rfl:=Option.some.inj h
  exact zR [] [] []
 ·refine zk ?_
  refine AW.seq ?_
  refine AW.draw tab_ok mixed_ok [] [] (by decide) (by kernel_rfl) ?_
  as_aux_lemma =>
   refine adops_cut 2 (fun K' hK3=>?_)
   try dsimp only [List.drop_succ_cons,List.drop_zero,List.take_succ_cons,List.take_zero]
   simp only [go_sem,hb2]
   repeat with_reducible refine zN ?_
   refine hK3 _ ?_
   as_aux_lemma =>
    obtain ⟨v0_2,hv4,h⟩:=Option.bind_eq_some_iff.1 h
    refine adops.call (by first|trivial|rfl) rfl rfl rfl (fun _ h=>h) [] [] (hc_delay_offer_cheapest (v0.1,v0.2.1,v0.2.2.1) hv4) rfl (by (simp only [go_sem,hb2])<;>(with_reducible and_intros)<;>first|assumption|rfl|omega|(unfold maxLen; omega)) (by (simp only [go_sem,hb2])<;>(with_reducible and_intros)<;>first|assumption|rfl|omega|(unfold maxLen; omega)) rfl ?_
    obtain ⟨v0_3,hv5,h⟩:=Option.bind_eq_some_iff.1 h
    refine adops.call (by first|trivial|rfl) rfl rfl rfl (fun _ h=>h) [] [] (hc_delay_offer_cost (v0.1,v0.2.1,v0.2.2.1) v0_2 hv5) rfl (by (simp only [go_sem,hb2])<;>(with_reducible and_intros)<;>first|assumption|rfl|omega|(unfold maxLen; omega)) (by (simp only [go_sem,hb2])<;>(with_reducible and_intros)<;>first|assumption|rfl|omega|(unfold maxLen; omega)) rfl ?_
    refine adops_cut 2 (fun K' hK6=>?_)
    try dsimp only [List.drop_succ_cons,List.drop_zero,List.take_succ_cons,List.take_zero]
    simp only [go_sem,hb2]
    repeat with_reducible refine zN ?_
    refine hK6 _ ?_
    refine adops_nil ?_
    refine athen_n ?_
    refine zV [(4,.int .i64 v0_3),(5,.int .i64 0)] [] gt ?_
    as_aux_lemma =>
     refine AW.ret ?_
     obtain rfl:=Option.some.inj h
     exact zR [] [] []
theorem hc_linealref09_Least (x0:List (List (Int×Bool))) (costs:List (List Int)) {r:Int×Int} (h:linealref09_Least x0 costs=some r):HC Try.prog 43 [] [.sl (.sl (.pair (.int .i64) .bool)) x0,.sl (.sl (.int .i64)) costs] [] (.tup [.int .i64 r.1,.int .i64 r.2]):=by
 unfold linealref09_Least at h
 refine zH Try.func43 [.tmp 4,.tmp 5] 18 ?_
 refine zo ?_
 refine zB [(0,.sl (.sl (.pair (.int .i64) .bool)) x0),(1,.sl (.sl (.int .i64)) costs)] [] ?_
 refine AW.seq ?_
 refine zo ?_
 refine zS 2 [(0,.sl (.sl (.pair (.int .i64) .bool)) x0),(1,.sl (.sl (.int .i64)) costs),(7,.sl (.sl (.pair (.int .i64) .bool)) x0),(8,.sl (.sl (.int .i64)) costs)] [] ?_
 obtain ⟨v0,hv1,h⟩:=Option.bind_eq_some_iff.1 h
 refine zC [] [] (hc_linealref09_priced x0 costs hv1) [(0,.sl (.sl (.pair (.int .i64) .bool)) x0),(1,.sl (.sl (.int .i64)) costs),(9,.int .i64 v0)] [] ?_
 refine zB [(0,.sl (.sl (.pair (.int .i64) .bool)) x0),(1,.sl (.sl (.int .i64)) costs),(6,.int .i64 v0)] [] ?_
 refine zo ?_
 refine zB [(0,.sl (.sl (.pair (.int .i64) .bool)) x0),(1,.sl (.sl (.int .i64)) costs),(6,.int .i64 v0),(11,.bool (!(decide (v0=0))))] [] ?_
 refine zQ h (fun hb2 h=>?_) (fun hb2 h=>?_)
 ·refine zo ?_
  refine zB [(4,.int .i64 0),(5,.int .i64 v0)] [] ?_
  refine zr ?_
  obtain rfl:=Option.some.inj h
  exact zR [] [] []
 ·refine zk ?_
  refine zo ?_
  refine zS 3 [(13,.sl (.sl (.int .i64)) costs),(14,.sl (.sl (.pair (.int .i64) .bool)) x0),(15,.sl (.sl (.int .i64)) costs)] [] ?_
  obtain ⟨v0_2,hv3,h⟩:=Option.bind_eq_some_iff.1 h
  refine zC [] [] (hc_linealref09_cheapest x0 costs hv3) [(13,.sl (.sl (.int .i64)) costs),(16,.sl (.pair (.int .i64) (.int .i64)) v0_2)] [] ?_
  obtain ⟨v0_3,hv4,h⟩:=Option.bind_eq_some_iff.1 h
  refine zC [] [] (hc_linealref09_cost costs v0_2 hv4) [(17,.int .i64 v0_3)] [] ?_
  refine zB [(4,.int .i64 v0_3),(5,.int .i64 0)] [] ?_
  refine AW.ret ?_
  obtain rfl:=Option.some.inj h
  exact zR [] [] []
end Go.Proofs.Ytdicomoggfhbfaa
