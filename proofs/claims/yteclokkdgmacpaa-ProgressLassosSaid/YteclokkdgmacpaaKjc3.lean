/-
  Made by wip/tool/dc.py out of the print of the program: contracts.
-/
import Derived.Test.YteclokkdgmacpaaGrp
import Derived.Test.YteclokkdgmacpaaSh7
import Derived.Test.YteclokkdgmacpaaAvd
import Derived.Test.YteclokkdgmacpaaYa7
import Derived.Test.YteclokkdgmacpaaBl7
namespace Go.Proofs.Yteclokkdgmacpaa
open Go.RowKit
set_option linter.unusedSimpArgs false
set_option linter.unusedVariables false
set_option linter.constructorNameAsVariable false
set_option maxRecDepth 100000
set_option maxHeartbeats 2000000
theorem hc_progress_isBelow (number:Int) (end0:Int) {r:Bool} (h:progress_isBelow number end0=some r):HC Try.prog 59 [] [.int .i64 number,.int .i64 end0] [] (.bool r):=by
 unfold progress_isBelow at h
 refine zH Try.func59 [.tmp 4] 12 ?_
 refine zo ?_
 refine zB [(0,.int .i64 number),(1,.int .i64 end0)] [] ?_
 refine zo ?_
 refine zS 3 [(0,.int .i64 number),(1,.int .i64 end0),(7,.bool (decide (0≤number)))] [] ?_
 rcases zI h with ⟨hb1,h⟩ | ⟨hb1,h⟩
 ·refine zB [(4,.bool (decide (number < end0)))] [] ?_
  refine AW.ret ?_
  obtain rfl:=Option.some.inj h
  exact zR [] [] []
 ·refine zB [(4,.bool false)] [] ?_
  refine AW.ret ?_
  obtain rfl:=Option.some.inj h
  exact zR [] [] []
theorem hc_progress_isThread (thread:Int) {r:Bool} (h:progress_isThread thread=some r):HC Try.prog 60 [] [.int .i64 thread] [] (.bool r):=by
 unfold progress_isThread at h
 refine zH Try.func60 [.tmp 2] 5 ?_
 refine zo ?_
 refine zB [(0,.int .i64 thread)] [] ?_
 refine zo ?_
 refine zS 1 [(3,.int .i64 thread)] [] ?_
 obtain ⟨v0,hv1,h⟩:=Option.bind_eq_some_iff.1 h
 refine zC [] [] (hc_progress_isBelow thread 3 hv1) [(4,.bool v0)] [] ?_
 refine zB [(2,.bool v0)] [] ?_
 refine AW.ret ?_
 obtain rfl:=Option.some.inj h
 exact zR [] [] []
theorem hc_slices_Index (s:List (Int×Int×Int×Bool)) (v0:Int×Int×Int×Bool) {r:Int} (h:slices_Index s v0=some r):HC Try.prog 88 [] [.sl Y7 s,.agg [.int .i64 v0.1,.int .i64 v0.2.1,.int .i64 v0.2.2.1,.bool v0.2.2.2]] [] (.int .i64 r):=by
 unfold slices_Index at h
 refine zH Try.func88 [.tmp 4] 19 ?_
 refine zo ?_
 refine zB [(0,.sl Y7 s),(3,.bp 3 0)] [(3,.box 61 [.int .i64 v0.1,.int .i64 v0.2.1,.int .i64 v0.2.2.1,.bool v0.2.2.2])] ?_
 refine AW.have1 (fun _:Unit=>slices_Index_k1=some r) (fun _=>⟨fr [],hpGet [],gt⟩) (fun _ h=>?_) (fun hk_slices_Index_k1=>?_)
 ·as_aux_lemma =>
   unfold slices_Index_k1 at h
   refine zo ?_
   refine zB [(4,.int .i64 (-1))] [] ?_
   refine AW.ret ?_
   obtain rfl:=Option.some.inj h
   exact zR [] [] []
 ·refine AW.seq ?_
  refine zo ?_
  refine zB [(0,.sl Y7 s),(3,.bp 3 0),(7,.int .i64 (s.length:Int)),(8,.int .i64 0)] [(3,.box 61 [.int .i64 v0.1,.int .i64 v0.2.1,.int .i64 v0.2.2.1,.bool v0.2.2.2])] ?_
  refine AW.block ?_
  obtain ⟨rv5,hw1,ho2⟩:=Option.bind_eq_some_iff.1 h
  refine AW.loopO (slices_Index_b1 s v0) (fun st1=>⟨fr [(0,.sl Y7 s),(3,.bp 3 0),(7,.int .i64 (s.length:Int)),(8,.int .i64 st1)],hpGet [(3,.box 61 [.int .i64 v0.1,.int .i64 v0.2.1,.int .i64 v0.2.2.1,.bool v0.2.2.2])],gt⟩) 0 hw1 (zL [] [] []) ?_
  as_aux_lemma =>
   intro st1 x4 h hd3
   unfold slices_Index_b1 at h
   refine zo ?_
   refine zB [(0,.sl Y7 s),(3,.bp 3 0),(7,.int .i64 (s.length:Int)),(8,.int .i64 st1),(9,.bool (decide (st1 < (s.length:Int))))] [(3,.box 61 [.int .i64 v0.1,.int .i64 v0.2.1,.int .i64 v0.2.2.1,.bool v0.2.2.2])] ?_
   refine AW.seq ?_
   refine zQ h (fun hb6 h=>?_) (fun hb6 h=>?_)
   ·refine zk ?_
    refine AW.seq ?_
    refine AW.block ?_
    refine zo ?_
    refine zB [(0,.sl Y7 s),(3,.bp 3 0),(5,.int .i64 st1),(7,.int .i64 (s.length:Int)),(8,.int .i64 st1)] [(3,.box 61 [.int .i64 v0.1,.int .i64 v0.2.1,.int .i64 v0.2.2.1,.bool v0.2.2.2])] ?_
    refine AW.seq ?_
    refine AW.drawTail tab_ok mixed_ok 5 [] [] (by decide) (by kernel_rfl) (by kernel_rfl) (by decide) ?_
    dsimp only [List.take_succ_cons,List.take_zero]
    obtain ⟨c8,h⟩:=ck_some.1 h
    obtain ⟨c9,h⟩:=ck_some.1 h
    refine adops_cut 5 (fun K' hK7=>?_)
    try dsimp only [List.drop_succ_cons,List.drop_zero,List.take_succ_cons,List.take_zero]
    simp only [go_sem,hb6]
    repeat with_reducible refine zN ?_
    refine hK7 _ ?_
    refine adops_nil ?_
    refine zT [(0,.sl Y7 s),(3,.bp 3 0),(5,.int .i64 st1),(7,.int .i64 (s.length:Int)),(8,.int .i64 st1),(11,.agg [.int .i64 v0.1,.int .i64 v0.2.1,.int .i64 v0.2.2.1,.bool v0.2.2.2]),(15,.agg [.int .i64 (s.getD st1.toNat (0,0,0,false)).1,.int .i64 (s.getD st1.toNat (0,0,0,false)).2.1,.int .i64 (s.getD st1.toNat (0,0,0,false)).2.2.1,.bool (s.getD st1.toNat (0,0,0,false)).2.2.2])] [(3,.box 61 [.int .i64 v0.1,.int .i64 v0.2.1,.int .i64 v0.2.2.1,.bool v0.2.2.2])] gt ?_
    obtain ⟨c10,h⟩:=ck_some.1 h
    obtain ⟨c11,h⟩:=ck_some.1 h
    obtain ⟨c12,h⟩:=ck_some.1 h
    obtain ⟨c13,h⟩:=ck_some.1 h
    obtain ⟨c14,h⟩:=ck_some.1 h
    obtain ⟨c15,h⟩:=ck_some.1 h
    refine AO.aggEq (neg:=false) eqty_61 (by decide) rfl rfl (lx:=[.int .i64 v0.1,.int .i64 v0.2.1,.int .i64 v0.2.2.1,.bool v0.2.2.2]) (ly:=[.int .i64 (s.getD st1.toNat (0,0,0,false)).1,.int .i64 (s.getD st1.toNat (0,0,0,false)).2.1,.int .i64 (s.getD st1.toNat (0,0,0,false)).2.2.1,.bool (s.getD st1.toNat (0,0,0,false)).2.2.2]) (by first | rfl | (simp only [go_sem,hb6]) <;> (with_reducible and_intros) <;> first | assumption | rfl | omega | (unfold maxLen; omega)) (by first | rfl | (simp only [go_sem,hb6]) <;> (with_reducible and_intros) <;> first | assumption | rfl | omega | (unfold maxLen; omega)) (by first | rfl | (simp only [go_sem,hb6]) <;> (with_reducible and_intros) <;> first | assumption | rfl | omega | (unfold maxLen; omega)) (by first | rfl | (simp only [go_sem,hb6]) <;> (with_reducible and_intros) <;> first | assumption | rfl | omega | (unfold maxLen; omega)) (by first | assumption | omega | (simp only [go_sem,hb6]) <;> (with_reducible and_intros) <;> first | assumption | rfl | omega | (unfold maxLen; omega)) (by first | assumption | omega | (simp only [go_sem,hb6]) <;> (with_reducible and_intros) <;> first | assumption | rfl | omega | (unfold maxLen; omega)) ?_
    refine zT [(0,.sl Y7 s),(3,.bp 3 0),(5,.int .i64 st1),(7,.int .i64 (s.length:Int)),(8,.int .i64 st1),(16,.bool (decide (v0=(s.getD st1.toNat (0,0,0,false)))))] [(3,.box 61 [.int .i64 v0.1,.int .i64 v0.2.1,.int .i64 v0.2.2.1,.bool v0.2.2.2])] gt ?_
    refine zB [(0,.sl Y7 s),(3,.bp 3 0),(5,.int .i64 st1),(7,.int .i64 (s.length:Int)),(8,.int .i64 st1),(16,.bool (decide (v0=(s.getD st1.toNat (0,0,0,false)))))] [(3,.box 61 [.int .i64 v0.1,.int .i64 v0.2.1,.int .i64 v0.2.2.1,.bool v0.2.2.2])] ?_
    refine zQ h (fun hb16 h=>?_) (fun hb16 h=>?_)
    ·refine zo ?_
     refine zB [(4,.int .i64 st1)] [] ?_
     refine AW.ret ?_
     refine ablock_r ?_
     refine athen_r ?_
     obtain rfl:=Option.some.inj h
     rw [← hd3 _ rfl] at ho2
     have h:=ho2
     try simp only at h
     refine athen_r ?_
     refine ablock_r ?_
     refine athen_r ?_
     obtain rfl:=Option.some.inj h
     exact zR [] [] []
    ·refine zm ?_
     refine athen_n ?_
     refine AW.ops ?_
     obtain ⟨c17,h⟩:=ck_some.1 h
     refine zA [(0,.sl Y7 s),(3,.bp 3 0),(7,.int .i64 (s.length:Int)),(8,.int .i64 (st1 + 1))] [(3,.box 61 [.int .i64 v0.1,.int .i64 v0.2.1,.int .i64 v0.2.2.1,.bool v0.2.2.2])] ?_
     obtain rfl:=Option.some.inj h
     exact ⟨_,rfl,zL [] [] []⟩
   ·refine AW.exit ?_
    refine athen_e ?_
    obtain rfl:=Option.some.inj h
    rw [← hd3 _ rfl] at ho2
    have h:=ho2
    try simp only at h
    refine athen_e ?_
    refine ablock_s ?_
    refine athen_n ?_
    exact AW.weaken (zL [] [] []) (hk_slices_Index_k1 () h)
theorem hc_slices_Contains (s:List (Int×Int×Int×Bool)) (v0:Int×Int×Int×Bool) {r:Bool} (h:slices_Contains s v0=some r):HC Try.prog 61 [] [.sl Y7 s,.agg [.int .i64 v0.1,.int .i64 v0.2.1,.int .i64 v0.2.2.1,.bool v0.2.2.2]] [] (.bool r):=by
 unfold slices_Contains at h
 refine zH Try.func61 [.tmp 4] 9 ?_
 refine zo ?_
 refine zB [(0,.sl Y7 s),(3,.bp 3 0)] [(3,.box 61 [.int .i64 v0.1,.int .i64 v0.2.1,.int .i64 v0.2.2.1,.bool v0.2.2.2])] ?_
 refine zo ?_
 refine zS 2 [(5,.sl Y7 s),(6,.agg [.int .i64 v0.1,.int .i64 v0.2.1,.int .i64 v0.2.2.1,.bool v0.2.2.2])] [] ?_
 obtain ⟨v0_2,hv1,h⟩:=Option.bind_eq_some_iff.1 h
 refine zC [] [] (hc_slices_Index s v0 hv1) [(7,.int .i64 v0_2)] [] ?_
 refine zB [(4,.bool (decide (0≤v0_2)))] [] ?_
 refine AW.ret ?_
 obtain rfl:=Option.some.inj h
 exact zR [] [] []
theorem hc_progress_Valid (g:Int×(List (Int×Int×Int×Bool))) {r:Bool} (h:progress_Valid g=some r):HC Try.prog 20 [] [.agg [.int .i64 g.1,.sl Y7 g.2]] [] (.bool r):=by
 unfold progress_Valid at h
 refine zH Try.func20 [.tmp 2] 56 ?_
 refine zo ?_
 refine zB [(1,.bp 1 0)] [(1,.box 24 [.int .i64 g.1,.sl Y7 g.2])] ?_
 refine AW.seq ?_
 refine zo ?_
 refine zS 4 [(1,.bp 1 0),(8,.bool (decide (g.1 < 1)))] [(1,.box 24 [.int .i64 g.1,.sl Y7 g.2])] ?_
 rcases zI h with ⟨hb1,h⟩ | ⟨hb1,h⟩
 ·refine zS 5 [(1,.bp 1 0),(13,.bool true)] [(1,.box 24 [.int .i64 g.1,.sl Y7 g.2])] ?_
  refine zS 4 [(1,.bp 1 0),(13,.bool true),(17,.cv (undef))] [(1,.box 24 [.int .i64 g.1,.sl Y7 g.2])] ?_
  refine zB [(1,.bp 1 0),(18,.bool true)] [(1,.box 24 [.int .i64 g.1,.sl Y7 g.2])] ?_
  refine AW.cond (b:=true) rfl (fun _=>?_) (fun hb2=>by cases hb2)
  refine zo ?_
  refine zB [(2,.bool false)] [] ?_
  refine zr ?_
  obtain rfl:=Option.some.inj h
  exact zR [] [] []
 ·refine zS 5 [(1,.bp 1 0),(13,.bool (decide (8 < g.1)))] [(1,.box 24 [.int .i64 g.1,.sl Y7 g.2])] ?_
  rcases zI h with ⟨hb3,h⟩ | ⟨hb3,h⟩
  ·refine zS 4 [(1,.bp 1 0),(13,.bool true),(17,.cv (undef))] [(1,.box 24 [.int .i64 g.1,.sl Y7 g.2])] ?_
   refine zB [(1,.bp 1 0),(18,.bool true)] [(1,.box 24 [.int .i64 g.1,.sl Y7 g.2])] ?_
   refine AW.cond (b:=true) rfl (fun _=>?_) (fun hb4=>by cases hb4)
   refine zo ?_
   refine zB [(2,.bool false)] [] ?_
   refine zr ?_
   obtain rfl:=Option.some.inj h
   exact zR [] [] []
  ·refine zB [(1,.bp 1 0),(18,.bool (decide (20 < (g.2.length:Int))))] [(1,.box 24 [.int .i64 g.1,.sl Y7 g.2])] ?_
   refine zQ h (fun hb5 h=>?_) (fun hb5 h=>?_)
   ·refine zo ?_
    refine zB [(2,.bool false)] [] ?_
    refine zr ?_
    obtain rfl:=Option.some.inj h
    exact zR [] [] []
   ·refine zk ?_
    refine AW.have1 (fun _:Unit=>progress_Valid_k1=some r) (fun _=>⟨fr [],hpGet [],gt⟩) (fun _ h=>?_) (fun hk_progress_Valid_k1=>?_)
    ·as_aux_lemma =>
      unfold progress_Valid_k1 at h
      refine zo ?_
      refine zB [(2,.bool true)] [] ?_
      refine AW.ret ?_
      obtain rfl:=Option.some.inj h
      exact zR [] [] []
    ·refine AW.seq ?_
     refine zo ?_
     refine zB [(1,.bp 1 0),(20,.sl Y7 g.2),(21,.int .i64 (g.2.length:Int)),(22,.int .i64 0)] [(1,.box 24 [.int .i64 g.1,.sl Y7 g.2])] ?_
     refine AW.block ?_
     obtain ⟨rv10,hw6,ho7⟩:=Option.bind_eq_some_iff.1 h
     refine AW.loopO (progress_Valid_b1 g) (fun st1=>⟨fr [(1,.bp 1 0),(20,.sl Y7 g.2),(21,.int .i64 (g.2.length:Int)),(22,.int .i64 st1)],hpGet [(1,.box 24 [.int .i64 g.1,.sl Y7 g.2])],gt⟩) 0 hw6 (zL [] [] []) ?_
     as_aux_lemma =>
      intro st1 x9 h hd8
      unfold progress_Valid_b1 at h
      refine zo ?_
      refine zB [(1,.bp 1 0),(20,.sl Y7 g.2),(21,.int .i64 (g.2.length:Int)),(22,.int .i64 st1),(23,.bool (decide (st1 < (g.2.length:Int))))] [(1,.box 24 [.int .i64 g.1,.sl Y7 g.2])] ?_
      refine AW.seq ?_
      refine zQ h (fun hb11 h=>?_) (fun hb11 h=>?_)
      ·refine zk ?_
       refine AW.seq ?_
       refine AW.block ?_
       refine zo ?_
       obtain ⟨c12,h⟩:=ck_some.1 h
       obtain ⟨c13,h⟩:=ck_some.1 h
       refine zS 5 [(1,.bp 1 0),(3,.int .i64 st1),(4,.bp 4 0),(20,.sl Y7 g.2),(21,.int .i64 (g.2.length:Int)),(22,.int .i64 st1),(26,.agg [.int .i64 (g.2.getD st1.toNat (0,0,0,false)).1,.int .i64 (g.2.getD st1.toNat (0,0,0,false)).2.1,.int .i64 (g.2.getD st1.toNat (0,0,0,false)).2.2.1,.bool (g.2.getD st1.toNat (0,0,0,false)).2.2.2])] [(1,.box 24 [.int .i64 g.1,.sl Y7 g.2]),(4,.box 61 [.int .i64 0,.int .i64 0,.int .i64 0,.bool false])] ?_
       refine zB [(1,.bp 1 0),(3,.int .i64 st1),(4,.bp 4 0),(20,.sl Y7 g.2),(21,.int .i64 (g.2.length:Int)),(22,.int .i64 st1)] [(1,.box 24 [.int .i64 g.1,.sl Y7 g.2]),(4,.box 61 [.int .i64 (g.2.getD st1.toNat (0,0,0,false)).1,.int .i64 (g.2.getD st1.toNat (0,0,0,false)).2.1,.int .i64 (g.2.getD st1.toNat (0,0,0,false)).2.2.1,.bool (g.2.getD st1.toNat (0,0,0,false)).2.2.2])] ?_
       refine AW.seq ?_
       refine AW.draw tab_ok mixed_ok [] [] (by decide) (lex_fast (by kernel_rfl)) ?_
       as_aux_lemma =>
        refine adops_cut 4 (fun K' hK14=>?_)
        try dsimp only [List.drop_succ_cons,List.drop_zero,List.take_succ_cons,List.take_zero]
        simp only [go_sem,hb1,hb3,hb5,hb11]
        repeat with_reducible refine zN ?_
        refine hK14 _ ?_
        as_aux_lemma =>
         obtain ⟨v0,hv15,h⟩:=Option.bind_eq_some_iff.1 h
         refine adops.call (by first | trivial | rfl) rfl rfl rfl (fun _ h=>h) [] [] (hc_progress_isBelow (g.2.getD st1.toNat (0,0,0,false)).1 g.1 hv15) rfl (by (simp only [go_sem,hb1,hb3,hb5,hb11]) <;> (with_reducible and_intros) <;> first | assumption | rfl | omega | (unfold maxLen; omega)) (by (simp only [go_sem,hb1,hb3,hb5,hb11]) <;> (with_reducible and_intros) <;> first | assumption | rfl | omega | (unfold maxLen; omega)) rfl ?_
         refine adops_cut 2 (fun K' hK16=>?_)
         try dsimp only [List.drop_succ_cons,List.drop_zero,List.take_succ_cons,List.take_zero]
         simp only [go_sem,hb1,hb3,hb5,hb11]
         repeat with_reducible refine zN ?_
         refine hK16 _ ?_
         as_aux_lemma =>
          rcases zI h with ⟨hb17,h⟩ | ⟨hb17,h⟩
          ·simp only [hb17]
           as_aux_lemma =>
            refine adops_cut 4 (fun K' hK18=>?_)
            try dsimp only [List.drop_succ_cons,List.drop_zero,List.take_succ_cons,List.take_zero]
            simp only [go_sem,hb1,hb3,hb5,hb11,hb17]
            repeat with_reducible refine zN ?_
            refine hK18 _ ?_
            as_aux_lemma =>
             refine adops_cut 6 (fun K' hK19=>?_)
             try dsimp only [List.drop_succ_cons,List.drop_zero,List.take_succ_cons,List.take_zero]
             simp only [go_sem,hb1,hb3,hb5,hb11,hb17]
             repeat with_reducible refine zN ?_
             refine hK19 _ ?_
             as_aux_lemma =>
              refine adops_cut 6 (fun K' hK20=>?_)
              try dsimp only [List.drop_succ_cons,List.drop_zero,List.take_succ_cons,List.take_zero]
              simp only [go_sem,hb1,hb3,hb5,hb11,hb17]
              repeat with_reducible refine zN ?_
              refine hK20 _ ?_
              as_aux_lemma =>
               refine adops_cut 4 (fun K' hK21=>?_)
               try dsimp only [List.drop_succ_cons,List.drop_zero,List.take_succ_cons,List.take_zero]
               simp only [go_sem,hb1,hb3,hb5,hb11,hb17]
               repeat with_reducible refine zN ?_
               refine hK21 _ ?_
               as_aux_lemma =>
                refine adops_cut 1 (fun K' hK22=>?_)
                try dsimp only [List.drop_succ_cons,List.drop_zero,List.take_succ_cons,List.take_zero]
                simp only [go_sem,hb1,hb3,hb5,hb11,hb17]
                repeat with_reducible refine zN ?_
                refine hK22 _ ?_
                refine adops_nil ?_
                refine athen_n ?_
                refine zV [(1,.bp 1 0),(20,.sl Y7 g.2),(21,.int .i64 (g.2.length:Int)),(22,.int .i64 st1),(54,.bool true)] [(1,.box 24 [.int .i64 g.1,.sl Y7 g.2])] gt ?_
                as_aux_lemma =>
                 refine AW.cond (b:=true) rfl (fun _=>?_) (fun hb23=>by cases hb23)
                 refine zo ?_
                 refine zB [(2,.bool false)] [] ?_
                 refine AW.ret ?_
                 refine ablock_r ?_
                 refine athen_r ?_
                 obtain rfl:=Option.some.inj h
                 rw [← hd8 _ rfl] at ho7
                 have h:=ho7
                 try simp only at h
                 refine athen_r ?_
                 refine ablock_r ?_
                 refine athen_r ?_
                 obtain rfl:=Option.some.inj h
                 exact zR [] [] []
          ·simp only [hb17]
           as_aux_lemma =>
            refine adops_cut 4 (fun K' hK24=>?_)
            try dsimp only [List.drop_succ_cons,List.drop_zero,List.take_succ_cons,List.take_zero]
            simp only [go_sem,hb1,hb3,hb5,hb11,hb17]
            repeat with_reducible refine zN ?_
            refine hK24 _ ?_
            as_aux_lemma =>
             obtain ⟨v0_2,hv25,h⟩:=Option.bind_eq_some_iff.1 h
             refine adops.call (by first | trivial | rfl) rfl rfl rfl (fun _ h=>⟨fun _=>h,fun hn=>absurd rfl hn⟩) [] [] (hc_progress_isBelow (g.2.getD st1.toNat (0,0,0,false)).2.2.1 g.1 hv25) rfl (by (simp only [go_sem,hb1,hb3,hb5,hb11,hb17]) <;> (with_reducible and_intros) <;> first | assumption | rfl | omega | (unfold maxLen; omega)) (by (simp only [go_sem,hb1,hb3,hb5,hb11,hb17]) <;> (with_reducible and_intros) <;> first | assumption | rfl | omega | (unfold maxLen; omega)) rfl ?_
             refine adops_cut 3 (fun K' hK26=>?_)
             try dsimp only [List.drop_succ_cons,List.drop_zero,List.take_succ_cons,List.take_zero]
             simp only [go_sem,hb1,hb3,hb5,hb11,hb17]
             repeat with_reducible refine zN ?_
             refine hK26 _ ?_
             as_aux_lemma =>
              rcases zI h with ⟨hb27,h⟩ | ⟨hb27,h⟩
              ·simp only [hb27]
               as_aux_lemma =>
                refine adops_cut 4 (fun K' hK28=>?_)
                try dsimp only [List.drop_succ_cons,List.drop_zero,List.take_succ_cons,List.take_zero]
                simp only [go_sem,hb1,hb3,hb5,hb11,hb17,hb27]
                repeat with_reducible refine zN ?_
                refine hK28 _ ?_
                as_aux_lemma =>
                 refine adops_cut 6 (fun K' hK29=>?_)
                 try dsimp only [List.drop_succ_cons,List.drop_zero,List.take_succ_cons,List.take_zero]
                 simp only [go_sem,hb1,hb3,hb5,hb11,hb17,hb27]
                 repeat with_reducible refine zN ?_
                 refine hK29 _ ?_
                 as_aux_lemma =>
                  refine adops_cut 3 (fun K' hK30=>?_)
                  try dsimp only [List.drop_succ_cons,List.drop_zero,List.take_succ_cons,List.take_zero]
                  simp only [go_sem,hb1,hb3,hb5,hb11,hb17,hb27]
                  repeat with_reducible refine zN ?_
                  refine hK30 _ ?_
                  refine adops_nil ?_
                  refine athen_n ?_
                  refine zV [(1,.bp 1 0),(20,.sl Y7 g.2),(21,.int .i64 (g.2.length:Int)),(22,.int .i64 st1),(54,.bool true)] [(1,.box 24 [.int .i64 g.1,.sl Y7 g.2])] gt ?_
                  as_aux_lemma =>
                   refine AW.cond (b:=true) rfl (fun _=>?_) (fun hb31=>by cases hb31)
                   refine zo ?_
                   refine zB [(2,.bool false)] [] ?_
                   refine AW.ret ?_
                   refine ablock_r ?_
                   refine athen_r ?_
                   obtain rfl:=Option.some.inj h
                   rw [← hd8 _ rfl] at ho7
                   have h:=ho7
                   try simp only at h
                   refine athen_r ?_
                   refine ablock_r ?_
                   refine athen_r ?_
                   obtain rfl:=Option.some.inj h
                   exact zR [] [] []
              ·simp only [hb27]
               as_aux_lemma =>
                refine adops_cut 2 (fun K' hK32=>?_)
                try dsimp only [List.drop_succ_cons,List.drop_zero,List.take_succ_cons,List.take_zero]
                simp only [go_sem,hb1,hb3,hb5,hb11,hb17,hb27]
                repeat with_reducible refine zN ?_
                refine hK32 _ ?_
                as_aux_lemma =>
                 obtain ⟨v0_3,hv33,h⟩:=Option.bind_eq_some_iff.1 h
                 refine adops.call (by first | trivial | rfl) rfl rfl rfl (fun _ h=>⟨fun _=>h,fun hn=>absurd rfl hn⟩) [] [] (hc_progress_isThread (g.2.getD st1.toNat (0,0,0,false)).2.1 hv33) rfl (by (simp only [go_sem,hb1,hb3,hb5,hb11,hb17,hb27]) <;> (with_reducible and_intros) <;> first | assumption | rfl | omega | (unfold maxLen; omega)) (by (simp only [go_sem,hb1,hb3,hb5,hb11,hb17,hb27]) <;> (with_reducible and_intros) <;> first | assumption | rfl | omega | (unfold maxLen; omega)) rfl ?_
                 refine adops_cut 3 (fun K' hK34=>?_)
                 try dsimp only [List.drop_succ_cons,List.drop_zero,List.take_succ_cons,List.take_zero]
                 simp only [go_sem,hb1,hb3,hb5,hb11,hb17,hb27]
                 repeat with_reducible refine zN ?_
                 refine hK34 _ ?_
                 as_aux_lemma =>
                  rcases zI h with ⟨hb35,h⟩ | ⟨hb35,h⟩
                  ·simp only [hb35]
                   as_aux_lemma =>
                    refine adops_cut 4 (fun K' hK36=>?_)
                    try dsimp only [List.drop_succ_cons,List.drop_zero,List.take_succ_cons,List.take_zero]
                    simp only [go_sem,hb1,hb3,hb5,hb11,hb17,hb27,hb35]
                    repeat with_reducible refine zN ?_
                    refine hK36 _ ?_
                    as_aux_lemma =>
                     refine adops_cut 3 (fun K' hK37=>?_)
                     try dsimp only [List.drop_succ_cons,List.drop_zero,List.take_succ_cons,List.take_zero]
                     simp only [go_sem,hb1,hb3,hb5,hb11,hb17,hb27,hb35]
                     repeat with_reducible refine zN ?_
                     refine hK37 _ ?_
                     refine adops_nil ?_
                     refine athen_n ?_
                     refine zV [(1,.bp 1 0),(20,.sl Y7 g.2),(21,.int .i64 (g.2.length:Int)),(22,.int .i64 st1),(54,.bool true)] [(1,.box 24 [.int .i64 g.1,.sl Y7 g.2])] gt ?_
                     as_aux_lemma =>
                      refine AW.cond (b:=true) rfl (fun _=>?_) (fun hb38=>by cases hb38)
                      refine zo ?_
                      refine zB [(2,.bool false)] [] ?_
                      refine AW.ret ?_
                      refine ablock_r ?_
                      refine athen_r ?_
                      obtain rfl:=Option.some.inj h
                      rw [← hd8 _ rfl] at ho7
                      have h:=ho7
                      try simp only at h
                      refine athen_r ?_
                      refine ablock_r ?_
                      refine athen_r ?_
                      obtain rfl:=Option.some.inj h
                      exact zR [] [] []
                  ·simp only [hb35]
                   as_aux_lemma =>
                    obtain ⟨c40,h⟩:=ck_some.1 h
                    obtain ⟨c41,h⟩:=ck_some.1 h
                    refine adops_cut 5 (fun K' hK39=>?_)
                    try dsimp only [List.drop_succ_cons,List.drop_zero,List.take_succ_cons,List.take_zero]
                    simp only [go_sem,hb1,hb3,hb5,hb11,hb17,hb27,hb35]
                    repeat with_reducible refine zN ?_
                    refine hK39 _ ?_
                    as_aux_lemma =>
                     obtain ⟨v0_4,hv42,h⟩:=Option.bind_eq_some_iff.1 h
                     refine adops.call (by first | trivial | rfl) rfl rfl rfl (fun _ h=>⟨fun _=>h,fun hn=>absurd rfl hn⟩) [] [] (hc_slices_Contains (g.2.take st1.toNat) (g.2.getD st1.toNat (0,0,0,false)) hv42) rfl (by (simp only [go_sem,hb1,hb3,hb5,hb11,hb17,hb27,hb35]) <;> (with_reducible and_intros) <;> first | assumption | rfl | omega | (unfold maxLen; omega)) (by (simp only [go_sem,hb1,hb3,hb5,hb11,hb17,hb27,hb35]) <;> (with_reducible and_intros) <;> first | assumption | rfl | omega | (unfold maxLen; omega)) rfl ?_
                     refine adops_cut 1 (fun K' hK43=>?_)
                     try dsimp only [List.drop_succ_cons,List.drop_zero,List.take_succ_cons,List.take_zero]
                     simp only [go_sem,hb1,hb3,hb5,hb11,hb17,hb27,hb35]
                     repeat with_reducible refine zN ?_
                     refine hK43 _ ?_
                     refine adops_nil ?_
                     refine athen_n ?_
                     refine zV [(1,.bp 1 0),(20,.sl Y7 g.2),(21,.int .i64 (g.2.length:Int)),(22,.int .i64 st1),(54,.bool v0_4)] [(1,.box 24 [.int .i64 g.1,.sl Y7 g.2])] gt ?_
                     as_aux_lemma =>
                      refine zQ h (fun hb44 h=>?_) (fun hb44 h=>?_)
                      ·refine zo ?_
                       refine zB [(2,.bool false)] [] ?_
                       refine AW.ret ?_
                       refine ablock_r ?_
                       refine athen_r ?_
                       obtain rfl:=Option.some.inj h
                       rw [← hd8 _ rfl] at ho7
                       have h:=ho7
                       try simp only at h
                       refine athen_r ?_
                       refine ablock_r ?_
                       refine athen_r ?_
                       obtain rfl:=Option.some.inj h
                       exact zR [] [] []
                      ·refine zm ?_
                       refine athen_n ?_
                       refine AW.ops ?_
                       obtain ⟨c45,h⟩:=ck_some.1 h
                       refine zA [(1,.bp 1 0),(20,.sl Y7 g.2),(21,.int .i64 (g.2.length:Int)),(22,.int .i64 (st1 + 1))] [(1,.box 24 [.int .i64 g.1,.sl Y7 g.2])] ?_
                       obtain rfl:=Option.some.inj h
                       exact ⟨_,rfl,zL [] [] []⟩
      ·refine AW.exit ?_
       refine athen_e ?_
       obtain rfl:=Option.some.inj h
       rw [← hd8 _ rfl] at ho7
       have h:=ho7
       try simp only at h
       refine athen_e ?_
       refine ablock_s ?_
       refine athen_n ?_
       exact AW.weaken (zL [] [] []) (hk_progress_Valid_k1 () h)
theorem hc_progress_graphOf (g:Int×(List (Int×Int×Int×Bool))) {r:Int×(List (Int×Int×Int×Bool))×Int} (h:progress_graphOf g=some r):HC Try.prog 56 [] [.agg [.int .i64 g.1,.sl Y7 g.2]] [] (.tup [.agg [.int .i64 r.1,.sl Y7 r.2.1],.int .i64 r.2.2]):=by
 unfold progress_graphOf at h
 refine zH Try.func56 [.cell 2 69,.tmp 3] 9 ?_
 refine zo ?_
 refine zB [(1,.bp 1 0),(2,.bp 2 0)] [(1,.box 24 [.int .i64 g.1,.sl Y7 g.2]),(2,.box 69 [.int .i64 0,.cv (.slice none 0 0)])] ?_
 refine AW.seq ?_
 refine zo ?_
 refine zS 1 [(1,.bp 1 0),(2,.bp 2 0),(4,.agg [.int .i64 g.1,.sl Y7 g.2])] [(1,.box 24 [.int .i64 g.1,.sl Y7 g.2]),(2,.box 69 [.int .i64 0,.cv (.slice none 0 0)])] ?_
 obtain ⟨v0,hv1,h⟩:=Option.bind_eq_some_iff.1 h
 refine zC [] [] (hc_progress_Valid g hv1) [(1,.bp 1 0),(2,.bp 2 0),(5,.bool v0)] [(1,.box 24 [.int .i64 g.1,.sl Y7 g.2]),(2,.box 69 [.int .i64 0,.cv (.slice none 0 0)])] ?_
 refine zB [(1,.bp 1 0),(2,.bp 2 0),(6,.bool (!v0))] [(1,.box 24 [.int .i64 g.1,.sl Y7 g.2]),(2,.box 69 [.int .i64 0,.cv (.slice none 0 0)])] ?_
 refine zQ h (fun hb2 h=>?_) (fun hb2 h=>?_)
 ·refine zo ?_
  refine zB [(2,.bp 2 0),(3,.int .i64 70)] [(2,.box 69 [.int .i64 0,.cv (.slice none 0 0)])] ?_
  refine zr ?_
  obtain rfl:=Option.some.inj h
  exact zR [] [] []
 ·refine zk ?_
  refine zo ?_
  refine zB [(2,.bp 2 0),(3,.int .i64 0)] [(2,.box 69 [.int .i64 g.1,.sl Y7 g.2])] ?_
  refine AW.ret ?_
  obtain rfl:=Option.some.inj h
  exact zR [] [] []
theorem hc_progress_statementOf (g:Int×(List (Int×Int×Int×Bool))) (claim:Int) (thread:Int) {r:Sum Int (Sum (Int×(List (Int×Int×Int×Bool))) (Sum (Int×(List (Int×Int×Int×Bool))) (Int×(List (Int×Int×Int×Bool)))))} (h:progress_statementOf g claim thread=some r):HC Try.prog 71 [] [.agg [.int .i64 g.1,.sl Y7 g.2],.int .i64 claim,.int .i64 thread] (match r with | .inl r=>[] | .inr (.inl r)=>[] | .inr (.inr (.inl r))=>[(2000,.box 3 [.int .i64 thread])] | .inr (.inr (.inr r))=>[(2000,.box 3 [.int .i64 thread])]) ((match r with | .inl r=>.tup [.agg [.int .i64 0,.cv (.slice none 0 0),.cv (.nilFunc),.cv (.nilFunc)],.int .i64 r] | .inr (.inl r)=>.tup [.agg [.int .i64 r.1,.sl Y7 r.2,.fn (.func 94) [] [],.fn (.func 94) [] []],.int .i64 0] | .inr (.inr (.inl r))=>.tup [.agg [.int .i64 r.1,.sl Y7 r.2,.fn (.func 96) [] [.bp 2000 0],.fn (.func 95) [] [.bp 2000 0]],.int .i64 0] | .inr (.inr (.inr r))=>.tup [.agg [.int .i64 r.1,.sl Y7 r.2,.fn (.func 95) [] [.bp 2000 0],.fn (.func 95) [] [.bp 2000 0]],.int .i64 0])):=by
 unfold progress_statementOf at h
 refine zH Try.func71 [.cell 6 85,.tmp 7] 58 ?_
 refine zo ?_
 refine zB [(1,.int .i64 claim),(3,.bp 3 0),(5,.bp 5 0),(6,.bp 6 0)] [(3,.box 24 [.int .i64 g.1,.sl Y7 g.2]),(5,.box 3 [.int .i64 thread]),(6,.box 85 [.int .i64 0,.cv (.slice none 0 0),.cv (.nilFunc),.cv (.nilFunc)])] ?_
 refine zo ?_
 refine zS 1 [(1,.int .i64 claim),(5,.bp 5 0),(6,.bp 6 0),(14,.agg [.int .i64 g.1,.sl Y7 g.2])] [(5,.box 3 [.int .i64 thread]),(6,.box 85 [.int .i64 0,.cv (.slice none 0 0),.cv (.nilFunc),.cv (.nilFunc)])] ?_
 obtain ⟨v0,hv1,h⟩:=Option.bind_eq_some_iff.1 h
 refine zC [] [] (hc_progress_graphOf g hv1) [(1,.int .i64 claim),(5,.bp 5 0),(6,.bp 6 0),(15,.tup [.agg [.int .i64 v0.1,.sl Y7 v0.2.1],.int .i64 v0.2.2])] [(5,.box 3 [.int .i64 thread]),(6,.box 85 [.int .i64 0,.cv (.slice none 0 0),.cv (.nilFunc),.cv (.nilFunc)])] ?_
 refine zS 5 [(1,.int .i64 claim),(5,.bp 5 0),(6,.bp 6 0),(8,.bp 8 0),(17,.int .i64 v0.2.2)] [(5,.box 3 [.int .i64 thread]),(6,.box 85 [.int .i64 0,.cv (.slice none 0 0),.cv (.nilFunc),.cv (.nilFunc)]),(8,.box 69 [.int .i64 v0.1,.sl Y7 v0.2.1])] ?_
 refine zB [(1,.int .i64 claim),(5,.bp 5 0),(6,.bp 6 0),(8,.bp 8 0),(9,.int .i64 v0.2.2)] [(5,.box 3 [.int .i64 thread]),(6,.box 85 [.int .i64 0,.cv (.slice none 0 0),.cv (.nilFunc),.cv (.nilFunc)]),(8,.box 69 [.int .i64 v0.1,.sl Y7 v0.2.1])] ?_
 refine AW.seq ?_
 refine zo ?_
 refine zB [(1,.int .i64 claim),(5,.bp 5 0),(6,.bp 6 0),(8,.bp 8 0),(9,.int .i64 v0.2.2),(19,.bool (!(decide (v0.2.2=0))))] [(5,.box 3 [.int .i64 thread]),(6,.box 85 [.int .i64 0,.cv (.slice none 0 0),.cv (.nilFunc),.cv (.nilFunc)]),(8,.box 69 [.int .i64 v0.1,.sl Y7 v0.2.1])] ?_
 refine zQ h (fun hb2 h=>?_) (fun hb2 h=>?_)
 ·refine zo ?_
  refine zB [(6,.bp 6 0),(7,.int .i64 v0.2.2)] [(6,.box 85 [.int .i64 0,.cv (.slice none 0 0),.cv (.nilFunc),.cv (.nilFunc)])] ?_
  refine zr ?_
  obtain rfl:=Option.some.inj h
  exact zR [] [] []
 ·refine zk ?_
  refine AW.have5 (fun _:Unit=>progress_statementOf_k1 claim v0=some r) (fun _=>⟨fr [(6,.bp 6 0),(8,.bp 8 0),(10,.fn (.func 94) [] []),(11,.fn (.func 95) [] [.bp 5 0]),(12,.fn (.func 96) [] [.bp 5 0]),(41,.int .i64 claim)],hpGet [(5,.box 3 [.int .i64 thread]),(6,.box 85 [.int .i64 0,.cv (.slice none 0 0),.cv (.nilFunc),.cv (.nilFunc)]),(8,.box 69 [.int .i64 v0.1,.sl Y7 v0.2.1])],gt⟩) (fun _ h=>?_) (fun hk_progress_statementOf_k1=>?_)
  ·as_aux_lemma =>
    unfold progress_statementOf_k1 at h
    refine AW.block ?_
    refine zo ?_
    refine zB [(6,.bp 6 0),(8,.bp 8 0),(10,.fn (.func 94) [] []),(11,.fn (.func 95) [] [.bp 5 0]),(12,.fn (.func 96) [] [.bp 5 0]),(41,.int .i64 claim),(46,.bool (decide (claim=0)))] [(5,.box 3 [.int .i64 thread]),(6,.box 85 [.int .i64 0,.cv (.slice none 0 0),.cv (.nilFunc),.cv (.nilFunc)]),(8,.box 69 [.int .i64 v0.1,.sl Y7 v0.2.1])] ?_
    refine zQ h (fun hb3 h=>?_) (fun hb3 h=>?_)
    ·refine zo ?_
     refine zS 5 [(6,.bp 6 0)] [(6,.box 85 [.int .i64 v0.1,.sl Y7 v0.2.1,.fn (.func 94) [] [],.fn (.func 94) [] []])] ?_
     refine zB [(6,.bp 6 0),(7,.int .i64 0)] [(6,.box 85 [.int .i64 v0.1,.sl Y7 v0.2.1,.fn (.func 94) [] [],.fn (.func 94) [] []])] ?_
     refine AW.ret ?_
     refine ablock_r ?_
     obtain rfl:=Option.some.inj h
     exact zR [] [] []
    ·refine zo ?_
     refine zB [(6,.bp 6 0),(8,.bp 8 0),(11,.fn (.func 95) [] [.bp 5 0]),(12,.fn (.func 96) [] [.bp 5 0]),(52,.bool (decide (claim=1)))] [(5,.box 3 [.int .i64 thread]),(6,.box 85 [.int .i64 0,.cv (.slice none 0 0),.cv (.nilFunc),.cv (.nilFunc)]),(8,.box 69 [.int .i64 v0.1,.sl Y7 v0.2.1])] ?_
     refine zQ h (fun hb4 h=>?_) (fun hb4 h=>?_)
     ·refine zo ?_
      refine zS 5 [(6,.bp 6 0)] [(5,.box 3 [.int .i64 thread]),(6,.box 85 [.int .i64 v0.1,.sl Y7 v0.2.1,.fn (.func 96) [] [.bp 5 0],.fn (.func 95) [] [.bp 5 0]])] ?_
      refine zB [(6,.bp 6 0),(7,.int .i64 0)] [(5,.box 3 [.int .i64 thread]),(6,.box 85 [.int .i64 v0.1,.sl Y7 v0.2.1,.fn (.func 96) [] [.bp 5 0],.fn (.func 95) [] [.bp 5 0]])] ?_
      refine AW.ret ?_
      refine ablock_r ?_
      obtain rfl:=Option.some.inj h
      exact zR [] [] [(2000,5)]
     ·refine zo ?_
      refine zS 5 [(6,.bp 6 0)] [(5,.box 3 [.int .i64 thread]),(6,.box 85 [.int .i64 v0.1,.sl Y7 v0.2.1,.fn (.func 95) [] [.bp 5 0],.fn (.func 95) [] [.bp 5 0]])] ?_
      refine zB [(6,.bp 6 0),(7,.int .i64 0)] [(5,.box 3 [.int .i64 thread]),(6,.box 85 [.int .i64 v0.1,.sl Y7 v0.2.1,.fn (.func 95) [] [.bp 5 0],.fn (.func 95) [] [.bp 5 0]])] ?_
      refine AW.ret ?_
      refine ablock_r ?_
      obtain rfl:=Option.some.inj h
      exact zR [] [] [(2000,5)]
  ·refine AW.seq ?_
   refine zo ?_
   refine zS 1 [(1,.int .i64 claim),(5,.bp 5 0),(6,.bp 6 0),(8,.bp 8 0),(22,.int .i64 claim)] [(5,.box 3 [.int .i64 thread]),(6,.box 85 [.int .i64 0,.cv (.slice none 0 0),.cv (.nilFunc),.cv (.nilFunc)]),(8,.box 69 [.int .i64 v0.1,.sl Y7 v0.2.1])] ?_
   obtain ⟨v0_2,hv5,h⟩:=Option.bind_eq_some_iff.1 h
   refine zC [] [] (hc_progress_isBelow claim 3 hv5) [(1,.int .i64 claim),(5,.bp 5 0),(6,.bp 6 0),(8,.bp 8 0),(23,.bool v0_2)] [(5,.box 3 [.int .i64 thread]),(6,.box 85 [.int .i64 0,.cv (.slice none 0 0),.cv (.nilFunc),.cv (.nilFunc)]),(8,.box 69 [.int .i64 v0.1,.sl Y7 v0.2.1])] ?_
   refine zS 2 [(1,.int .i64 claim),(5,.bp 5 0),(6,.bp 6 0),(8,.bp 8 0),(25,.bool (!v0_2))] [(5,.box 3 [.int .i64 thread]),(6,.box 85 [.int .i64 0,.cv (.slice none 0 0),.cv (.nilFunc),.cv (.nilFunc)]),(8,.box 69 [.int .i64 v0.1,.sl Y7 v0.2.1])] ?_
   rcases zI h with ⟨hb6,h⟩ | ⟨hb6,h⟩
   ·refine zS 5 [(1,.int .i64 claim),(5,.bp 5 0),(6,.bp 6 0),(8,.bp 8 0),(30,.bool true)] [(5,.box 3 [.int .i64 thread]),(6,.box 85 [.int .i64 0,.cv (.slice none 0 0),.cv (.nilFunc),.cv (.nilFunc)]),(8,.box 69 [.int .i64 v0.1,.sl Y7 v0.2.1])] ?_
    refine zS 4 [(1,.int .i64 claim),(5,.bp 5 0),(6,.bp 6 0),(8,.bp 8 0),(30,.bool true),(33,.cv (undef)),(34,.cv (undef))] [(5,.box 3 [.int .i64 thread]),(6,.box 85 [.int .i64 0,.cv (.slice none 0 0),.cv (.nilFunc),.cv (.nilFunc)]),(8,.box 69 [.int .i64 v0.1,.sl Y7 v0.2.1])] ?_
    refine zB [(1,.int .i64 claim),(5,.bp 5 0),(6,.bp 6 0),(8,.bp 8 0),(37,.bool true)] [(5,.box 3 [.int .i64 thread]),(6,.box 85 [.int .i64 0,.cv (.slice none 0 0),.cv (.nilFunc),.cv (.nilFunc)]),(8,.box 69 [.int .i64 v0.1,.sl Y7 v0.2.1])] ?_
    refine AW.cond (b:=true) rfl (fun _=>?_) (fun hb7=>by cases hb7)
    refine zo ?_
    refine zB [(6,.bp 6 0),(7,.int .i64 2)] [(6,.box 85 [.int .i64 0,.cv (.slice none 0 0),.cv (.nilFunc),.cv (.nilFunc)])] ?_
    refine zr ?_
    obtain rfl:=Option.some.inj h
    exact zR [] [] []
   ·refine zS 1 [(1,.int .i64 claim),(5,.bp 5 0),(6,.bp 6 0),(8,.bp 8 0),(25,.bool false),(26,.int .i64 thread)] [(5,.box 3 [.int .i64 thread]),(6,.box 85 [.int .i64 0,.cv (.slice none 0 0),.cv (.nilFunc),.cv (.nilFunc)]),(8,.box 69 [.int .i64 v0.1,.sl Y7 v0.2.1])] ?_
    obtain ⟨v0_3,hv8,h⟩:=Option.bind_eq_some_iff.1 h
    refine zG [] [] (hc_progress_isThread thread hv8) [(1,.int .i64 claim),(5,.bp 5 0),(6,.bp 6 0),(8,.bp 8 0),(25,.bool false),(27,.bool v0_3)] [(5,.box 3 [.int .i64 thread]),(6,.box 85 [.int .i64 0,.cv (.slice none 0 0),.cv (.nilFunc),.cv (.nilFunc)]),(8,.box 69 [.int .i64 v0.1,.sl Y7 v0.2.1])] ?_
    refine zS 3 [(1,.int .i64 claim),(5,.bp 5 0),(6,.bp 6 0),(8,.bp 8 0),(30,.bool (!v0_3))] [(5,.box 3 [.int .i64 thread]),(6,.box 85 [.int .i64 0,.cv (.slice none 0 0),.cv (.nilFunc),.cv (.nilFunc)]),(8,.box 69 [.int .i64 v0.1,.sl Y7 v0.2.1])] ?_
    rcases zI h with ⟨hb9,h⟩ | ⟨hb9,h⟩
    ·refine zS 4 [(1,.int .i64 claim),(5,.bp 5 0),(6,.bp 6 0),(8,.bp 8 0),(30,.bool true),(33,.cv (undef)),(34,.cv (undef))] [(5,.box 3 [.int .i64 thread]),(6,.box 85 [.int .i64 0,.cv (.slice none 0 0),.cv (.nilFunc),.cv (.nilFunc)]),(8,.box 69 [.int .i64 v0.1,.sl Y7 v0.2.1])] ?_
     refine zB [(1,.int .i64 claim),(5,.bp 5 0),(6,.bp 6 0),(8,.bp 8 0),(37,.bool true)] [(5,.box 3 [.int .i64 thread]),(6,.box 85 [.int .i64 0,.cv (.slice none 0 0),.cv (.nilFunc),.cv (.nilFunc)]),(8,.box 69 [.int .i64 v0.1,.sl Y7 v0.2.1])] ?_
     refine AW.cond (b:=true) rfl (fun _=>?_) (fun hb10=>by cases hb10)
     refine zo ?_
     refine zB [(6,.bp 6 0),(7,.int .i64 2)] [(6,.box 85 [.int .i64 0,.cv (.slice none 0 0),.cv (.nilFunc),.cv (.nilFunc)])] ?_
     refine zr ?_
     obtain rfl:=Option.some.inj h
     exact zR [] [] []
    ·refine zS 3 [(1,.int .i64 claim),(5,.bp 5 0),(6,.bp 6 0),(8,.bp 8 0),(30,.bool false),(33,.bool (decide (claim=0)))] [(5,.box 3 [.int .i64 thread]),(6,.box 85 [.int .i64 0,.cv (.slice none 0 0),.cv (.nilFunc),.cv (.nilFunc)]),(8,.box 69 [.int .i64 v0.1,.sl Y7 v0.2.1])] ?_
     rcases zI h with ⟨hb11,h⟩ | ⟨hb11,h⟩
     ·refine zB [(1,.int .i64 claim),(5,.bp 5 0),(6,.bp 6 0),(8,.bp 8 0),(37,.bool (!(decide (thread=0))))] [(5,.box 3 [.int .i64 thread]),(6,.box 85 [.int .i64 0,.cv (.slice none 0 0),.cv (.nilFunc),.cv (.nilFunc)]),(8,.box 69 [.int .i64 v0.1,.sl Y7 v0.2.1])] ?_
      refine zQ h (fun hb12 h=>?_) (fun hb12 h=>?_)
      ·refine zo ?_
       refine zB [(6,.bp 6 0),(7,.int .i64 2)] [(6,.box 85 [.int .i64 0,.cv (.slice none 0 0),.cv (.nilFunc),.cv (.nilFunc)])] ?_
       refine zr ?_
       obtain rfl:=Option.some.inj h
       exact zR [] [] []
      ·refine zk ?_
       refine zo ?_
       refine zB [(1,.int .i64 claim),(5,.bp 5 0),(6,.bp 6 0),(8,.bp 8 0),(10,.fn (.func 94) [] [])] [(5,.box 3 [.int .i64 thread]),(6,.box 85 [.int .i64 0,.cv (.slice none 0 0),.cv (.nilFunc),.cv (.nilFunc)]),(8,.box 69 [.int .i64 v0.1,.sl Y7 v0.2.1])] ?_
       refine zo ?_
       refine zB [(1,.int .i64 claim),(5,.bp 5 0),(6,.bp 6 0),(8,.bp 8 0),(10,.fn (.func 94) [] []),(11,.fn (.func 95) [] [.bp 5 0])] [(5,.box 3 [.int .i64 thread]),(6,.box 85 [.int .i64 0,.cv (.slice none 0 0),.cv (.nilFunc),.cv (.nilFunc)]),(8,.box 69 [.int .i64 v0.1,.sl Y7 v0.2.1])] ?_
       refine zo ?_
       refine zB [(1,.int .i64 claim),(6,.bp 6 0),(8,.bp 8 0),(10,.fn (.func 94) [] []),(11,.fn (.func 95) [] [.bp 5 0]),(12,.fn (.func 96) [] [.bp 5 0])] [(5,.box 3 [.int .i64 thread]),(6,.box 85 [.int .i64 0,.cv (.slice none 0 0),.cv (.nilFunc),.cv (.nilFunc)]),(8,.box 69 [.int .i64 v0.1,.sl Y7 v0.2.1])] ?_
       refine zo ?_
       refine zB [(6,.bp 6 0),(8,.bp 8 0),(10,.fn (.func 94) [] []),(11,.fn (.func 95) [] [.bp 5 0]),(12,.fn (.func 96) [] [.bp 5 0]),(41,.int .i64 claim)] [(5,.box 3 [.int .i64 thread]),(6,.box 85 [.int .i64 0,.cv (.slice none 0 0),.cv (.nilFunc),.cv (.nilFunc)]),(8,.box 69 [.int .i64 v0.1,.sl Y7 v0.2.1])] ?_
       exact AW.weaken (zL [] [] []) (hk_progress_statementOf_k1 () h)
     ·refine zB [(1,.int .i64 claim),(5,.bp 5 0),(6,.bp 6 0),(8,.bp 8 0),(37,.bool false)] [(5,.box 3 [.int .i64 thread]),(6,.box 85 [.int .i64 0,.cv (.slice none 0 0),.cv (.nilFunc),.cv (.nilFunc)]),(8,.box 69 [.int .i64 v0.1,.sl Y7 v0.2.1])] ?_
      refine AW.cond (b:=false) rfl (fun hb13=>by cases hb13) (fun _=>?_)
      refine zk ?_
      refine zo ?_
      refine zB [(1,.int .i64 claim),(5,.bp 5 0),(6,.bp 6 0),(8,.bp 8 0),(10,.fn (.func 94) [] [])] [(5,.box 3 [.int .i64 thread]),(6,.box 85 [.int .i64 0,.cv (.slice none 0 0),.cv (.nilFunc),.cv (.nilFunc)]),(8,.box 69 [.int .i64 v0.1,.sl Y7 v0.2.1])] ?_
      refine zo ?_
      refine zB [(1,.int .i64 claim),(5,.bp 5 0),(6,.bp 6 0),(8,.bp 8 0),(10,.fn (.func 94) [] []),(11,.fn (.func 95) [] [.bp 5 0])] [(5,.box 3 [.int .i64 thread]),(6,.box 85 [.int .i64 0,.cv (.slice none 0 0),.cv (.nilFunc),.cv (.nilFunc)]),(8,.box 69 [.int .i64 v0.1,.sl Y7 v0.2.1])] ?_
      refine zo ?_
      refine zB [(1,.int .i64 claim),(6,.bp 6 0),(8,.bp 8 0),(10,.fn (.func 94) [] []),(11,.fn (.func 95) [] [.bp 5 0]),(12,.fn (.func 96) [] [.bp 5 0])] [(5,.box 3 [.int .i64 thread]),(6,.box 85 [.int .i64 0,.cv (.slice none 0 0),.cv (.nilFunc),.cv (.nilFunc)]),(8,.box 69 [.int .i64 v0.1,.sl Y7 v0.2.1])] ?_
      refine zo ?_
      refine zB [(6,.bp 6 0),(8,.bp 8 0),(10,.fn (.func 94) [] []),(11,.fn (.func 95) [] [.bp 5 0]),(12,.fn (.func 96) [] [.bp 5 0]),(41,.int .i64 claim)] [(5,.box 3 [.int .i64 thread]),(6,.box 85 [.int .i64 0,.cv (.slice none 0 0),.cv (.nilFunc),.cv (.nilFunc)]),(8,.box 69 [.int .i64 v0.1,.sl Y7 v0.2.1])] ?_
      exact AW.weaken (zL [] [] []) (hk_progress_statementOf_k1 () h)
theorem hc_progress_statementOf_a0 (g:Int×(List (Int×Int×Int×Bool))) (claim:Int) (thread:Int) {r:Int} (h:progress_statementOf g claim thread=some (Sum.inl r)):HC Try.prog 71 [] [.agg [.int .i64 g.1,.sl Y7 g.2],.int .i64 claim,.int .i64 thread] [] (.tup [.agg [.int .i64 0,.cv (.slice none 0 0),.cv (.nilFunc),.cv (.nilFunc)],.int .i64 r]):=hc_progress_statementOf g claim thread h
theorem hc_progress_statementOf_a1 (g:Int×(List (Int×Int×Int×Bool))) (claim:Int) (thread:Int) {r:Int×(List (Int×Int×Int×Bool))} (h:progress_statementOf g claim thread=some (Sum.inr (Sum.inl r))):HC Try.prog 71 [] [.agg [.int .i64 g.1,.sl Y7 g.2],.int .i64 claim,.int .i64 thread] [] (.tup [.agg [.int .i64 r.1,.sl Y7 r.2,.fn (.func 94) [] [],.fn (.func 94) [] []],.int .i64 0]):=hc_progress_statementOf g claim thread h
theorem hc_progress_statementOf_a2 (g:Int×(List (Int×Int×Int×Bool))) (claim:Int) (thread:Int) {r:Int×(List (Int×Int×Int×Bool))} (h:progress_statementOf g claim thread=some (Sum.inr (Sum.inr (Sum.inl r)))):HC Try.prog 71 [] [.agg [.int .i64 g.1,.sl Y7 g.2],.int .i64 claim,.int .i64 thread] [(2000,.box 3 [.int .i64 thread])] (.tup [.agg [.int .i64 r.1,.sl Y7 r.2,.fn (.func 96) [] [.bp 2000 0],.fn (.func 95) [] [.bp 2000 0]],.int .i64 0]):=hc_progress_statementOf g claim thread h
theorem hc_progress_statementOf_a3 (g:Int×(List (Int×Int×Int×Bool))) (claim:Int) (thread:Int) {r:Int×(List (Int×Int×Int×Bool))} (h:progress_statementOf g claim thread=some (Sum.inr (Sum.inr (Sum.inr r)))):HC Try.prog 71 [] [.agg [.int .i64 g.1,.sl Y7 g.2],.int .i64 claim,.int .i64 thread] [(2000,.box 3 [.int .i64 thread])] (.tup [.agg [.int .i64 r.1,.sl Y7 r.2,.fn (.func 95) [] [.bp 2000 0],.fn (.func 95) [] [.bp 2000 0]],.int .i64 0]):=hc_progress_statementOf g claim thread h
theorem hc_progress_graph_paths (g:Int×(List (Int×Int×Int×Bool))) (from0:Int) {r:Unit} (h:progress_graph_paths g from0=some r):HC Try.prog 89 [] [.agg [.int .i64 g.1,.sl Y7 g.2],.int .i64 from0,.fn (.func 67) [] []] [(2000,.box 3 [.int .i64 from0]),(2001,.box 69 [.int .i64 g.1,.sl Y7 g.2]),(2002,.box 81 [.fn (.func 67) [] []])] (.fn (.func 108) [] [.bp 2000 0,.bp 2001 0,.bp 2002 0]):=by
 unfold progress_graph_paths at h
 refine zH Try.func89 [.tmp 6] 8 ?_
 refine zo ?_
 refine zB [(3,.bp 3 0),(4,.bp 4 0),(5,.bp 5 0)] [(3,.box 69 [.int .i64 g.1,.sl Y7 g.2]),(4,.box 3 [.int .i64 from0]),(5,.box 81 [.fn (.func 67) [] []])] ?_
 refine zo ?_
 refine zB [(6,.fn (.func 108) [] [.bp 4 0,.bp 3 0,.bp 5 0])] [(3,.box 69 [.int .i64 g.1,.sl Y7 g.2]),(4,.box 3 [.int .i64 from0]),(5,.box 81 [.fn (.func 67) [] []])] ?_
 refine AW.ret ?_
 obtain rfl:=Option.some.inj h
 exact zR [] [] [(2000,4),(2001,3),(2002,5)]
theorem hc_progress_anyMove (a0:Int×Int×Int×Bool) {r:Unit} (h:progress_anyMove a0=some r):HC Try.prog 67 [] [.agg [.int .i64 a0.1,.int .i64 a0.2.1,.int .i64 a0.2.2.1,.bool a0.2.2.2]] [] (.bool true):=by
 unfold progress_anyMove at h
 refine zH Try.func67 [.tmp 2] 3 ?_
 refine zo ?_
 refine zB [] [] ?_
 refine zo ?_
 refine zB [(2,.bool true)] [] ?_
 refine AW.ret ?_
 obtain rfl:=Option.some.inj h
 exact zR [] [] []
theorem hc_slices_Index_2 (s:List Int) (v0:Int) {r:Int} (h:slices_Index_2 s v0=some r):HC Try.prog 112 [] [.sl (.int .i64) s,.int .i64 v0] [] (.int .i64 r):=by
 unfold slices_Index_2 at h
 refine zH Try.func112 [.tmp 4] 19 ?_
 refine zo ?_
 refine zB [(0,.sl (.int .i64) s),(1,.int .i64 v0)] [] ?_
 refine AW.have1 (fun _:Unit=>slices_Index_2_k1=some r) (fun _=>⟨fr [],hpGet [],gt⟩) (fun _ h=>?_) (fun hk_slices_Index_2_k1=>?_)
 ·as_aux_lemma =>
   unfold slices_Index_2_k1 at h
   refine zo ?_
   refine zB [(4,.int .i64 (-1))] [] ?_
   refine AW.ret ?_
   obtain rfl:=Option.some.inj h
   exact zR [] [] []
 ·refine AW.seq ?_
  refine zo ?_
  refine zB [(0,.sl (.int .i64) s),(1,.int .i64 v0),(7,.int .i64 (s.length:Int)),(8,.int .i64 0)] [] ?_
  refine AW.block ?_
  obtain ⟨rv5,hw1,ho2⟩:=Option.bind_eq_some_iff.1 h
  refine AW.loopO (slices_Index_2_b1 s v0) (fun st1=>⟨fr [(0,.sl (.int .i64) s),(1,.int .i64 v0),(7,.int .i64 (s.length:Int)),(8,.int .i64 st1)],hpGet [],gt⟩) 0 hw1 (zL [] [] []) ?_
  as_aux_lemma =>
   intro st1 x4 h hd3
   unfold slices_Index_2_b1 at h
   refine zo ?_
   refine zB [(0,.sl (.int .i64) s),(1,.int .i64 v0),(7,.int .i64 (s.length:Int)),(8,.int .i64 st1),(9,.bool (decide (st1 < (s.length:Int))))] [] ?_
   refine AW.seq ?_
   refine zQ h (fun hb6 h=>?_) (fun hb6 h=>?_)
   ·refine zk ?_
    refine AW.seq ?_
    refine AW.block ?_
    refine zo ?_
    refine zB [(0,.sl (.int .i64) s),(1,.int .i64 v0),(5,.int .i64 st1),(7,.int .i64 (s.length:Int)),(8,.int .i64 st1)] [] ?_
    refine zo ?_
    obtain ⟨c7,h⟩:=ck_some.1 h
    obtain ⟨c8,h⟩:=ck_some.1 h
    refine zS 5 [(0,.sl (.int .i64) s),(1,.int .i64 v0),(5,.int .i64 st1),(7,.int .i64 (s.length:Int)),(8,.int .i64 st1),(11,.int .i64 v0),(15,.int .i64 (s.getD st1.toNat 0))] [] ?_
    refine zB [(0,.sl (.int .i64) s),(1,.int .i64 v0),(5,.int .i64 st1),(7,.int .i64 (s.length:Int)),(8,.int .i64 st1),(16,.bool (decide (v0=(s.getD st1.toNat 0))))] [] ?_
    refine zQ h (fun hb9 h=>?_) (fun hb9 h=>?_)
    ·refine zo ?_
     refine zB [(4,.int .i64 st1)] [] ?_
     refine AW.ret ?_
     refine ablock_r ?_
     refine athen_r ?_
     obtain rfl:=Option.some.inj h
     rw [← hd3 _ rfl] at ho2
     have h:=ho2
     try simp only at h
     refine athen_r ?_
     refine ablock_r ?_
     refine athen_r ?_
     obtain rfl:=Option.some.inj h
     exact zR [] [] []
    ·refine zm ?_
     refine athen_n ?_
     refine AW.ops ?_
     obtain ⟨c10,h⟩:=ck_some.1 h
     refine zA [(0,.sl (.int .i64) s),(1,.int .i64 v0),(7,.int .i64 (s.length:Int)),(8,.int .i64 (st1 + 1))] [] ?_
     obtain rfl:=Option.some.inj h
     exact ⟨_,rfl,zL [] [] []⟩
   ·refine AW.exit ?_
    refine athen_e ?_
    obtain rfl:=Option.some.inj h
    rw [← hd3 _ rfl] at ho2
    have h:=ho2
    try simp only at h
    refine athen_e ?_
    refine ablock_s ?_
    refine athen_n ?_
    exact AW.weaken (zL [] [] []) (hk_slices_Index_2_k1 () h)
theorem hc_slices_Contains_2 (s:List Int) (v0:Int) {r:Bool} (h:slices_Contains_2 s v0=some r):HC Try.prog 102 [] [.sl (.int .i64) s,.int .i64 v0] [] (.bool r):=by
 unfold slices_Contains_2 at h
 refine zH Try.func102 [.tmp 4] 9 ?_
 refine zo ?_
 refine zB [(0,.sl (.int .i64) s),(1,.int .i64 v0)] [] ?_
 refine zo ?_
 refine zS 2 [(5,.sl (.int .i64) s),(6,.int .i64 v0)] [] ?_
 obtain ⟨v0_2,hv1,h⟩:=Option.bind_eq_some_iff.1 h
 refine zC [] [] (hc_slices_Index_2 s v0 hv1) [(7,.int .i64 v0_2)] [] ?_
 refine zB [(4,.bool (decide (0≤v0_2)))] [] ?_
 refine AW.ret ?_
 obtain rfl:=Option.some.inj h
 exact zR [] [] []
theorem hc_slices_Grow (n:Int) {r:Unit} (h:slices_Grow n=some r):HC Try.prog 113 [] [.cv (.slice none 0 0),.int .i64 n] [(2000,.arr 3 (.int .i64) [])] (.own 2000):=by
 unfold slices_Grow at h
 refine zH Try.func113 [.tmp 4] 27 ?_
 refine zo ?_
 refine zB [(0,.cv (.slice none 0 0)),(1,.int .i64 n)] [] ?_
 refine AW.seq ?_
 refine zo ?_
 refine zB [(0,.cv (.slice none 0 0)),(1,.int .i64 n),(6,.bool (decide (n < 0)))] [] ?_
 refine zQ h (fun hb1 h=>?_) (fun hb1 h=>?_)
 ·refine AW.ops ?_
  cases h
 ·refine zk ?_
  refine AW.seq ?_
  refine zo ?_
  refine zS 2 [(0,.cv (.slice none 0 0)),(8,.int .i64 n),(9,.cv (.slice none 0 0))] [] ?_
  refine AO.capNil tab_ok (by decide) rfl rfl rfl rfl rfl tab_25 rfl rfl ?_
  refine zT [(0,.cv (.slice none 0 0)),(8,.int .i64 n),(10,.int .i64 0)] [] gt ?_
  obtain ⟨c2,h⟩:=ck_some.1 h
  obtain ⟨c3,h⟩:=ck_some.1 h
  refine zB [(0,.cv (.slice none 0 0)),(1,.int .i64 (n - (0 - 0)))] [] ?_
  refine zo ?_
  refine zB [(0,.cv (.slice none 0 0)),(1,.int .i64 (n - (0 - 0))),(16,.bool (decide (0 < (n - (0 - 0)))))] [] ?_
  refine zQ h (fun hb4 h=>?_) (fun hb4 h=>?_)
  ·refine AW.ops ?_
   refine zS 2 [(0,.cv (.slice none 0 0)),(1,.int .i64 (n - (0 - 0))),(17,.cv (.slice none 0 0)),(18,.cv (.slice none 0 0))] [] ?_
   refine AO.capNil tab_ok (by decide) rfl rfl rfl rfl rfl tab_25 rfl rfl ?_
   refine zT [(0,.cv (.slice none 0 0)),(1,.int .i64 (n - (0 - 0))),(17,.cv (.slice none 0 0)),(19,.int .i64 0)] [] gt ?_
   refine AO.sliceNil tab_ok (by decide) rfl rfl tab_25 rfl tab_3 rfl rfl ?_
   refine zT [(0,.cv (.slice none 0 0)),(1,.int .i64 (n - (0 - 0))),(20,.cv (.slice none 0 0))] [] gt ?_
   refine zS 1 [(0,.cv (.slice none 0 0)),(20,.cv (.slice none 0 0)),(21,.int .i64 (n - (0 - 0)))] [] ?_
   obtain ⟨c5,h⟩:=ck_some.1 h
   obtain ⟨c6,h⟩:=ck_some.1 h
   obtain ⟨c7,h⟩:=ck_some.1 h
   refine AO.appendZeros tab_ok (by decide) (by decide) rfl rfl rfl rfl rfl tab_25 rfl tab_3 rfl tab_3 rfl rfl rfl (by first | assumption | omega | (simp only [go_sem,hb1,hb4]) <;> (with_reducible and_intros) <;> first | assumption | rfl | omega | (unfold maxLen; omega)) (by first | assumption | omega | (simp only [go_sem,hb1,hb4]) <;> (with_reducible and_intros) <;> first | assumption | rfl | omega | (unfold maxLen; omega)) (by first | assumption | omega | (simp only [go_sem,hb1,hb4]) <;> (with_reducible and_intros) <;> first | assumption | rfl | omega | (unfold maxLen; omega)) ?_
   refine zT [(0,.cv (.slice none 0 0)),(22,.own 22)] [(22,.arr 3 (.int .i64) (List.replicate (n - (0 - 0)).toNat (0:Int)))] gt ?_
   refine zS 2 [(22,.own 22),(24,.int .i64 0)] [(22,.arr 3 (.int .i64) (List.replicate (n - (0 - 0)).toNat (0:Int)))] ?_
   obtain ⟨c8,h⟩:=ck_some.1 h
   obtain ⟨c9,h⟩:=ck_some.1 h
   refine AO.sliceOwn tab_ok (by decide) (by decide) rfl rfl tab_25 rfl tab_3 rfl rfl rfl rfl (by first | assumption | omega | (simp only [go_sem,hb1,hb4]) <;> (with_reducible and_intros) <;> first | assumption | rfl | omega | (unfold maxLen; omega)) (by first | assumption | omega | (simp only [go_sem,hb1,hb4]) <;> (with_reducible and_intros) <;> first | assumption | rfl | omega | (unfold maxLen; omega)) ?_
   refine zT [(25,.own 25)] [(25,.arr 3 (.int .i64) [])] gt ?_
   refine zB [(0,.own 25)] [(25,.arr 3 (.int .i64) [])] ?_
   refine zo ?_
   refine zB [(4,.own 25)] [(25,.arr 3 (.int .i64) [])] ?_
   refine AW.ret ?_
   obtain rfl:=Option.some.inj h
   exact zR [] [] [(2000,25)]
  ·refine zk ?_
   refine zo ?_
   refine zB [(4,.cv (.slice none 0 0))] [] ?_
   refine AW.ret ?_
   obtain rfl:=Option.some.inj h
   exact zR [] [2000] []
theorem hc_slices_Concat (slices:List (List Int)) {r:(List Int)} (h:slices_Concat slices=some r):HC Try.prog 109 [] [.sl (.sl (.int .i64)) slices] [(2000,.arr 3 (.int .i64) r)] (.own 2000):=by
 unfold slices_Concat at h
 refine zH Try.func109 [.tmp 2] 36 ?_
 refine zo ?_
 refine zB [(0,.sl (.sl (.int .i64)) slices)] [] ?_
 refine zo ?_
 refine zB [(0,.sl (.sl (.int .i64)) slices),(3,.int .i64 0)] [] ?_
 refine AW.have1 (fun b1:Int=>slices_Concat_k1 slices b1=some r) (fun b1=>⟨fr [(0,.sl (.sl (.int .i64)) slices),(3,.int .i64 b1)],hpGet [],gt⟩) (fun b1 h=>?_) (fun hk_slices_Concat_k1=>?_)
 ·as_aux_lemma =>
   unfold slices_Concat_k1 at h
   refine zo ?_
   refine zS 1 [(0,.sl (.sl (.int .i64)) slices),(23,.int .i64 b1)] [] ?_
   obtain ⟨v0,hv1,h⟩:=Option.bind_eq_some_iff.1 h
   refine zC [] [] (hc_slices_Grow b1 hv1) [(0,.sl (.sl (.int .i64)) slices),(24,.own 34000)] [(34000,.arr 3 (.int .i64) [])] ?_
   refine zB [(0,.sl (.sl (.int .i64)) slices),(6,.own 34000)] [(34000,.arr 3 (.int .i64) [])] ?_
   refine AW.have1 (fun b2:(List Int)=>slices_Concat_k2 b2=some r) (fun b2=>⟨fr [(6,.own 34000)],hpGet [(34000,.arr 3 (.int .i64) b2)],gt⟩) (fun b2 h=>?_) (fun hk_slices_Concat_k2=>?_)
   ·as_aux_lemma =>
     unfold slices_Concat_k2 at h
     refine zo ?_
     refine zB [(2,.own 34000)] [(34000,.arr 3 (.int .i64) b2)] ?_
     refine AW.ret ?_
     obtain rfl:=Option.some.inj h
     exact zR [] [] [(2000,34000)]
   ·refine AW.seq ?_
    refine zo ?_
    refine zB [(6,.own 34000),(25,.sl (.sl (.int .i64)) slices),(26,.int .i64 (slices.length:Int)),(27,.int .i64 0)] [(34000,.arr 3 (.int .i64) [])] ?_
    refine AW.block ?_
    obtain ⟨rv6,hw2,ho3⟩:=Option.bind_eq_some_iff.1 h
    refine AW.loopO (slices_Concat_b2 slices) (fun st2=>⟨fr [(6,.own 34000),(25,.sl (.sl (.int .i64)) slices),(26,.int .i64 (slices.length:Int)),(27,.int .i64 st2.2)],hpGet [(34000,.arr 3 (.int .i64) st2.1)],gt⟩) ([],0) hw2 (zL [] [] []) ?_
    as_aux_lemma =>
     intro st2 x5 h hd4
     unfold slices_Concat_b2 at h
     refine zo ?_
     refine zB [(6,.own 34000),(25,.sl (.sl (.int .i64)) slices),(26,.int .i64 (slices.length:Int)),(27,.int .i64 st2.2),(28,.bool (decide (st2.2 < (slices.length:Int))))] [(34000,.arr 3 (.int .i64) st2.1)] ?_
     refine AW.seq ?_
     refine zQ h (fun hb7 h=>?_) (fun hb7 h=>?_)
     ·refine zk ?_
      refine AW.seq ?_
      refine AW.block ?_
      refine zo ?_
      obtain ⟨c8,h⟩:=ck_some.1 h
      obtain ⟨c9,h⟩:=ck_some.1 h
      refine zB [(6,.own 34000),(8,.sl (.int .i64) (slices.getD st2.2.toNat [])),(25,.sl (.sl (.int .i64)) slices),(26,.int .i64 (slices.length:Int)),(27,.int .i64 st2.2)] [(34000,.arr 3 (.int .i64) st2.1)] ?_
      refine AW.ops ?_
      obtain ⟨c10,h⟩:=ck_some.1 h
      refine zA [(6,.own 33),(25,.sl (.sl (.int .i64)) slices),(26,.int .i64 (slices.length:Int)),(27,.int .i64 st2.2)] [(33,.arr 3 (.int .i64) (st2.1 ++ (slices.getD st2.2.toNat [])))] ?_
      refine ablock_n ?_
      refine athen_n ?_
      refine AW.ops ?_
      obtain ⟨c11,h⟩:=ck_some.1 h
      refine zA [(6,.own 33),(25,.sl (.sl (.int .i64)) slices),(26,.int .i64 (slices.length:Int)),(27,.int .i64 (st2.2 + 1))] [(33,.arr 3 (.int .i64) (st2.1 ++ (slices.getD st2.2.toNat [])))] ?_
      obtain rfl:=Option.some.inj h
      exact ⟨_,rfl,zL [] [] [(34000,33)]⟩
     ·refine AW.exit ?_
      refine athen_e ?_
      obtain rfl:=Option.some.inj h
      rw [← hd4 _ rfl] at ho3
      have h:=ho3
      refine athen_e ?_
      refine ablock_s ?_
      refine athen_n ?_
      exact AW.weaken (zL [] [] []) (hk_slices_Concat_k2 _ h)
 ·refine AW.seq ?_
  refine zo ?_
  refine zB [(0,.sl (.sl (.int .i64)) slices),(3,.int .i64 0),(9,.sl (.sl (.int .i64)) slices),(10,.int .i64 (slices.length:Int)),(11,.int .i64 0)] [] ?_
  refine AW.block ?_
  obtain ⟨rv16,hw12,ho13⟩:=Option.bind_eq_some_iff.1 h
  refine AW.loopO (slices_Concat_b1 slices) (fun st1=>⟨fr [(0,.sl (.sl (.int .i64)) slices),(3,.int .i64 st1.1),(9,.sl (.sl (.int .i64)) slices),(10,.int .i64 (slices.length:Int)),(11,.int .i64 st1.2)],hpGet [],gt⟩) (0,0) hw12 (zL [] [] []) ?_
  as_aux_lemma =>
   intro st1 x15 h hd14
   unfold slices_Concat_b1 at h
   refine zo ?_
   refine zB [(0,.sl (.sl (.int .i64)) slices),(3,.int .i64 st1.1),(9,.sl (.sl (.int .i64)) slices),(10,.int .i64 (slices.length:Int)),(11,.int .i64 st1.2),(12,.bool (decide (st1.2 < (slices.length:Int))))] [] ?_
   refine AW.seq ?_
   refine zQ h (fun hb17 h=>?_) (fun hb17 h=>?_)
   ·refine zk ?_
    refine AW.seq ?_
    refine AW.block ?_
    refine zo ?_
    obtain ⟨c18,h⟩:=ck_some.1 h
    obtain ⟨c19,h⟩:=ck_some.1 h
    refine zB [(0,.sl (.sl (.int .i64)) slices),(3,.int .i64 st1.1),(5,.sl (.int .i64) (slices.getD st1.2.toNat [])),(9,.sl (.sl (.int .i64)) slices),(10,.int .i64 (slices.length:Int)),(11,.int .i64 st1.2)] [] ?_
    refine zo ?_
    obtain ⟨c20,h⟩:=ck_some.1 h
    refine zB [(0,.sl (.sl (.int .i64)) slices),(3,.int .i64 (st1.1 + ((slices.getD st1.2.toNat []).length:Int))),(9,.sl (.sl (.int .i64)) slices),(10,.int .i64 (slices.length:Int)),(11,.int .i64 st1.2)] [] ?_
    refine zo ?_
    refine zB [(0,.sl (.sl (.int .i64)) slices),(3,.int .i64 (st1.1 + ((slices.getD st1.2.toNat []).length:Int))),(9,.sl (.sl (.int .i64)) slices),(10,.int .i64 (slices.length:Int)),(11,.int .i64 st1.2),(20,.bool (decide ((st1.1 + ((slices.getD st1.2.toNat []).length:Int)) < 0)))] [] ?_
    refine zQ h (fun hb21 h=>?_) (fun hb21 h=>?_)
    ·refine AW.ops ?_
     cases h
    ·refine zm ?_
     refine athen_n ?_
     refine AW.ops ?_
     obtain ⟨c22,h⟩:=ck_some.1 h
     refine zA [(0,.sl (.sl (.int .i64)) slices),(3,.int .i64 (st1.1 + ((slices.getD st1.2.toNat []).length:Int))),(9,.sl (.sl (.int .i64)) slices),(10,.int .i64 (slices.length:Int)),(11,.int .i64 (st1.2 + 1))] [] ?_
     obtain rfl:=Option.some.inj h
     exact ⟨_,rfl,zL [] [] []⟩
   ·refine AW.exit ?_
    refine athen_e ?_
    obtain rfl:=Option.some.inj h
    rw [← hd14 _ rfl] at ho13
    have h:=ho13
    refine athen_e ?_
    refine ablock_s ?_
    refine athen_n ?_
    exact AW.weaken (zL [] [] []) (hk_slices_Concat_k1 _ h)
theorem ic_progress_graph_paths_1 {S R:Type} (a1:Int) (a2:Int×(List (Int×Int×Int×Bool))) (yl:Int×(List Int)→S→Option (Step S R)) (s0:S) {r:Sum S R} (h:progress_graph_paths_1 S R a1 a2 yl s0=some r):IC Try.prog 108 [(1000,.box 3 [.int .i64 a1]),(1001,.box 69 [.int .i64 a2.1,.sl Y7 a2.2]),(1002,.box 81 [.fn (.func 67) [] []])] [.bp 1000 0,.bp 1001 0,.bp 1002 0] (fun (y:Int×(List Int))=>[.int .i64 y.1,.sl (.int .i64) y.2]) yl s0 r:=by
 unfold progress_graph_paths_1 at h
 refine IC.of_body Try.func108 rfl (by kernel_rfl) rfl (nt:=74) rfl (by decide) (by simp) ?_
 intro Γ Γx lp hΓ hΓx hY
 refine zo ?_
 refine zB [(0,.fn (.yield lp) [] []),(2,.bp 1001 0),(3,.bp 1002 0),(5,.own 11),(6,.own 12)] [(11,.arr 3 (.int .i64) [a1]),(12,.arr 25 (.sl (.int .i64)) [[]]),(1000,.box 3 [.int .i64 a1]),(1001,.box 69 [.int .i64 a2.1,.sl Y7 a2.2]),(1002,.box 81 [.fn (.func 67) [] []])] ?_
 refine zo ?_
 refine zB [(0,.fn (.yield lp) [] []),(2,.bp 1001 0),(3,.bp 1002 0),(5,.own 11),(6,.own 12),(7,.int .i64 0)] [(11,.arr 3 (.int .i64) [a1]),(12,.arr 25 (.sl (.int .i64)) [[]]),(1000,.box 3 [.int .i64 a1]),(1001,.box 69 [.int .i64 a2.1,.sl Y7 a2.2]),(1002,.box 81 [.fn (.func 67) [] []])] ?_
 refine AW.block ?_
 obtain ⟨rv5,hw1,ho2⟩:=Option.bind_eq_some_iff.1 h
 refine AW.loopO (progress_graph_paths_1_b1 S R a2 yl) (fun st1=>⟨fr [(0,.fn (.yield lp) [] []),(2,.bp 1001 0),(3,.bp 1002 0),(5,.own 11),(6,.own 12),(7,.int .i64 st1.2.2.1)],hpGet [(11,.arr 3 (.int .i64) st1.1),(12,.arr 25 (.sl (.int .i64)) st1.2.1),(1000,.box 3 [.int .i64 a1]),(1001,.box 69 [.int .i64 a2.1,.sl Y7 a2.2]),(1002,.box 81 [.fn (.func 67) [] []])],(Γ st1.2.2.2)⟩) ([a1],[[]],0,s0) hw1 (zL [] [] []) ?_
 as_aux_lemma =>
  intro st1 x4 h hd3
  unfold progress_graph_paths_1_b1 at h
  refine AW.seq ?_
  refine zo ?_
  refine zB [(0,.fn (.yield lp) [] []),(2,.bp 1001 0),(3,.bp 1002 0),(5,.own 11),(6,.own 12),(7,.int .i64 st1.2.2.1),(16,.bool (decide (st1.2.2.1 < (st1.1.length:Int))))] [(11,.arr 3 (.int .i64) st1.1),(12,.arr 25 (.sl (.int .i64)) st1.2.1),(1000,.box 3 [.int .i64 a1]),(1001,.box 69 [.int .i64 a2.1,.sl Y7 a2.2]),(1002,.box 81 [.fn (.func 67) [] []])] ?_
  refine zQ h (fun hb6 h=>?_) (fun hb6 h=>?_)
  ·refine zk ?_
   refine AW.have1 (fun b1:(List Int)×(List (List Int))×S=>progress_graph_paths_1_k1 S R st1 b1=some x4) (fun b1=>⟨fr [(0,.fn (.yield lp) [] []),(2,.bp 1001 0),(3,.bp 1002 0),(5,.own 11),(6,.own 12),(7,.int .i64 st1.2.2.1)],hpGet [(11,.arr 3 (.int .i64) b1.1),(12,.arr 25 (.sl (.int .i64)) b1.2.1),(1000,.box 3 [.int .i64 a1]),(1001,.box 69 [.int .i64 a2.1,.sl Y7 a2.2]),(1002,.box 81 [.fn (.func 67) [] []])],(Γ b1.2.2)⟩) (fun b1 h=>?_) (fun hk_progress_graph_paths_1_k1=>?_)
   ·as_aux_lemma =>
     unfold progress_graph_paths_1_k1 at h
     refine AW.ops ?_
     obtain ⟨c7,h⟩:=ck_some.1 h
     refine zA [(0,.fn (.yield lp) [] []),(2,.bp 1001 0),(3,.bp 1002 0),(5,.own 11),(6,.own 12),(7,.int .i64 (st1.2.2.1 + 1))] [(11,.arr 3 (.int .i64) b1.1),(12,.arr 25 (.sl (.int .i64)) b1.2.1),(1000,.box 3 [.int .i64 a1]),(1001,.box 69 [.int .i64 a2.1,.sl Y7 a2.2]),(1002,.box 81 [.fn (.func 67) [] []])] ?_
     obtain rfl:=Option.some.inj h
     exact ⟨_,rfl,zL [] [] []⟩
   ·refine AW.seq ?_
    refine AW.block ?_
    refine AW.seq ?_
    refine AW.seq ?_
    refine AW.drawTail tab_ok mixed_ok 9 [] [] (by decide) (by kernel_rfl) (by kernel_rfl) (by decide) ?_
    dsimp only [List.take_succ_cons,List.take_zero]
    obtain ⟨c9,h⟩:=ck_some.1 h
    obtain ⟨c10,h⟩:=ck_some.1 h
    refine adops_cut 6 (fun K' hK8=>?_)
    try dsimp only [List.drop_succ_cons,List.drop_zero,List.take_succ_cons,List.take_zero]
    simp only [go_sem,hb6]
    repeat with_reducible refine zN ?_
    refine hK8 _ ?_
    as_aux_lemma =>
     obtain ⟨c12,h⟩:=ck_some.1 h
     obtain ⟨c13,h⟩:=ck_some.1 h
     refine adops_cut 3 (fun K' hK11=>?_)
     try dsimp only [List.drop_succ_cons,List.drop_zero,List.take_succ_cons,List.take_zero]
     simp only [go_sem,hb6]
     repeat with_reducible refine zN ?_
     refine hK11 _ ?_
     refine adops_nil ?_
     refine zT [(0,.fn (.yield lp) [] []),(2,.bp 1001 0),(3,.bp 1002 0),(5,.own 11),(6,.own 12),(7,.int .i64 st1.2.2.1),(19,.fn (.yield lp) [] []),(23,.int .i64 (st1.1.getD st1.2.2.1.toNat 0)),(27,.sl (.int .i64) (st1.2.1.getD st1.2.2.1.toNat []))] [(11,.arr 3 (.int .i64) st1.1),(12,.arr 25 (.sl (.int .i64)) st1.2.1),(1000,.box 3 [.int .i64 a1]),(1001,.box 69 [.int .i64 a2.1,.sl Y7 a2.2]),(1002,.box 81 [.fn (.func 67) [] []])] (Γ st1.2.2.2) ?_
     obtain ⟨x14,hx15,h⟩:=Option.bind_eq_some_iff.1 h
     refine yield_op rfl rfl rfl (by decide) _ rfl hY hΓ hΓx ((st1.1.getD st1.2.2.1.toNat 0),(st1.2.1.getD st1.2.2.1.toNat [])) [] (by (simp only [go_sem,hb6]) <;> (with_reducible and_intros) <;> first | assumption | rfl | omega | (unfold maxLen; omega)) hx15 ?_
     cases x14 with
     | next s =>
      try simp only at h
      refine zT [(0,.fn (.yield lp) [] []),(2,.bp 1001 0),(3,.bp 1002 0),(5,.own 11),(6,.own 12),(7,.int .i64 st1.2.2.1),(28,.bool true)] [(11,.arr 3 (.int .i64) st1.1),(12,.arr 25 (.sl (.int .i64)) st1.2.1),(1000,.box 3 [.int .i64 a1]),(1001,.box 69 [.int .i64 a2.1,.sl Y7 a2.2]),(1002,.box 81 [.fn (.func 67) [] []])] (Γ s) ?_
      refine zB [(0,.fn (.yield lp) [] []),(2,.bp 1001 0),(3,.bp 1002 0),(5,.own 11),(6,.own 12),(7,.int .i64 st1.2.2.1),(29,.bool false)] [(11,.arr 3 (.int .i64) st1.1),(12,.arr 25 (.sl (.int .i64)) st1.2.1),(1000,.box 3 [.int .i64 a1]),(1001,.box 69 [.int .i64 a2.1,.sl Y7 a2.2]),(1002,.box 81 [.fn (.func 67) [] []])] ?_
      refine AW.cond (b:=false) rfl (fun hb16=>by cases hb16) (fun _=>?_)
      refine zk ?_
      refine zo ?_
      refine zB [(0,.fn (.yield lp) [] []),(2,.bp 1001 0),(3,.bp 1002 0),(5,.own 11),(6,.own 12),(7,.int .i64 st1.2.2.1),(31,.sl Y7 a2.2),(32,.int .i64 (a2.2.length:Int)),(33,.int .i64 0)] [(11,.arr 3 (.int .i64) st1.1),(12,.arr 25 (.sl (.int .i64)) st1.2.1),(1000,.box 3 [.int .i64 a1]),(1001,.box 69 [.int .i64 a2.1,.sl Y7 a2.2]),(1002,.box 81 [.fn (.func 67) [] []])] ?_
      refine AW.block ?_
      obtain ⟨rv21,hw17,ho18⟩:=Option.bind_eq_some_iff.1 h
      refine AW.loopO (progress_graph_paths_1_b2 S R a2 st1) (fun st2=>⟨fr [(0,.fn (.yield lp) [] []),(2,.bp 1001 0),(3,.bp 1002 0),(5,.own 11),(6,.own 12),(7,.int .i64 st1.2.2.1),(31,.sl Y7 a2.2),(32,.int .i64 (a2.2.length:Int)),(33,.int .i64 st2.2.2)],hpGet [(11,.arr 3 (.int .i64) st2.1),(12,.arr 25 (.sl (.int .i64)) st2.2.1),(1000,.box 3 [.int .i64 a1]),(1001,.box 69 [.int .i64 a2.1,.sl Y7 a2.2]),(1002,.box 81 [.fn (.func 67) [] []])],(Γ s)⟩) (st1.1,st1.2.1,0) hw17 (zL [] [] []) ?_
      as_aux_lemma =>
       intro st2 x20 h hd19
       unfold progress_graph_paths_1_b2 at h
       refine zo ?_
       refine zB [(0,.fn (.yield lp) [] []),(2,.bp 1001 0),(3,.bp 1002 0),(5,.own 11),(6,.own 12),(7,.int .i64 st1.2.2.1),(31,.sl Y7 a2.2),(32,.int .i64 (a2.2.length:Int)),(33,.int .i64 st2.2.2),(34,.bool (decide (st2.2.2 < (a2.2.length:Int))))] [(11,.arr 3 (.int .i64) st2.1),(12,.arr 25 (.sl (.int .i64)) st2.2.1),(1000,.box 3 [.int .i64 a1]),(1001,.box 69 [.int .i64 a2.1,.sl Y7 a2.2]),(1002,.box 81 [.fn (.func 67) [] []])] ?_
       refine AW.seq ?_
       refine zQ h (fun hb22 h=>?_) (fun hb22 h=>?_)
       ·refine zk ?_
        refine AW.seq ?_
        refine AW.block ?_
        refine zo ?_
        obtain ⟨c23,h⟩:=ck_some.1 h
        obtain ⟨c24,h⟩:=ck_some.1 h
        refine zS 5 [(0,.fn (.yield lp) [] []),(2,.bp 1001 0),(3,.bp 1002 0),(5,.own 11),(6,.own 12),(7,.int .i64 st1.2.2.1),(8,.int .i64 st2.2.2),(9,.bp 9 0),(31,.sl Y7 a2.2),(32,.int .i64 (a2.2.length:Int)),(33,.int .i64 st2.2.2),(37,.agg [.int .i64 (a2.2.getD st2.2.2.toNat (0,0,0,false)).1,.int .i64 (a2.2.getD st2.2.2.toNat (0,0,0,false)).2.1,.int .i64 (a2.2.getD st2.2.2.toNat (0,0,0,false)).2.2.1,.bool (a2.2.getD st2.2.2.toNat (0,0,0,false)).2.2.2])] [(9,.box 61 [.int .i64 0,.int .i64 0,.int .i64 0,.bool false]),(11,.arr 3 (.int .i64) st2.1),(12,.arr 25 (.sl (.int .i64)) st2.2.1),(1000,.box 3 [.int .i64 a1]),(1001,.box 69 [.int .i64 a2.1,.sl Y7 a2.2]),(1002,.box 81 [.fn (.func 67) [] []])] ?_
        refine zB [(0,.fn (.yield lp) [] []),(2,.bp 1001 0),(3,.bp 1002 0),(5,.own 11),(6,.own 12),(7,.int .i64 st1.2.2.1),(8,.int .i64 st2.2.2),(9,.bp 9 0),(31,.sl Y7 a2.2),(32,.int .i64 (a2.2.length:Int)),(33,.int .i64 st2.2.2)] [(9,.box 61 [.int .i64 (a2.2.getD st2.2.2.toNat (0,0,0,false)).1,.int .i64 (a2.2.getD st2.2.2.toNat (0,0,0,false)).2.1,.int .i64 (a2.2.getD st2.2.2.toNat (0,0,0,false)).2.2.1,.bool (a2.2.getD st2.2.2.toNat (0,0,0,false)).2.2.2]),(11,.arr 3 (.int .i64) st2.1),(12,.arr 25 (.sl (.int .i64)) st2.2.1),(1000,.box 3 [.int .i64 a1]),(1001,.box 69 [.int .i64 a2.1,.sl Y7 a2.2]),(1002,.box 81 [.fn (.func 67) [] []])] ?_
        refine AW.seq ?_
        refine AW.draw tab_ok mixed_ok [] [] (by decide) (lex_fast (by kernel_rfl)) ?_
        as_aux_lemma =>
         obtain ⟨c26,h⟩:=ck_some.1 h
         obtain ⟨c27,h⟩:=ck_some.1 h
         refine adops_cut 6 (fun K' hK25=>?_)
         try dsimp only [List.drop_succ_cons,List.drop_zero,List.take_succ_cons,List.take_zero]
         simp only [go_sem,hb6,hb22]
         repeat with_reducible refine zN ?_
         refine hK25 _ ?_
         as_aux_lemma =>
          refine adops_cut 2 (fun K' hK28=>?_)
          try dsimp only [List.drop_succ_cons,List.drop_zero,List.take_succ_cons,List.take_zero]
          simp only [go_sem,hb6,hb22]
          repeat with_reducible refine zN ?_
          refine hK28 _ ?_
          as_aux_lemma =>
           rcases zI h with ⟨hb29,h⟩ | ⟨hb29,h⟩
           ·simp only [hb29]
            as_aux_lemma =>
             refine adops_cut 2 (fun K' hK30=>?_)
             try dsimp only [List.drop_succ_cons,List.drop_zero,List.take_succ_cons,List.take_zero]
             simp only [go_sem,hb6,hb22,hb29]
             repeat with_reducible refine zN ?_
             refine hK30 _ ?_
             as_aux_lemma =>
              obtain ⟨v0,hv31,h⟩:=Option.bind_eq_some_iff.1 h
              refine adops.call (by first | trivial | rfl) rfl rfl rfl (fun _ h=>⟨fun _=>h,fun hn=>absurd rfl hn⟩) [] [] (hc_progress_anyMove (a2.2.getD st2.2.2.toNat (0,0,0,false)) hv31) rfl (by (simp only [go_sem,hb6,hb22,hb29]) <;> (with_reducible and_intros) <;> first | assumption | rfl | omega | (unfold maxLen; omega)) (by (simp only [go_sem,hb6,hb22,hb29]) <;> (with_reducible and_intros) <;> first | assumption | rfl | omega | (unfold maxLen; omega)) rfl ?_
              refine adops_cut 5 (fun K' hK32=>?_)
              try dsimp only [List.drop_succ_cons,List.drop_zero,List.take_succ_cons,List.take_zero]
              simp only [go_sem,hb6,hb22,hb29]
              repeat with_reducible refine zN ?_
              refine hK32 _ ?_
              as_aux_lemma =>
               obtain ⟨v0_2,hv33,h⟩:=Option.bind_eq_some_iff.1 h
               refine adops.call (by first | trivial | rfl) rfl rfl rfl (fun _ h=>⟨fun _=>h,fun hn=>absurd rfl hn⟩) [11] [] (hc_slices_Contains_2 st2.1 (a2.2.getD st2.2.2.toNat (0,0,0,false)).2.2.1 hv33) rfl (by (simp only [go_sem,hb6,hb22,hb29]) <;> (with_reducible and_intros) <;> first | assumption | rfl | omega | (unfold maxLen; omega)) (by (simp only [go_sem,hb6,hb22,hb29]) <;> (with_reducible and_intros) <;> first | assumption | rfl | omega | (unfold maxLen; omega)) rfl ?_
               refine adops_cut 2 (fun K' hK34=>?_)
               try dsimp only [List.drop_succ_cons,List.drop_zero,List.take_succ_cons,List.take_zero]
               simp only [go_sem,hb6,hb22,hb29]
               repeat with_reducible refine zN ?_
               refine hK34 _ ?_
               refine adops_nil ?_
               refine athen_n ?_
               refine zV [(0,.fn (.yield lp) [] []),(2,.bp 1001 0),(3,.bp 1002 0),(5,.own 11),(6,.own 12),(7,.int .i64 st1.2.2.1),(8,.int .i64 st2.2.2),(9,.bp 9 0),(31,.sl Y7 a2.2),(32,.int .i64 (a2.2.length:Int)),(33,.int .i64 st2.2.2),(56,.bool (!v0_2))] [(9,.box 61 [.int .i64 (a2.2.getD st2.2.2.toNat (0,0,0,false)).1,.int .i64 (a2.2.getD st2.2.2.toNat (0,0,0,false)).2.1,.int .i64 (a2.2.getD st2.2.2.toNat (0,0,0,false)).2.2.1,.bool (a2.2.getD st2.2.2.toNat (0,0,0,false)).2.2.2]),(11,.arr 3 (.int .i64) st2.1),(12,.arr 25 (.sl (.int .i64)) st2.2.1),(1000,.box 3 [.int .i64 a1]),(1001,.box 69 [.int .i64 a2.1,.sl Y7 a2.2]),(1002,.box 81 [.fn (.func 67) [] []])] (Γ s) ?_
               as_aux_lemma =>
                refine zQ h (fun hb35 h=>?_) (fun hb35 h=>?_)
                ·refine zo ?_
                 obtain ⟨c36,h⟩:=ck_some.1 h
                 refine zS 5 [(0,.fn (.yield lp) [] []),(2,.bp 1001 0),(3,.bp 1002 0),(6,.own 12),(7,.int .i64 st1.2.2.1),(8,.int .i64 st2.2.2),(31,.sl Y7 a2.2),(32,.int .i64 (a2.2.length:Int)),(33,.int .i64 st2.2.2),(61,.own 61)] [(12,.arr 25 (.sl (.int .i64)) st2.2.1),(61,.arr 3 (.int .i64) (st2.1 ++ [(a2.2.getD st2.2.2.toNat (0,0,0,false)).2.2.1])),(1000,.box 3 [.int .i64 a1]),(1001,.box 69 [.int .i64 a2.1,.sl Y7 a2.2]),(1002,.box 81 [.fn (.func 67) [] []])] ?_
                 refine zB [(0,.fn (.yield lp) [] []),(2,.bp 1001 0),(3,.bp 1002 0),(5,.own 61),(6,.own 12),(7,.int .i64 st1.2.2.1),(8,.int .i64 st2.2.2),(31,.sl Y7 a2.2),(32,.int .i64 (a2.2.length:Int)),(33,.int .i64 st2.2.2)] [(12,.arr 25 (.sl (.int .i64)) st2.2.1),(61,.arr 3 (.int .i64) (st2.1 ++ [(a2.2.getD st2.2.2.toNat (0,0,0,false)).2.2.1])),(1000,.box 3 [.int .i64 a1]),(1001,.box 69 [.int .i64 a2.1,.sl Y7 a2.2]),(1002,.box 81 [.fn (.func 67) [] []])] ?_
                 refine AW.ops ?_
                 obtain ⟨c37,h⟩:=ck_some.1 h
                 obtain ⟨c38,h⟩:=ck_some.1 h
                 refine zS 5 [(0,.fn (.yield lp) [] []),(2,.bp 1001 0),(3,.bp 1002 0),(5,.own 61),(7,.int .i64 st1.2.2.1),(8,.int .i64 st2.2.2),(31,.sl Y7 a2.2),(32,.int .i64 (a2.2.length:Int)),(33,.int .i64 st2.2.2),(62,.own 12),(66,.sl (.int .i64) (st2.2.1.getD st1.2.2.1.toNat []))] [(12,.arr 25 (.sl (.int .i64)) st2.2.1),(61,.arr 3 (.int .i64) (st2.1 ++ [(a2.2.getD st2.2.2.toNat (0,0,0,false)).2.2.1])),(1000,.box 3 [.int .i64 a1]),(1001,.box 69 [.int .i64 a2.1,.sl Y7 a2.2]),(1002,.box 81 [.fn (.func 67) [] []])] ?_
                 refine zS 3 [(0,.fn (.yield lp) [] []),(2,.bp 1001 0),(3,.bp 1002 0),(5,.own 61),(7,.int .i64 st1.2.2.1),(31,.sl Y7 a2.2),(32,.int .i64 (a2.2.length:Int)),(33,.int .i64 st2.2.2),(62,.own 12),(69,.own 69)] [(12,.arr 25 (.sl (.int .i64)) st2.2.1),(61,.arr 3 (.int .i64) (st2.1 ++ [(a2.2.getD st2.2.2.toNat (0,0,0,false)).2.2.1])),(69,.arr 25 (.sl (.int .i64)) [(st2.2.1.getD st1.2.2.1.toNat []),[st2.2.2]]),(1000,.box 3 [.int .i64 a1]),(1001,.box 69 [.int .i64 a2.1,.sl Y7 a2.2]),(1002,.box 81 [.fn (.func 67) [] []])] ?_
                 obtain ⟨v0_3,hv39,h⟩:=Option.bind_eq_some_iff.1 h
                 refine zC [69] [] (hc_slices_Concat [(st2.2.1.getD st1.2.2.1.toNat []),[st2.2.2]] hv39) [(0,.fn (.yield lp) [] []),(2,.bp 1001 0),(3,.bp 1002 0),(5,.own 61),(7,.int .i64 st1.2.2.1),(31,.sl Y7 a2.2),(32,.int .i64 (a2.2.length:Int)),(33,.int .i64 st2.2.2),(62,.own 12),(70,.own 80000)] [(12,.arr 25 (.sl (.int .i64)) st2.2.1),(61,.arr 3 (.int .i64) (st2.1 ++ [(a2.2.getD st2.2.2.toNat (0,0,0,false)).2.2.1])),(1000,.box 3 [.int .i64 a1]),(1001,.box 69 [.int .i64 a2.1,.sl Y7 a2.2]),(1002,.box 81 [.fn (.func 67) [] []]),(80000,.arr 3 (.int .i64) v0_3)] ?_
                 obtain ⟨c40,h⟩:=ck_some.1 h
                 refine zA [(0,.fn (.yield lp) [] []),(2,.bp 1001 0),(3,.bp 1002 0),(5,.own 61),(6,.own 72),(7,.int .i64 st1.2.2.1),(31,.sl Y7 a2.2),(32,.int .i64 (a2.2.length:Int)),(33,.int .i64 st2.2.2)] [(61,.arr 3 (.int .i64) (st2.1 ++ [(a2.2.getD st2.2.2.toNat (0,0,0,false)).2.2.1])),(72,.arr 25 (.sl (.int .i64)) (st2.2.1 ++ [v0_3])),(1000,.box 3 [.int .i64 a1]),(1001,.box 69 [.int .i64 a2.1,.sl Y7 a2.2]),(1002,.box 81 [.fn (.func 67) [] []])] ?_
                 refine ablock_n ?_
                 refine athen_n ?_
                 refine AW.ops ?_
                 obtain ⟨c41,h⟩:=ck_some.1 h
                 refine zA [(0,.fn (.yield lp) [] []),(2,.bp 1001 0),(3,.bp 1002 0),(5,.own 61),(6,.own 72),(7,.int .i64 st1.2.2.1),(31,.sl Y7 a2.2),(32,.int .i64 (a2.2.length:Int)),(33,.int .i64 (st2.2.2 + 1))] [(61,.arr 3 (.int .i64) (st2.1 ++ [(a2.2.getD st2.2.2.toNat (0,0,0,false)).2.2.1])),(72,.arr 25 (.sl (.int .i64)) (st2.2.1 ++ [v0_3])),(1000,.box 3 [.int .i64 a1]),(1001,.box 69 [.int .i64 a2.1,.sl Y7 a2.2]),(1002,.box 81 [.fn (.func 67) [] []])] ?_
                 obtain rfl:=Option.some.inj h
                 exact ⟨_,rfl,zL [] [] [(11,61),(12,72)]⟩
                ·refine zm ?_
                 refine athen_n ?_
                 refine AW.ops ?_
                 obtain ⟨c42,h⟩:=ck_some.1 h
                 refine zA [(0,.fn (.yield lp) [] []),(2,.bp 1001 0),(3,.bp 1002 0),(5,.own 11),(6,.own 12),(7,.int .i64 st1.2.2.1),(31,.sl Y7 a2.2),(32,.int .i64 (a2.2.length:Int)),(33,.int .i64 (st2.2.2 + 1))] [(11,.arr 3 (.int .i64) st2.1),(12,.arr 25 (.sl (.int .i64)) st2.2.1),(1000,.box 3 [.int .i64 a1]),(1001,.box 69 [.int .i64 a2.1,.sl Y7 a2.2]),(1002,.box 81 [.fn (.func 67) [] []])] ?_
                 obtain rfl:=Option.some.inj h
                 exact ⟨_,rfl,zL [] [] []⟩
           ·simp only [hb29]
            as_aux_lemma =>
             refine adops_cut 6 (fun K' hK43=>?_)
             try dsimp only [List.drop_succ_cons,List.drop_zero,List.take_succ_cons,List.take_zero]
             simp only [go_sem,hb6,hb22,hb29]
             repeat with_reducible refine zN ?_
             refine hK43 _ ?_
             as_aux_lemma =>
              refine adops_cut 4 (fun K' hK44=>?_)
              try dsimp only [List.drop_succ_cons,List.drop_zero,List.take_succ_cons,List.take_zero]
              simp only [go_sem,hb6,hb22,hb29]
              repeat with_reducible refine zN ?_
              refine hK44 _ ?_
              as_aux_lemma =>
               refine adops_cut 1 (fun K' hK45=>?_)
               try dsimp only [List.drop_succ_cons,List.drop_zero,List.take_succ_cons,List.take_zero]
               simp only [go_sem,hb6,hb22,hb29]
               repeat with_reducible refine zN ?_
               refine hK45 _ ?_
               refine adops_nil ?_
               refine athen_n ?_
               refine zV [(0,.fn (.yield lp) [] []),(2,.bp 1001 0),(3,.bp 1002 0),(5,.own 11),(6,.own 12),(7,.int .i64 st1.2.2.1),(8,.int .i64 st2.2.2),(9,.bp 9 0),(31,.sl Y7 a2.2),(32,.int .i64 (a2.2.length:Int)),(33,.int .i64 st2.2.2),(56,.bool false)] [(9,.box 61 [.int .i64 (a2.2.getD st2.2.2.toNat (0,0,0,false)).1,.int .i64 (a2.2.getD st2.2.2.toNat (0,0,0,false)).2.1,.int .i64 (a2.2.getD st2.2.2.toNat (0,0,0,false)).2.2.1,.bool (a2.2.getD st2.2.2.toNat (0,0,0,false)).2.2.2]),(11,.arr 3 (.int .i64) st2.1),(12,.arr 25 (.sl (.int .i64)) st2.2.1),(1000,.box 3 [.int .i64 a1]),(1001,.box 69 [.int .i64 a2.1,.sl Y7 a2.2]),(1002,.box 81 [.fn (.func 67) [] []])] (Γ s) ?_
               as_aux_lemma =>
                refine AW.cond (b:=false) rfl (fun hb46=>by cases hb46) (fun _=>?_)
                refine zm ?_
                refine athen_n ?_
                refine AW.ops ?_
                obtain ⟨c47,h⟩:=ck_some.1 h
                refine zA [(0,.fn (.yield lp) [] []),(2,.bp 1001 0),(3,.bp 1002 0),(5,.own 11),(6,.own 12),(7,.int .i64 st1.2.2.1),(31,.sl Y7 a2.2),(32,.int .i64 (a2.2.length:Int)),(33,.int .i64 (st2.2.2 + 1))] [(11,.arr 3 (.int .i64) st2.1),(12,.arr 25 (.sl (.int .i64)) st2.2.1),(1000,.box 3 [.int .i64 a1]),(1001,.box 69 [.int .i64 a2.1,.sl Y7 a2.2]),(1002,.box 81 [.fn (.func 67) [] []])] ?_
                obtain rfl:=Option.some.inj h
                exact ⟨_,rfl,zL [] [] []⟩
       ·refine AW.exit ?_
        refine athen_e ?_
        obtain rfl:=Option.some.inj h
        rw [← hd19 _ rfl] at ho18
        have h:=ho18
        refine athen_e ?_
        refine ablock_s ?_
        refine ablock_n ?_
        refine athen_n ?_
        exact AW.weaken (zL [] [] []) (hk_progress_graph_paths_1_k1 _ h)
     | done e =>
      try simp only at h
      refine zT [(0,.fn (.yield lp) [] []),(2,.bp 1001 0),(3,.bp 1002 0),(5,.own 11),(6,.own 12),(7,.int .i64 st1.2.2.1),(28,.bool false)] [(11,.arr 3 (.int .i64) st1.1),(12,.arr 25 (.sl (.int .i64)) st1.2.1),(1000,.box 3 [.int .i64 a1]),(1001,.box 69 [.int .i64 a2.1,.sl Y7 a2.2]),(1002,.box 81 [.fn (.func 67) [] []])] (Γx e) ?_
      refine zB [(0,.fn (.yield lp) [] []),(2,.bp 1001 0),(3,.bp 1002 0),(5,.own 11),(6,.own 12),(7,.int .i64 st1.2.2.1),(29,.bool true)] [(11,.arr 3 (.int .i64) st1.1),(12,.arr 25 (.sl (.int .i64)) st1.2.1),(1000,.box 3 [.int .i64 a1]),(1001,.box 69 [.int .i64 a2.1,.sl Y7 a2.2]),(1002,.box 81 [.fn (.func 67) [] []])] ?_
      refine AW.cond (b:=true) rfl (fun _=>?_) (fun hb48=>by cases hb48)
      refine zr ?_
      refine ablock_r ?_
      refine athen_r ?_
      obtain rfl:=Option.some.inj h
      rw [← hd3 _ rfl] at ho2
      have h:=ho2
      try simp only at h
      refine athen_r ?_
      refine ablock_r ?_
      obtain rfl:=Option.some.inj h
      exact rfl
  ·refine AW.exit ?_
   refine athen_e ?_
   obtain rfl:=Option.some.inj h
   rw [← hd3 _ rfl] at ho2
   have h:=ho2
   try simp only at h
   refine athen_e ?_
   refine ablock_s ?_
   obtain rfl:=Option.some.inj h
   exact rfl
theorem hc_cmp_isNaN (x0:Int) {r:Unit} (h:cmp_isNaN x0=some r):HC Try.prog 130 [] [.int .i64 x0] [] (.bool false):=by
 unfold cmp_isNaN at h
 refine zH Try.func130 [.tmp 2] 6 ?_
 refine zo ?_
 refine zB [(0,.int .i64 x0)] [] ?_
 refine zo ?_
 refine zB [(2,.bool false)] [] ?_
 refine AW.ret ?_
 obtain rfl:=Option.some.inj h
 exact zR [] [] []
theorem hc_cmp_Less (x0:Int) (y:Int) {r:Unit} (h:cmp_Less x0 y=some r):HC Try.prog 120 [] [.int .i64 x0,.int .i64 y] [] (.bool (decide (x0 < y))):=by
 unfold cmp_Less at h
 refine zH Try.func120 [.tmp 4] 17 ?_
 refine zo ?_
 refine zB [(0,.int .i64 x0),(1,.int .i64 y)] [] ?_
 refine zo ?_
 refine zS 1 [(0,.int .i64 x0),(1,.int .i64 y),(5,.int .i64 x0)] [] ?_
 obtain ⟨v0,hv1,h⟩:=Option.bind_eq_some_iff.1 h
 refine zC [] [] (hc_cmp_isNaN x0 hv1) [(0,.int .i64 x0),(1,.int .i64 y),(6,.bool false)] [] ?_
 refine zS 5 [(0,.int .i64 x0),(1,.int .i64 y),(11,.bool false)] [] ?_
 refine zS 5 [(16,.bool (decide (x0 < y)))] [] ?_
 refine zB [(4,.bool (decide (x0 < y)))] [] ?_
 refine AW.ret ?_
 obtain rfl:=Option.some.inj h
 exact zR [] [] []
theorem hc_slices_insertionSortOrdered (a:Int) (b:Int) (data:List Int) {r:(List Int)} (h:slices_insertionSortOrdered a b data=some r):HC Try.prog 114 [(1000,.arr 3 (.int .i64) data)] [.own 1000,.int .i64 a,.int .i64 b] [(1000,.arr 3 (.int .i64) r)] (.tup []):=by
 unfold slices_insertionSortOrdered at h
 refine zH Try.func114 [] 49 ?_
 refine zo ?_
 obtain ⟨c1,h⟩:=ck_some.1 h
 refine zB [(0,.own 1000),(1,.int .i64 a),(2,.int .i64 b),(6,.int .i64 (a + 1))] [(1000,.arr 3 (.int .i64) data)] ?_
 refine AW.block ?_
 obtain ⟨rv6,hw2,ho3⟩:=Option.bind_eq_some_iff.1 h
 refine AW.loopO (slices_insertionSortOrdered_b1 a b) (fun st1=>⟨fr [(0,.own 1000),(1,.int .i64 a),(2,.int .i64 b),(6,.int .i64 st1.2)],hpGet [(1000,.arr 3 (.int .i64) st1.1)],gt⟩) (data,(a + 1)) hw2 (zL [] [] []) ?_
 as_aux_lemma =>
  intro st1 x5 h hd4
  unfold slices_insertionSortOrdered_b1 at h
  refine AW.seq ?_
  refine zo ?_
  refine zB [(0,.own 1000),(1,.int .i64 a),(2,.int .i64 b),(6,.int .i64 st1.2),(12,.bool (decide (st1.2 < b)))] [(1000,.arr 3 (.int .i64) st1.1)] ?_
  refine zQ h (fun hb7 h=>?_) (fun hb7 h=>?_)
  ·refine zk ?_
   refine AW.have1 (fun b1:(List Int)=>slices_insertionSortOrdered_k1 st1 b1=some x5) (fun b1=>⟨fr [(0,.own 1000),(1,.int .i64 a),(2,.int .i64 b),(6,.int .i64 st1.2)],hpGet [(1000,.arr 3 (.int .i64) b1)],gt⟩) (fun b1 h=>?_) (fun hk_slices_insertionSortOrdered_k1=>?_)
   ·as_aux_lemma =>
     unfold slices_insertionSortOrdered_k1 at h
     refine AW.ops ?_
     obtain ⟨c8,h⟩:=ck_some.1 h
     refine zA [(0,.own 1000),(1,.int .i64 a),(2,.int .i64 b),(6,.int .i64 (st1.2 + 1))] [(1000,.arr 3 (.int .i64) b1)] ?_
     obtain rfl:=Option.some.inj h
     exact ⟨_,rfl,zL [] [] []⟩
   ·refine AW.seq ?_
    refine AW.block ?_
    refine zo ?_
    refine zB [(0,.own 1000),(1,.int .i64 a),(2,.int .i64 b),(6,.int .i64 st1.2),(7,.int .i64 st1.2)] [(1000,.arr 3 (.int .i64) st1.1)] ?_
    refine AW.block ?_
    obtain ⟨rv13,hw9,ho10⟩:=Option.bind_eq_some_iff.1 h
    refine AW.loopO (slices_insertionSortOrdered_b2 a) (fun st2=>⟨fr [(0,.own 1000),(1,.int .i64 a),(2,.int .i64 b),(6,.int .i64 st1.2),(7,.int .i64 st2.2)],hpGet [(1000,.arr 3 (.int .i64) st2.1)],gt⟩) st1 hw9 (zL [] [] []) ?_
    as_aux_lemma =>
     intro st2 x12 h hd11
     unfold slices_insertionSortOrdered_b2 at h
     refine AW.seq ?_
     refine AW.seq ?_
     refine AW.draw tab_ok mixed_ok [] [] (by decide) (lex_fast (by kernel_rfl)) ?_
     as_aux_lemma =>
      refine adops_cut 4 (fun K' hK14=>?_)
      try dsimp only [List.drop_succ_cons,List.drop_zero,List.take_succ_cons,List.take_zero]
      simp only [go_sem,hb7]
      repeat with_reducible refine zN ?_
      refine hK14 _ ?_
      as_aux_lemma =>
       rcases zI h with ⟨hb15,h⟩ | ⟨hb15,h⟩
       ·simp only [hb15]
        as_aux_lemma =>
         obtain ⟨c17,h⟩:=ck_some.1 h
         obtain ⟨c18,h⟩:=ck_some.1 h
         refine adops_cut 6 (fun K' hK16=>?_)
         try dsimp only [List.drop_succ_cons,List.drop_zero,List.take_succ_cons,List.take_zero]
         simp only [go_sem,hb7,hb15]
         repeat with_reducible refine zN ?_
         refine hK16 _ ?_
         as_aux_lemma =>
          obtain ⟨c20,h⟩:=ck_some.1 h
          obtain ⟨c21,h⟩:=ck_some.1 h
          obtain ⟨c22,h⟩:=ck_some.1 h
          refine adops_cut 3 (fun K' hK19=>?_)
          try dsimp only [List.drop_succ_cons,List.drop_zero,List.take_succ_cons,List.take_zero]
          simp only [go_sem,hb7,hb15]
          repeat with_reducible refine zN ?_
          refine hK19 _ ?_
          as_aux_lemma =>
           obtain ⟨v0,hv23,h⟩:=Option.bind_eq_some_iff.1 h
           refine adops.call (by first | trivial | rfl) rfl rfl rfl (fun _ h=>⟨fun _=>h,fun hn=>absurd rfl hn⟩) [] [] (hc_cmp_Less (st2.1.getD st2.2.toNat 0) (st2.1.getD (st2.2 - 1).toNat 0) hv23) rfl (by (simp only [go_sem,hb7,hb15]) <;> (with_reducible and_intros) <;> first | assumption | rfl | omega | (unfold maxLen; omega)) (by (simp only [go_sem,hb7,hb15]) <;> (with_reducible and_intros) <;> first | assumption | rfl | omega | (unfold maxLen; omega)) rfl ?_
           refine adops_cut 1 (fun K' hK24=>?_)
           try dsimp only [List.drop_succ_cons,List.drop_zero,List.take_succ_cons,List.take_zero]
           simp only [go_sem,hb7,hb15]
           repeat with_reducible refine zN ?_
           refine hK24 _ ?_
           refine adops_nil ?_
           refine athen_n ?_
           refine zV [(0,.own 1000),(1,.int .i64 a),(2,.int .i64 b),(6,.int .i64 st1.2),(7,.int .i64 st2.2),(30,.bool (decide ((st2.1.getD st2.2.toNat 0) < (st2.1.getD (st2.2 - 1).toNat 0))))] [(1000,.arr 3 (.int .i64) st2.1)] gt ?_
           as_aux_lemma =>
            refine zQ h (fun hb25 h=>?_) (fun hb25 h=>?_)
            ·refine zk ?_
             refine AW.seq ?_
             refine AW.block ?_
             refine AW.draw tab_ok mixed_ok [(15,[1000]),(17,[1000])] [(2,[1000]),(3,[]),(4,[]),(100015,[]),(100017,[])] (by decide) (lex_fast (by kernel_rfl)) ?_
             as_aux_lemma =>
              obtain ⟨c27,h⟩:=ck_some.1 h
              refine adops_cut 6 (fun K' hK26=>?_)
              try dsimp only [List.drop_succ_cons,List.drop_zero,List.take_succ_cons,List.take_zero]
              simp only [go_sem,hb7,hb15,hb25]
              repeat with_reducible refine zN ?_
              refine hK26 _ ?_
              as_aux_lemma =>
               obtain ⟨c29,h⟩:=ck_some.1 h
               obtain ⟨c30,h⟩:=ck_some.1 h
               obtain ⟨c31,h⟩:=ck_some.1 h
               refine adops_cut 6 (fun K' hK28=>?_)
               try dsimp only [List.drop_succ_cons,List.drop_zero,List.take_succ_cons,List.take_zero]
               simp only [go_sem,hb7,hb15,hb25]
               repeat with_reducible refine zN ?_
               refine hK28 _ ?_
               as_aux_lemma =>
                obtain ⟨c33,h⟩:=ck_some.1 h
                obtain ⟨c34,h⟩:=ck_some.1 h
                obtain ⟨c35,h⟩:=ck_some.1 h
                obtain ⟨c36,h⟩:=ck_some.1 h
                obtain ⟨c37,h⟩:=ck_some.1 h
                obtain ⟨c38,h⟩:=ck_some.1 h
                refine adops_cut 6 (fun K' hK32=>?_)
                try dsimp only [List.drop_succ_cons,List.drop_zero,List.take_succ_cons,List.take_zero]
                simp only [go_sem,hb7,hb15,hb25]
                repeat with_reducible refine zN ?_
                refine hK32 _ ?_
                refine adops_nil ?_
                refine ablock_n ?_
                refine athen_n ?_
                refine zV [(0,.own 1000),(1,.int .i64 a),(2,.int .i64 b),(6,.int .i64 st1.2),(7,.int .i64 st2.2)] [(1000,.arr 3 (.int .i64) ((st2.1.set st2.2.toNat (st2.1.getD (st2.2 - 1).toNat 0)).set (st2.2 - 1).toNat (st2.1.getD st2.2.toNat 0)))] gt ?_
                as_aux_lemma =>
                 refine AW.ops ?_
                 obtain ⟨c39,h⟩:=ck_some.1 h
                 refine zA [(0,.own 1000),(1,.int .i64 a),(2,.int .i64 b),(6,.int .i64 st1.2),(7,.int .i64 (st2.2 - 1))] [(1000,.arr 3 (.int .i64) ((st2.1.set st2.2.toNat (st2.1.getD (st2.2 - 1).toNat 0)).set (st2.2 - 1).toNat (st2.1.getD st2.2.toNat 0)))] ?_
                 obtain rfl:=Option.some.inj h
                 exact ⟨_,rfl,zL [] [] []⟩
            ·refine AW.exit ?_
             refine athen_e ?_
             obtain rfl:=Option.some.inj h
             rw [← hd11 _ rfl] at ho10
             have h:=ho10
             refine athen_e ?_
             refine ablock_s ?_
             refine ablock_n ?_
             refine athen_n ?_
             exact AW.weaken (zL [] [] []) (hk_slices_insertionSortOrdered_k1 _ h)
       ·simp only [hb15]
        as_aux_lemma =>
         refine adops_cut 4 (fun K' hK40=>?_)
         try dsimp only [List.drop_succ_cons,List.drop_zero,List.take_succ_cons,List.take_zero]
         simp only [go_sem,hb7,hb15]
         repeat with_reducible refine zN ?_
         refine hK40 _ ?_
         as_aux_lemma =>
          refine adops_cut 4 (fun K' hK41=>?_)
          try dsimp only [List.drop_succ_cons,List.drop_zero,List.take_succ_cons,List.take_zero]
          simp only [go_sem,hb7,hb15]
          repeat with_reducible refine zN ?_
          refine hK41 _ ?_
          as_aux_lemma =>
           refine adops_cut 3 (fun K' hK42=>?_)
           try dsimp only [List.drop_succ_cons,List.drop_zero,List.take_succ_cons,List.take_zero]
           simp only [go_sem,hb7,hb15]
           repeat with_reducible refine zN ?_
           refine hK42 _ ?_
           refine adops_nil ?_
           refine athen_n ?_
           refine zV [(0,.own 1000),(1,.int .i64 a),(2,.int .i64 b),(6,.int .i64 st1.2),(7,.int .i64 st2.2),(30,.bool false)] [(1000,.arr 3 (.int .i64) st2.1)] gt ?_
           as_aux_lemma =>
            refine AW.cond (b:=false) rfl (fun hb43=>by cases hb43) (fun _=>?_)
            refine AW.exit ?_
            refine athen_e ?_
            obtain rfl:=Option.some.inj h
            rw [← hd11 _ rfl] at ho10
            have h:=ho10
            refine athen_e ?_
            refine ablock_s ?_
            refine ablock_n ?_
            refine athen_n ?_
            exact AW.weaken (zL [] [] []) (hk_slices_insertionSortOrdered_k1 _ h)
  ·refine AW.exit ?_
   refine athen_e ?_
   obtain rfl:=Option.some.inj h
   rw [← hd4 _ rfl] at ho3
   have h:=ho3
   refine athen_e ?_
   refine ablock_s ?_
   obtain rfl:=Option.some.inj h
   exact zR [] [] []
theorem hc_slices_pdqsortOrdered (a:Int) (b:Int) (limit:Int) (data:List Int) {r:(List Int)} (h:slices_pdqsortOrdered a b limit data=some r):HC Try.prog 110 [(1000,.arr 3 (.int .i64) data)] [.own 1000,.int .i64 a,.int .i64 b,.int .i64 limit] [(1000,.arr 3 (.int .i64) r)] (.tup []):=by
 unfold slices_pdqsortOrdered at h
 refine zH Try.func110 [] 134 ?_
 refine zo ?_
 refine zB [(0,.own 1000),(1,.int .i64 a),(2,.int .i64 b),(3,.int .i64 limit),(8,.bool true)] [(1000,.arr 3 (.int .i64) data)] ?_
 refine zo ?_
 refine zB [(0,.own 1000),(1,.int .i64 a),(2,.int .i64 b),(3,.int .i64 limit),(8,.bool true),(9,.bool true)] [(1000,.arr 3 (.int .i64) data)] ?_
 refine AW.block ?_
 obtain ⟨rv5,hw1,ho2⟩:=Option.bind_eq_some_iff.1 h
 refine AW.loopO (slices_pdqsortOrdered_b1 a b limit data) (fun st1=>⟨fr [(0,.own 1000),(1,.int .i64 a),(2,.int .i64 b),(3,.int .i64 limit),(8,.bool true),(9,.bool true)],hpGet [(1000,.arr 3 (.int .i64) data)],gt⟩) () hw1 (zL [] [] []) ?_
 as_aux_lemma =>
  intro st1 x4 h hd3
  unfold slices_pdqsortOrdered_b1 at h
  refine AW.block ?_
  refine zo ?_
  obtain ⟨c6,h⟩:=ck_some.1 h
  refine zB [(0,.own 1000),(1,.int .i64 a),(2,.int .i64 b),(3,.int .i64 limit),(8,.bool true),(9,.bool true),(10,.int .i64 (b - a))] [(1000,.arr 3 (.int .i64) data)] ?_
  refine AW.seq ?_
  refine zo ?_
  refine zB [(0,.own 1000),(1,.int .i64 a),(2,.int .i64 b),(3,.int .i64 limit),(8,.bool true),(9,.bool true),(10,.int .i64 (b - a)),(23,.bool (decide ((b - a)≤12)))] [(1000,.arr 3 (.int .i64) data)] ?_
  refine zQ h (fun hb7 h=>?_) (fun hb7 h=>?_)
  ·refine zo ?_
   refine zS 3 [(24,.own 1000),(25,.int .i64 a),(26,.int .i64 b)] [(1000,.arr 3 (.int .i64) data)] ?_
   obtain ⟨v0,hv8,h⟩:=Option.bind_eq_some_iff.1 h
   refine zC [] [(1000,1000)] (hc_slices_insertionSortOrdered a b data hv8) [] [(1000,.arr 3 (.int .i64) v0)] ?_
   refine zB [] [(1000,.arr 3 (.int .i64) v0)] ?_
   refine zr ?_
   refine ablock_r ?_
   obtain rfl:=Option.some.inj h
   rw [← hd3 _ rfl] at ho2
   have h:=ho2
   refine athen_r ?_
   refine ablock_r ?_
   obtain rfl:=Option.some.inj h
   exact zR [] [] []
  ·refine zk ?_
   refine AW.seq ?_
   refine zo ?_
   refine zB [(0,.own 1000),(1,.int .i64 a),(2,.int .i64 b),(3,.int .i64 limit),(8,.bool true),(9,.bool true),(10,.int .i64 (b - a)),(29,.bool (decide (limit=0)))] [(1000,.arr 3 (.int .i64) data)] ?_
   refine zQ h (fun hb9 h=>?_) (fun hb9 h=>?_)
   ·refine zo ?_
    cases h
   ·refine zk ?_
    refine AW.seq ?_
    refine zo ?_
    refine zB [(0,.own 1000),(1,.int .i64 a),(2,.int .i64 b),(3,.int .i64 limit),(8,.bool true),(9,.bool true),(10,.int .i64 (b - a)),(35,.bool false)] [(1000,.arr 3 (.int .i64) data)] ?_
    refine AW.cond (b:=false) rfl (fun hb10=>by cases hb10) (fun _=>?_)
    refine zk ?_
    refine zo ?_
    cases h
theorem hc_slices_Sort (x0:List Int) {r:(List Int)} (h:slices_Sort x0=some r):HC Try.prog 90 [(1000,.arr 3 (.int .i64) x0)] [.own 1000] [(1000,.arr 3 (.int .i64) r)] (.tup []):=by
 unfold slices_Sort at h
 refine zH Try.func90 [] 11 ?_
 refine zo ?_
 refine zB [(0,.own 1000),(2,.int .i64 (x0.length:Int))] [(1000,.arr 3 (.int .i64) x0)] ?_
 refine AW.ops ?_
 obtain ⟨c1,h⟩:=ck_some.1 h
 refine zS 4 [(5,.own 1000),(6,.int .i64 (x0.length:Int)),(8,.int .u64 (x0.length:Int))] [(1000,.arr 3 (.int .i64) x0)] ?_
 obtain ⟨v0,hv2,h⟩:=Option.bind_eq_some_iff.1 h
 refine zC [] [] (hc_math_bits_Len (x0.length:Int) hv2) [(5,.own 1000),(6,.int .i64 (x0.length:Int)),(9,.int .i64 v0)] [(1000,.arr 3 (.int .i64) x0)] ?_
 obtain ⟨v0_2,hv3,h⟩:=Option.bind_eq_some_iff.1 h
 refine zC [] [(1000,1000)] (hc_slices_pdqsortOrdered 0 (x0.length:Int) v0 x0 hv3) [] [(1000,.arr 3 (.int .i64) v0_2)] ?_
 refine zA [] [(1000,.arr 3 (.int .i64) v0_2)] ?_
 obtain rfl:=Option.some.inj h
 exact zR [] [] []
theorem hc_progress_graph_reached (g:Int×(List (Int×Int×Int×Bool))) {r:(List Int)} (h:progress_graph_reached g=some r):HC Try.prog 64 [] [.agg [.int .i64 g.1,.sl Y7 g.2]] [(2000,.arr 3 (.int .i64) r)] (.own 2000):=by
 unfold progress_graph_reached at h
 refine zH Try.func64 [.tmp 2] 16 ?_
 refine zo ?_
 refine zB [(1,.bp 1 0)] [(1,.box 69 [.int .i64 g.1,.sl Y7 g.2])] ?_
 refine zo ?_
 refine zB [(1,.bp 1 0),(3,.bp 3 0)] [(1,.box 69 [.int .i64 g.1,.sl Y7 g.2]),(3,.box 25 [.cv (.slice none 0 0)])] ?_
 refine AW.have1 (fun b1:(List Int)=>progress_graph_reached_k1 b1=some r) (fun b1=>⟨fr [(3,.bp 3 0)],hpGet [(3,.box 25 [.own 12]),(12,.arr 3 (.int .i64) b1)],gt⟩) (fun b1 h=>?_) (fun hk_progress_graph_reached_k1=>?_)
 ·as_aux_lemma =>
   unfold progress_graph_reached_k1 at h
   refine zo ?_
   refine zS 1 [(3,.bp 3 0),(13,.own 12)] [(3,.box 25 [.own 12]),(12,.arr 3 (.int .i64) b1)] ?_
   obtain ⟨v0_2,hv1,h⟩:=Option.bind_eq_some_iff.1 h
   refine zC [] [(1000,12)] (hc_slices_Sort b1 hv1) [(3,.bp 3 0)] [(3,.box 25 [.own 12]),(12,.arr 3 (.int .i64) v0_2)] ?_
   refine zB [(3,.bp 3 0)] [(3,.box 25 [.own 12]),(12,.arr 3 (.int .i64) v0_2)] ?_
   refine zo ?_
   refine zB [(2,.own 12)] [(12,.arr 3 (.int .i64) v0_2)] ?_
   refine AW.ret ?_
   obtain rfl:=Option.some.inj h
   exact zR [] [] [(2000,12)]
 ·refine AW.seq ?_
  refine zo ?_
  refine zS 1 [(3,.bp 3 0),(5,.agg [.int .i64 g.1,.sl Y7 g.2])] [(3,.box 25 [.cv (.slice none 0 0)])] ?_
  obtain ⟨v0,hv2,h⟩:=Option.bind_eq_some_iff.1 h
  refine zC [] [] (hc_progress_graph_paths g 0 hv2) [(3,.bp 3 0),(6,.fn (.func 108) [] [.bp 16000 0,.bp 16001 0,.bp 16002 0])] [(3,.box 25 [.cv (.slice none 0 0)]),(16000,.box 3 [.int .i64 0]),(16001,.box 69 [.int .i64 g.1,.sl Y7 g.2]),(16002,.box 81 [.fn (.func 67) [] []])] ?_
  refine zB [(3,.bp 3 0),(6,.fn (.func 108) [] [.bp 16000 0,.bp 16001 0,.bp 16002 0])] [(3,.box 25 [.cv (.slice none 0 0)]),(16000,.box 3 [.int .i64 0]),(16001,.box 69 [.int .i64 g.1,.sl Y7 g.2]),(16002,.box 81 [.fn (.func 67) [] []])] ?_
  refine AW.block ?_
  obtain ⟨x3,hx4,h⟩:=Option.bind_eq_some_iff.1 h
  refine AW.weaken (s':=⟨fr [(3,.bp 3 0),(6,.fn (.func 108) [] [.bp 16000 0,.bp 16001 0,.bp 16002 0])],hpGet ([(16000,.box 3 [.int .i64 0]),(16001,.box 69 [.int .i64 g.1,.sl Y7 g.2]),(16002,.box 81 [.fn (.func 67) [] []])] ++ [(3,.box 25 [.own 12]),(12,.arr 3 (.int .i64) [])]),gt⟩) (zL [] [12] []) ?_
  refine AW.rangeF (R:=Empty) (l0:=[(3,.bp 3 0)]) (hI:=[(16000,.box 3 [.int .i64 0]),(16001,.box 69 [.int .i64 g.1,.sl Y7 g.2]),(16002,.box 81 [.fn (.func 67) [] []])]) (h0:=fun (st1:(List Int))=>[(3,.box 25 [.own 12]),(12,.arr 3 (.int .i64) st1)]) (gg:=fun (st1:(List Int))=>gt) (hx0:=(fun (r:Empty)=>r.elim)) (gx:=(fun (r:Empty)=>r.elim)) (ex:=(fun (r:Empty)=>r.elim)) [] [(16000,1000),(16001,1001),(16002,1002)] [(1000,16000),(1001,16001),(1002,16002)] [(3,1900)] [(1900,3)] (by decide) rfl (by first | exact (ic_progress_graph_paths_1 0 g (progress_graph_reached_y1) [] hx4) | simpa only [go_sem] using (ic_progress_graph_paths_1 0 g (progress_graph_reached_y1) [] hx4)) (by (simp only [go_sem]) <;> (with_reducible and_intros) <;> first | assumption | rfl | omega | (unfold maxLen; omega)) rfl rfl rfl (fun _=>rfl) rfl (fun r=>r.elim) rfl (fun r=>r.elim) (fun r=>r.elim) (fun _=>rfl) (fun _=>rfl) rfl (fun _ _=>by first | rfl | (exact (hΓ _).trans (hΓ _).symm) | (exact (hΓx _).trans (hΓ _).symm)) (fun _ r=>r.elim) ?_ ?_
  ·intro lpy1 y1 st1 x5 h
   unfold progress_graph_reached_y1 at h
   refine zV [(3,.bp 1900 0),(7,.int .i64 y1.1),(8,.sl (.int .i64) y1.2)] [(12,.arr 3 (.int .i64) st1),(1900,.box 25 [.own 12])] gt ?_
   refine AW.ops ?_
   refine zA [(3,.bp 1900 0),(4,.int .i64 y1.1)] [(12,.arr 3 (.int .i64) st1),(1900,.box 25 [.own 12])] ?_
   refine And.intro rfl ?_
   refine AW.block ?_
   refine AW.ops ?_
   obtain ⟨c6,h⟩:=ck_some.1 h
   refine zA [(3,.bp 1900 0)] [(12,.arr 3 (.int .i64) (st1 ++ [y1.1])),(1900,.box 25 [.own 12])] ?_
   refine ablock_n ?_
   obtain rfl:=Option.some.inj h
   exact rpost_next rfl [] [] [] rfl (by (simp only [go_sem]) <;> (with_reducible and_intros) <;> first | assumption | rfl | omega | (unfold maxLen; omega))
  ·cases x3 with
   | inl st1_2 =>
    try simp only at h
    refine ablock_n ?_
    refine athen_n ?_
    exact AW.weaken (zL [] [] []) (hk_progress_graph_reached_k1 _ h)
   | inr rx =>
    exact rx.elim
end Go.Proofs.Yteclokkdgmacpaa
