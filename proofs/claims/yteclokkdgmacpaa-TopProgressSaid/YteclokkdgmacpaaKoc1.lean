import Derived.Test.YteclokkdgmacpaaGrp
import Derived.Test.YteclokkdgmacpaaSh7
import Derived.Test.YteclokkdgmacpaaAvd
import Derived.Test.YteclokkdgmacpaaYa7
namespace Go.Proofs.Yteclokkdgmacpaa
open Go.RowKit
set_option linter.unusedSimpArgs false
set_option linter.unusedVariables false
set_option linter.constructorNameAsVariable false
set_option maxRecDepth 100000
set_option maxHeartbeats 40000000
theorem hc_progress_isBelow (number:Int) (end0:Int) {r:Bool} (h:progress_isBelow number end0=some r):HC Try.prog 59 [] [.ii number,.ii end0] [] (.bool r):=by
 unfold progress_isBelow at h
 refine zH Try.func59 [.tmp 4] 12 ?_
 refine zo ?_
 refine zB [(0,.ii number),(1,.ii end0)] [] ?_
 refine zo ?_
 refine zS 3 [(0,.ii number),(1,.ii end0),(7,.bool (decide (0≤number)))] [] ?_
 rcases zI h with ⟨hb1,h⟩|⟨hb1,h⟩
 ·refine zB [(4,.bool (decide (number<end0)))] [] ?_
  refine AW.ret ?_
  obtain rfl:=zj h
  exact zR [] [] []
 refine zB [(4,.bool false)] [] ?_
 refine AW.ret ?_
 obtain rfl:=zj h
 exact zR [] [] []
theorem hc_progress_isThread (thread:Int) {r:Bool} (h:progress_isThread thread=some r):HC Try.prog 60 [] [.ii thread] [] (.bool r):=by
 unfold progress_isThread at h
 refine zH Try.func60 [.tmp 2] 5 ?_
 refine zo ?_
 refine zB [(0,.ii thread)] [] ?_
 refine zo ?_
 refine zS 1 [(3,.ii thread)] [] ?_
 obtain ⟨v0,hv1,h⟩:=zw h
 refine zC [] [] (hc_progress_isBelow thread 3 hv1) [(4,.bool v0)] [] ?_
 refine zB [(2,.bool v0)] [] ?_
 refine AW.ret ?_
 obtain rfl:=zj h
 exact zR [] [] []
theorem hc_slices_Index (s:List (Int×Int×Int×Bool)) (v0:Int×Int×Int×Bool) {r:Int} (h:slices_Index s v0=some r):HC Try.prog 88 [] [.sl Y7 s,.agg [.ii v0.1,.ii v0.2.1,.ii v0.2.2.1,.bool v0.2.2.2]] [] (.ii r):=by
 unfold slices_Index at h
 refine zH Try.func88 [.tmp 4] 19 ?_
 refine zo ?_
 refine zB [(0,.sl Y7 s),(3,.bp 3 0)] [(3,.box 61 [.ii v0.1,.ii v0.2.1,.ii v0.2.2.1,.bool v0.2.2.2])] ?_
 refine AW.have1 (fun _:Unit=>slices_Index_k1=some r) (fun _=>⟨fr [],hpGet [],gt⟩) (fun _ h=>?_) (fun hk_slices_Index_k1=>?_)
 ·as_aux_lemma =>
   unfold slices_Index_k1 at h
   refine zo ?_
   refine zB [(4,.ii (-1))] [] ?_
   refine AW.ret ?_
   obtain rfl:=zj h
   exact zR [] [] []
 refine AW.seq ?_
 refine zo ?_
 refine zB [(0,.sl Y7 s),(3,.bp 3 0),(7,.ii (s.length:Int)),(8,.ii 0)] [(3,.box 61 [.ii v0.1,.ii v0.2.1,.ii v0.2.2.1,.bool v0.2.2.2])] ?_
 refine AW.block ?_
 obtain ⟨rv5,hw1,ho2⟩:=zw h
 refine AW.loopO (slices_Index_b1 s v0) (fun st1=>⟨fr [(0,.sl Y7 s),(3,.bp 3 0),(7,.ii (s.length:Int)),(8,.ii st1)],hpGet [(3,.box 61 [.ii v0.1,.ii v0.2.1,.ii v0.2.2.1,.bool v0.2.2.2])],gt⟩) 0 hw1 (zL [] [] []) ?_
 as_aux_lemma =>
  intro st1 x4 h hd3
  unfold slices_Index_b1 at h
  refine zo ?_
  refine zB [(0,.sl Y7 s),(3,.bp 3 0),(7,.ii (s.length:Int)),(8,.ii st1),(9,.bool (decide (st1<(s.length:Int))))] [(3,.box 61 [.ii v0.1,.ii v0.2.1,.ii v0.2.2.1,.bool v0.2.2.2])] ?_
  refine AW.seq ?_
  refine zQ h (fun hb6 h=>?_) (fun hb6 h=>?_)
  ·refine zk ?_
   refine AW.seq ?_
   refine AW.block ?_
   refine zo ?_
   refine zB [(0,.sl Y7 s),(3,.bp 3 0),(5,.ii st1),(7,.ii (s.length:Int)),(8,.ii st1)] [(3,.box 61 [.ii v0.1,.ii v0.2.1,.ii v0.2.2.1,.bool v0.2.2.2])] ?_
   refine AW.seq ?_
   refine AW.drawTail tab_ok mixed_ok 5 [] [] (by decide) (by kernel_rfl) (by kernel_rfl) (by decide) ?_
   dsimp only [List.take_succ_cons,List.take_zero]
   obtain ⟨c8,h⟩:=ck_some.1 h
   obtain ⟨c9,h⟩:=ck_some.1 h
   refine adops_cut 5 (fun K' hK7=>?_)
   try dsimp only [y1,y2,y3,y4]
   simp only [go_sem,hb6]
   repeat with_reducible refine zN ?_
   refine hK7 _ ?_
   refine adops_nil ?_
   refine zT [(0,.sl Y7 s),(3,.bp 3 0),(5,.ii st1),(7,.ii (s.length:Int)),(8,.ii st1),(11,.agg [.ii v0.1,.ii v0.2.1,.ii v0.2.2.1,.bool v0.2.2.2]),(15,.agg [.ii (s.getD st1.toNat (0,0,0,false)).1,.ii (s.getD st1.toNat (0,0,0,false)).2.1,.ii (s.getD st1.toNat (0,0,0,false)).2.2.1,.bool (s.getD st1.toNat (0,0,0,false)).2.2.2])] [(3,.box 61 [.ii v0.1,.ii v0.2.1,.ii v0.2.2.1,.bool v0.2.2.2])] gt ?_
   obtain ⟨c10,h⟩:=ck_some.1 h
   obtain ⟨c11,h⟩:=ck_some.1 h
   obtain ⟨c12,h⟩:=ck_some.1 h
   obtain ⟨c13,h⟩:=ck_some.1 h
   obtain ⟨c14,h⟩:=ck_some.1 h
   obtain ⟨c15,h⟩:=ck_some.1 h
   refine AO.aggEq (neg:=false) eqty_61 (by decide) rfl rfl (lx:=[.ii v0.1,.ii v0.2.1,.ii v0.2.2.1,.bool v0.2.2.2]) (ly:=[.ii (s.getD st1.toNat (0,0,0,false)).1,.ii (s.getD st1.toNat (0,0,0,false)).2.1,.ii (s.getD st1.toNat (0,0,0,false)).2.2.1,.bool (s.getD st1.toNat (0,0,0,false)).2.2.2]) (by first|rfl|(simp only [go_sem,hb6])<;>(with_reducible and_intros)<;>first|assumption|rfl|omega|(unfold maxLen; omega)) (by first|rfl|(simp only [go_sem,hb6])<;>(with_reducible and_intros)<;>first|assumption|rfl|omega|(unfold maxLen; omega)) (by first|rfl|(simp only [go_sem,hb6])<;>(with_reducible and_intros)<;>first|assumption|rfl|omega|(unfold maxLen; omega)) (by first|rfl|(simp only [go_sem,hb6])<;>(with_reducible and_intros)<;>first|assumption|rfl|omega|(unfold maxLen; omega)) (by first|assumption|omega|(simp only [go_sem,hb6])<;>(with_reducible and_intros)<;>first|assumption|rfl|omega|(unfold maxLen; omega)) (by first|assumption|omega|(simp only [go_sem,hb6])<;>(with_reducible and_intros)<;>first|assumption|rfl|omega|(unfold maxLen; omega)) ?_
   refine zT [(0,.sl Y7 s),(3,.bp 3 0),(5,.ii st1),(7,.ii (s.length:Int)),(8,.ii st1),(16,.bool (decide (v0=(s.getD st1.toNat (0,0,0,false)))))] [(3,.box 61 [.ii v0.1,.ii v0.2.1,.ii v0.2.2.1,.bool v0.2.2.2])] gt ?_
   refine zB [(0,.sl Y7 s),(3,.bp 3 0),(5,.ii st1),(7,.ii (s.length:Int)),(8,.ii st1),(16,.bool (decide (v0=(s.getD st1.toNat (0,0,0,false)))))] [(3,.box 61 [.ii v0.1,.ii v0.2.1,.ii v0.2.2.1,.bool v0.2.2.2])] ?_
   refine zQ h (fun hb16 h=>?_) (fun hb16 h=>?_)
   ·refine zo ?_
    refine zB [(4,.ii st1)] [] ?_
    refine AW.ret ?_
    refine ablock_r ?_
    refine athen_r ?_
    obtain rfl:=zj h
    rw [← hd3 _ rfl] at ho2
    have h:=ho2
    try simp only at h
    refine athen_r ?_
    refine ablock_r ?_
    refine athen_r ?_
    obtain rfl:=zj h
    exact zR [] [] []
   refine zm ?_
   refine athen_n ?_
   refine AW.ops ?_
   obtain ⟨c17,h⟩:=ck_some.1 h
   refine zA [(0,.sl Y7 s),(3,.bp 3 0),(7,.ii (s.length:Int)),(8,.ii (st1+1))] [(3,.box 61 [.ii v0.1,.ii v0.2.1,.ii v0.2.2.1,.bool v0.2.2.2])] ?_
   obtain rfl:=zj h
   exact ⟨_,rfl,zL [] [] []⟩
  refine AW.exit ?_
  refine athen_e ?_
  obtain rfl:=zj h
  rw [← hd3 _ rfl] at ho2
  have h:=ho2
  try simp only at h
  refine athen_e ?_
  refine ablock_s ?_
  refine athen_n ?_
  exact AW.weaken (zL [] [] []) (hk_slices_Index_k1 () h)
theorem hc_slices_Contains (s:List (Int×Int×Int×Bool)) (v0:Int×Int×Int×Bool) {r:Bool} (h:slices_Contains s v0=some r):HC Try.prog 61 [] [.sl Y7 s,.agg [.ii v0.1,.ii v0.2.1,.ii v0.2.2.1,.bool v0.2.2.2]] [] (.bool r):=by
 unfold slices_Contains at h
 refine zH Try.func61 [.tmp 4] 9 ?_
 refine zo ?_
 refine zB [(0,.sl Y7 s),(3,.bp 3 0)] [(3,.box 61 [.ii v0.1,.ii v0.2.1,.ii v0.2.2.1,.bool v0.2.2.2])] ?_
 refine zo ?_
 refine zS 2 [(5,.sl Y7 s),(6,.agg [.ii v0.1,.ii v0.2.1,.ii v0.2.2.1,.bool v0.2.2.2])] [] ?_
 obtain ⟨v0_2,hv1,h⟩:=zw h
 refine zC [] [] (hc_slices_Index s v0 hv1) [(7,.ii v0_2)] [] ?_
 refine zB [(4,.bool (decide (0≤v0_2)))] [] ?_
 refine AW.ret ?_
 obtain rfl:=zj h
 exact zR [] [] []
theorem hc_progress_Valid (g:Int×(List (Int×Int×Int×Bool))) {r:Bool} (h:progress_Valid g=some r):HC Try.prog 20 [] [.agg [.ii g.1,.sl Y7 g.2]] [] (.bool r):=by
 unfold progress_Valid at h
 refine zH Try.func20 [.tmp 2] 56 ?_
 refine zo ?_
 refine zB [(1,.bp 1 0)] [(1,.box 24 [.ii g.1,.sl Y7 g.2])] ?_
 refine AW.seq ?_
 refine zo ?_
 refine zS 4 [(1,.bp 1 0),(8,.bool (decide (g.1<1)))] [(1,.box 24 [.ii g.1,.sl Y7 g.2])] ?_
 rcases zI h with ⟨hb1,h⟩|⟨hb1,h⟩
 ·refine zS 5 [(1,.bp 1 0),(13,.bool true)] [(1,.box 24 [.ii g.1,.sl Y7 g.2])] ?_
  refine zS 4 [(1,.bp 1 0),(13,.bool true),(17,.cv (undef))] [(1,.box 24 [.ii g.1,.sl Y7 g.2])] ?_
  refine zB [(1,.bp 1 0),(18,.bool true)] [(1,.box 24 [.ii g.1,.sl Y7 g.2])] ?_
  refine AW.cond (b:=true) rfl (fun _=>?_) (fun hb2=>by cases hb2)
  refine zo ?_
  refine zB [(2,.bool false)] [] ?_
  refine zr ?_
  obtain rfl:=zj h
  exact zR [] [] []
 refine zS 5 [(1,.bp 1 0),(13,.bool (decide (8<g.1)))] [(1,.box 24 [.ii g.1,.sl Y7 g.2])] ?_
 rcases zI h with ⟨hb3,h⟩|⟨hb3,h⟩
 ·refine zS 4 [(1,.bp 1 0),(13,.bool true),(17,.cv (undef))] [(1,.box 24 [.ii g.1,.sl Y7 g.2])] ?_
  refine zB [(1,.bp 1 0),(18,.bool true)] [(1,.box 24 [.ii g.1,.sl Y7 g.2])] ?_
  refine AW.cond (b:=true) rfl (fun _=>?_) (fun hb4=>by cases hb4)
  refine zo ?_
  refine zB [(2,.bool false)] [] ?_
  refine zr ?_
  obtain rfl:=zj h
  exact zR [] [] []
 refine zB [(1,.bp 1 0),(18,.bool (decide (20<(g.2.length:Int))))] [(1,.box 24 [.ii g.1,.sl Y7 g.2])] ?_
 refine zQ h (fun hb5 h=>?_) (fun hb5 h=>?_)
 ·refine zo ?_
  refine zB [(2,.bool false)] [] ?_
  refine zr ?_
  obtain rfl:=zj h
  exact zR [] [] []
 refine zk ?_
 refine AW.have1 (fun _:Unit=>progress_Valid_k1=some r) (fun _=>⟨fr [],hpGet [],gt⟩) (fun _ h=>?_) (fun hk_progress_Valid_k1=>?_)
 ·as_aux_lemma =>
   unfold progress_Valid_k1 at h
   refine zo ?_
   refine zB [(2,.bool true)] [] ?_
   refine AW.ret ?_
   obtain rfl:=zj h
   exact zR [] [] []
 refine AW.seq ?_
 refine zo ?_
 refine zB [(1,.bp 1 0),(20,.sl Y7 g.2),(21,.ii (g.2.length:Int)),(22,.ii 0)] [(1,.box 24 [.ii g.1,.sl Y7 g.2])] ?_
 refine AW.block ?_
 obtain ⟨rv10,hw6,ho7⟩:=zw h
 refine AW.loopO (progress_Valid_b1 g) (fun st1=>⟨fr [(1,.bp 1 0),(20,.sl Y7 g.2),(21,.ii (g.2.length:Int)),(22,.ii st1)],hpGet [(1,.box 24 [.ii g.1,.sl Y7 g.2])],gt⟩) 0 hw6 (zL [] [] []) ?_
 as_aux_lemma =>
  intro st1 x9 h hd8
  unfold progress_Valid_b1 at h
  refine zo ?_
  refine zB [(1,.bp 1 0),(20,.sl Y7 g.2),(21,.ii (g.2.length:Int)),(22,.ii st1),(23,.bool (decide (st1<(g.2.length:Int))))] [(1,.box 24 [.ii g.1,.sl Y7 g.2])] ?_
  refine AW.seq ?_
  refine zQ h (fun hb11 h=>?_) (fun hb11 h=>?_)
  ·refine zk ?_
   refine AW.seq ?_
   refine AW.block ?_
   refine zo ?_
   obtain ⟨c12,h⟩:=ck_some.1 h
   obtain ⟨c13,h⟩:=ck_some.1 h
   refine zS 5 [(1,.bp 1 0),(3,.ii st1),(4,.bp 4 0),(20,.sl Y7 g.2),(21,.ii (g.2.length:Int)),(22,.ii st1),(26,.agg [.ii (g.2.getD st1.toNat (0,0,0,false)).1,.ii (g.2.getD st1.toNat (0,0,0,false)).2.1,.ii (g.2.getD st1.toNat (0,0,0,false)).2.2.1,.bool (g.2.getD st1.toNat (0,0,0,false)).2.2.2])] [(1,.box 24 [.ii g.1,.sl Y7 g.2]),(4,.box 61 [.ii 0,.ii 0,.ii 0,.bool false])] ?_
   refine zB [(1,.bp 1 0),(3,.ii st1),(4,.bp 4 0),(20,.sl Y7 g.2),(21,.ii (g.2.length:Int)),(22,.ii st1)] [(1,.box 24 [.ii g.1,.sl Y7 g.2]),(4,.box 61 [.ii (g.2.getD st1.toNat (0,0,0,false)).1,.ii (g.2.getD st1.toNat (0,0,0,false)).2.1,.ii (g.2.getD st1.toNat (0,0,0,false)).2.2.1,.bool (g.2.getD st1.toNat (0,0,0,false)).2.2.2])] ?_
   refine AW.seq ?_
   refine AW.draw tab_ok mixed_ok [] [] (by decide) (lex_fast (by kernel_rfl)) ?_
   as_aux_lemma =>
    refine adops_cut 4 (fun K' hK14=>?_)
    try dsimp only [y1,y2,y3,y4]
    simp only [go_sem,hb1,hb3,hb5,hb11]
    repeat with_reducible refine zN ?_
    refine hK14 _ ?_
    as_aux_lemma =>
     obtain ⟨v0,hv15,h⟩:=zw h
     refine adops.call (by first|trivial|rfl) rfl rfl rfl (fun _ h=>h) [] [] (hc_progress_isBelow (g.2.getD st1.toNat (0,0,0,false)).1 g.1 hv15) rfl (by (simp only [go_sem,hb1,hb3,hb5,hb11])<;>(with_reducible and_intros)<;>first|assumption|rfl|omega|(unfold maxLen; omega)) (by (simp only [go_sem,hb1,hb3,hb5,hb11])<;>(with_reducible and_intros)<;>first|assumption|rfl|omega|(unfold maxLen; omega)) rfl ?_
     refine adops_cut 2 (fun K' hK16=>?_)
     try dsimp only [y1,y2,y3,y4]
     simp only [go_sem,hb1,hb3,hb5,hb11]
     repeat with_reducible refine zN ?_
     refine hK16 _ ?_
     as_aux_lemma =>
      rcases zI h with ⟨hb17,h⟩|⟨hb17,h⟩
      ·simp only [hb17]
       as_aux_lemma =>
        refine adops_cut 4 (fun K' hK18=>?_)
        try dsimp only [y1,y2,y3,y4]
        simp only [go_sem,hb1,hb3,hb5,hb11,hb17]
        repeat with_reducible refine zN ?_
        refine hK18 _ ?_
        as_aux_lemma =>
         refine adops_cut 6 (fun K' hK19=>?_)
         try dsimp only [y1,y2,y3,y4]
         simp only [go_sem,hb1,hb3,hb5,hb11,hb17]
         repeat with_reducible refine zN ?_
         refine hK19 _ ?_
         as_aux_lemma =>
          refine adops_cut 6 (fun K' hK20=>?_)
          try dsimp only [y1,y2,y3,y4]
          simp only [go_sem,hb1,hb3,hb5,hb11,hb17]
          repeat with_reducible refine zN ?_
          refine hK20 _ ?_
          as_aux_lemma =>
           refine adops_cut 4 (fun K' hK21=>?_)
           try dsimp only [y1,y2,y3,y4]
           simp only [go_sem,hb1,hb3,hb5,hb11,hb17]
           repeat with_reducible refine zN ?_
           refine hK21 _ ?_
           as_aux_lemma =>
            refine adops_cut 1 (fun K' hK22=>?_)
            try dsimp only [y1,y2,y3,y4]
            simp only [go_sem,hb1,hb3,hb5,hb11,hb17]
            repeat with_reducible refine zN ?_
            refine hK22 _ ?_
            refine adops_nil ?_
            refine athen_n ?_
            refine zV [(1,.bp 1 0),(20,.sl Y7 g.2),(21,.ii (g.2.length:Int)),(22,.ii st1),(54,.bool true)] [(1,.box 24 [.ii g.1,.sl Y7 g.2])] gt ?_
            as_aux_lemma =>
             refine AW.cond (b:=true) rfl (fun _=>?_) (fun hb23=>by cases hb23)
             refine zo ?_
             refine zB [(2,.bool false)] [] ?_
             refine AW.ret ?_
             refine ablock_r ?_
             refine athen_r ?_
             obtain rfl:=zj h
             rw [← hd8 _ rfl] at ho7
             have h:=ho7
             try simp only at h
             refine athen_r ?_
             refine ablock_r ?_
             refine athen_r ?_
             obtain rfl:=zj h
             exact zR [] [] []
      simp only [hb17]
      as_aux_lemma =>
       refine adops_cut 4 (fun K' hK24=>?_)
       try dsimp only [y1,y2,y3,y4]
       simp only [go_sem,hb1,hb3,hb5,hb11,hb17]
       repeat with_reducible refine zN ?_
       refine hK24 _ ?_
       as_aux_lemma =>
        obtain ⟨v0_2,hv25,h⟩:=zw h
        refine adops.call (by first|trivial|rfl) rfl rfl rfl (fun _ h=>⟨fun _=>h,fun hn=>absurd rfl hn⟩) [] [] (hc_progress_isBelow (g.2.getD st1.toNat (0,0,0,false)).2.2.1 g.1 hv25) rfl (by (simp only [go_sem,hb1,hb3,hb5,hb11,hb17])<;>(with_reducible and_intros)<;>first|assumption|rfl|omega|(unfold maxLen; omega)) (by (simp only [go_sem,hb1,hb3,hb5,hb11,hb17])<;>(with_reducible and_intros)<;>first|assumption|rfl|omega|(unfold maxLen; omega)) rfl ?_
        refine adops_cut 3 (fun K' hK26=>?_)
        try dsimp only [y1,y2,y3,y4]
        simp only [go_sem,hb1,hb3,hb5,hb11,hb17]
        repeat with_reducible refine zN ?_
        refine hK26 _ ?_
        as_aux_lemma =>
         rcases zI h with ⟨hb27,h⟩|⟨hb27,h⟩
         ·simp only [hb27]
          as_aux_lemma =>
           refine adops_cut 4 (fun K' hK28=>?_)
           try dsimp only [y1,y2,y3,y4]
           simp only [go_sem,hb1,hb3,hb5,hb11,hb17,hb27]
           repeat with_reducible refine zN ?_
           refine hK28 _ ?_
           as_aux_lemma =>
            refine adops_cut 6 (fun K' hK29=>?_)
            try dsimp only [y1,y2,y3,y4]
            simp only [go_sem,hb1,hb3,hb5,hb11,hb17,hb27]
            repeat with_reducible refine zN ?_
            refine hK29 _ ?_
            as_aux_lemma =>
             refine adops_cut 3 (fun K' hK30=>?_)
             try dsimp only [y1,y2,y3,y4]
             simp only [go_sem,hb1,hb3,hb5,hb11,hb17,hb27]
             repeat with_reducible refine zN ?_
             refine hK30 _ ?_
             refine adops_nil ?_
             refine athen_n ?_
             refine zV [(1,.bp 1 0),(20,.sl Y7 g.2),(21,.ii (g.2.length:Int)),(22,.ii st1),(54,.bool true)] [(1,.box 24 [.ii g.1,.sl Y7 g.2])] gt ?_
             as_aux_lemma =>
              refine AW.cond (b:=true) rfl (fun _=>?_) (fun hb31=>by cases hb31)
              refine zo ?_
              refine zB [(2,.bool false)] [] ?_
              refine AW.ret ?_
              refine ablock_r ?_
              refine athen_r ?_
              obtain rfl:=zj h
              rw [← hd8 _ rfl] at ho7
              have h:=ho7
              try simp only at h
              refine athen_r ?_
              refine ablock_r ?_
              refine athen_r ?_
              obtain rfl:=zj h
              exact zR [] [] []
         simp only [hb27]
         as_aux_lemma =>
          refine adops_cut 2 (fun K' hK32=>?_)
          try dsimp only [y1,y2,y3,y4]
          simp only [go_sem,hb1,hb3,hb5,hb11,hb17,hb27]
          repeat with_reducible refine zN ?_
          refine hK32 _ ?_
          as_aux_lemma =>
           obtain ⟨v0_3,hv33,h⟩:=zw h
           refine adops.call (by first|trivial|rfl) rfl rfl rfl (fun _ h=>⟨fun _=>h,fun hn=>absurd rfl hn⟩) [] [] (hc_progress_isThread (g.2.getD st1.toNat (0,0,0,false)).2.1 hv33) rfl (by (simp only [go_sem,hb1,hb3,hb5,hb11,hb17,hb27])<;>(with_reducible and_intros)<;>first|assumption|rfl|omega|(unfold maxLen; omega)) (by (simp only [go_sem,hb1,hb3,hb5,hb11,hb17,hb27])<;>(with_reducible and_intros)<;>first|assumption|rfl|omega|(unfold maxLen; omega)) rfl ?_
           refine adops_cut 3 (fun K' hK34=>?_)
           try dsimp only [y1,y2,y3,y4]
           simp only [go_sem,hb1,hb3,hb5,hb11,hb17,hb27]
           repeat with_reducible refine zN ?_
           refine hK34 _ ?_
           as_aux_lemma =>
            rcases zI h with ⟨hb35,h⟩|⟨hb35,h⟩
            ·simp only [hb35]
             as_aux_lemma =>
              refine adops_cut 4 (fun K' hK36=>?_)
              try dsimp only [y1,y2,y3,y4]
              simp only [go_sem,hb1,hb3,hb5,hb11,hb17,hb27,hb35]
              repeat with_reducible refine zN ?_
              refine hK36 _ ?_
              as_aux_lemma =>
               refine adops_cut 3 (fun K' hK37=>?_)
               try dsimp only [y1,y2,y3,y4]
               simp only [go_sem,hb1,hb3,hb5,hb11,hb17,hb27,hb35]
               repeat with_reducible refine zN ?_
               refine hK37 _ ?_
               refine adops_nil ?_
               refine athen_n ?_
               refine zV [(1,.bp 1 0),(20,.sl Y7 g.2),(21,.ii (g.2.length:Int)),(22,.ii st1),(54,.bool true)] [(1,.box 24 [.ii g.1,.sl Y7 g.2])] gt ?_
               as_aux_lemma =>
                refine AW.cond (b:=true) rfl (fun _=>?_) (fun hb38=>by cases hb38)
                refine zo ?_
                refine zB [(2,.bool false)] [] ?_
                refine AW.ret ?_
                refine ablock_r ?_
                refine athen_r ?_
                obtain rfl:=zj h
                rw [← hd8 _ rfl] at ho7
                have h:=ho7
                try simp only at h
                refine athen_r ?_
                refine ablock_r ?_
                refine athen_r ?_
                obtain rfl:=zj h
                exact zR [] [] []
            simp only [hb35]
            as_aux_lemma =>
             obtain ⟨c40,h⟩:=ck_some.1 h
             obtain ⟨c41,h⟩:=ck_some.1 h
             refine adops_cut 5 (fun K' hK39=>?_)
             try dsimp only [y1,y2,y3,y4]
             simp only [go_sem,hb1,hb3,hb5,hb11,hb17,hb27,hb35]
             repeat with_reducible refine zN ?_
             refine hK39 _ ?_
             as_aux_lemma =>
              obtain ⟨v0_4,hv42,h⟩:=zw h
              refine adops.call (by first|trivial|rfl) rfl rfl rfl (fun _ h=>⟨fun _=>h,fun hn=>absurd rfl hn⟩) [] [] (hc_slices_Contains (g.2.take st1.toNat) (g.2.getD st1.toNat (0,0,0,false)) hv42) rfl (by (simp only [go_sem,hb1,hb3,hb5,hb11,hb17,hb27,hb35])<;>(with_reducible and_intros)<;>first|assumption|rfl|omega|(unfold maxLen; omega)) (by (simp only [go_sem,hb1,hb3,hb5,hb11,hb17,hb27,hb35])<;>(with_reducible and_intros)<;>first|assumption|rfl|omega|(unfold maxLen; omega)) rfl ?_
              refine adops_cut 1 (fun K' hK43=>?_)
              try dsimp only [y1,y2,y3,y4]
              simp only [go_sem,hb1,hb3,hb5,hb11,hb17,hb27,hb35]
              repeat with_reducible refine zN ?_
              refine hK43 _ ?_
              refine adops_nil ?_
              refine athen_n ?_
              refine zV [(1,.bp 1 0),(20,.sl Y7 g.2),(21,.ii (g.2.length:Int)),(22,.ii st1),(54,.bool v0_4)] [(1,.box 24 [.ii g.1,.sl Y7 g.2])] gt ?_
              as_aux_lemma =>
               refine zQ h (fun hb44 h=>?_) (fun hb44 h=>?_)
               ·refine zo ?_
                refine zB [(2,.bool false)] [] ?_
                refine AW.ret ?_
                refine ablock_r ?_
                refine athen_r ?_
                obtain rfl:=zj h
                rw [← hd8 _ rfl] at ho7
                have h:=ho7
                try simp only at h
                refine athen_r ?_
                refine ablock_r ?_
                refine athen_r ?_
                obtain rfl:=zj h
                exact zR [] [] []
               refine zm ?_
               refine athen_n ?_
               refine AW.ops ?_
               obtain ⟨c45,h⟩:=ck_some.1 h
               refine zA [(1,.bp 1 0),(20,.sl Y7 g.2),(21,.ii (g.2.length:Int)),(22,.ii (st1+1))] [(1,.box 24 [.ii g.1,.sl Y7 g.2])] ?_
               obtain rfl:=zj h
               exact ⟨_,rfl,zL [] [] []⟩
  refine AW.exit ?_
  refine athen_e ?_
  obtain rfl:=zj h
  rw [← hd8 _ rfl] at ho7
  have h:=ho7
  try simp only at h
  refine athen_e ?_
  refine ablock_s ?_
  refine athen_n ?_
  exact AW.weaken (zL [] [] []) (hk_progress_Valid_k1 () h)
theorem hc_progress_graphOf (g:Int×(List (Int×Int×Int×Bool))) {r:Int×(List (Int×Int×Int×Bool))×Int} (h:progress_graphOf g=some r):HC Try.prog 56 [] [.agg [.ii g.1,.sl Y7 g.2]] [] (.tup [.agg [.ii r.1,.sl Y7 r.2.1],.ii r.2.2]):=by
 unfold progress_graphOf at h
 refine zH Try.func56 [.cell 2 69,.tmp 3] 9 ?_
 refine zo ?_
 refine zB [(1,.bp 1 0),(2,.bp 2 0)] [(1,.box 24 [.ii g.1,.sl Y7 g.2]),(2,.box 69 [.ii 0,.cv (.slice none 0 0)])] ?_
 refine AW.seq ?_
 refine zo ?_
 refine zS 1 [(1,.bp 1 0),(2,.bp 2 0),(4,.agg [.ii g.1,.sl Y7 g.2])] [(1,.box 24 [.ii g.1,.sl Y7 g.2]),(2,.box 69 [.ii 0,.cv (.slice none 0 0)])] ?_
 obtain ⟨v0,hv1,h⟩:=zw h
 refine zC [] [] (hc_progress_Valid g hv1) [(1,.bp 1 0),(2,.bp 2 0),(5,.bool v0)] [(1,.box 24 [.ii g.1,.sl Y7 g.2]),(2,.box 69 [.ii 0,.cv (.slice none 0 0)])] ?_
 refine zB [(1,.bp 1 0),(2,.bp 2 0),(6,.bool (!v0))] [(1,.box 24 [.ii g.1,.sl Y7 g.2]),(2,.box 69 [.ii 0,.cv (.slice none 0 0)])] ?_
 refine zQ h (fun hb2 h=>?_) (fun hb2 h=>?_)
 ·refine zo ?_
  refine zB [(2,.bp 2 0),(3,.ii 70)] [(2,.box 69 [.ii 0,.cv (.slice none 0 0)])] ?_
  refine zr ?_
  obtain rfl:=zj h
  exact zR [] [] []
 refine zk ?_
 refine zo ?_
 refine zB [(2,.bp 2 0),(3,.ii 0)] [(2,.box 69 [.ii g.1,.sl Y7 g.2])] ?_
 refine AW.ret ?_
 obtain rfl:=zj h
 exact zR [] [] []
end Go.Proofs.Yteclokkdgmacpaa
