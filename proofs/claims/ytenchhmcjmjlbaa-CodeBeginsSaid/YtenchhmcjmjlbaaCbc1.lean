import Derived.Test.YtenchhmcjmjlbaaCkp
import Derived.Test.YtenchhmcjmjlbaaShk
namespace Go.Proofs.Ytenchhmcjmjlbaa
open Go.RowKit
set_option linter.unusedSimpArgs false
set_option linter.unusedVariables false
set_option linter.constructorNameAsVariable false
set_option maxRecDepth 100000
set_option maxHeartbeats 40000000
theorem hc_lineallaw02_Large (specs:ZS) {r:Bool} (h:lineallaw02_Large specs=some r):HC Try.prog 46 [] [.sl (.pair (.int .i64) (.pair (.int .i64) (.pair (.sl (.sl (.int .i64))) (.sl (.sl (.int .i64)))))) specs] [] (.bool r):=by
 unfold lineallaw02_Large at h
 refine zH Try.func46 [.tmp 2] 58 ?_
 refine zo ?_
 refine zB [(0,.sl (.pair (.int .i64) (.pair (.int .i64) (.pair (.sl (.sl (.int .i64))) (.sl (.sl (.int .i64)))))) specs)] [] ?_
 refine AW.have1 (fun _:Unit=>lineallaw02_Large_k1 specs=some r) (fun _=>⟨fr [(0,.sl (.pair (.int .i64) (.pair (.int .i64) (.pair (.sl (.sl (.int .i64))) (.sl (.sl (.int .i64)))))) specs)],hpGet [],gt⟩) (fun _ h=>?_) (fun hk_lineallaw02_Large_k1=>?_)
 ·as_aux_lemma =>
   unfold lineallaw02_Large_k1 at h
   refine zo ?_
   refine zB [(2,.bool (decide (5<(specs.length:Int))))] [] ?_
   refine AW.ret ?_
   obtain rfl:=Option.some.inj h
   exact zR [] [] []
 ·refine AW.seq ?_
  refine zo ?_
  refine zB [(0,.sl (.pair (.int .i64) (.pair (.int .i64) (.pair (.sl (.sl (.int .i64))) (.sl (.sl (.int .i64)))))) specs),(3,.int .i64 0)] [] ?_
  refine AW.block ?_
  obtain ⟨rv5,hw1,ho2⟩:=Option.bind_eq_some_iff.1 h
  refine AW.loopO (lineallaw02_Large_b1 specs) (fun st1=>⟨fr [(0,.sl (.pair (.int .i64) (.pair (.int .i64) (.pair (.sl (.sl (.int .i64))) (.sl (.sl (.int .i64)))))) specs),(3,.int .i64 st1)],hpGet [],gt⟩) 0 hw1 (zL [] [] []) ?_
  as_aux_lemma =>
   intro st1 x4 h hd3
   unfold lineallaw02_Large_b1 at h
   refine AW.seq ?_
   refine zo ?_
   refine zB [(0,.sl (.pair (.int .i64) (.pair (.int .i64) (.pair (.sl (.sl (.int .i64))) (.sl (.sl (.int .i64)))))) specs),(3,.int .i64 st1),(10,.bool (decide (st1<(specs.length:Int))))] [] ?_
   refine zQ h (fun hb6 h=>?_) (fun hb6 h=>?_)
   ·refine zk ?_
    refine AW.have1 (fun _:Unit=>lineallaw02_Large_k2 st1=some x4) (fun _=>⟨fr [(0,.sl (.pair (.int .i64) (.pair (.int .i64) (.pair (.sl (.sl (.int .i64))) (.sl (.sl (.int .i64)))))) specs),(3,.int .i64 st1)],hpGet [],gt⟩) (fun _ h=>?_) (fun hk_lineallaw02_Large_k2=>?_)
    ·as_aux_lemma =>
      unfold lineallaw02_Large_k2 at h
      refine AW.ops ?_
      obtain ⟨c7,h⟩:=ck_some.1 h
      refine zA [(0,.sl (.pair (.int .i64) (.pair (.int .i64) (.pair (.sl (.sl (.int .i64))) (.sl (.sl (.int .i64)))))) specs),(3,.int .i64 (st1+1))] [] ?_
      obtain rfl:=Option.some.inj h
      exact ⟨_,rfl,zL [] [] []⟩
    ·refine AW.seq ?_
     refine AW.block ?_
     refine zo ?_
     obtain ⟨c8,h⟩:=ck_some.1 h
     obtain ⟨c9,h⟩:=ck_some.1 h
     refine zS 5 [(0,.sl (.pair (.int .i64) (.pair (.int .i64) (.pair (.sl (.sl (.int .i64))) (.sl (.sl (.int .i64)))))) specs),(3,.int .i64 st1),(4,.bp 4 0),(16,.agg [.int .i64 (specs.getD st1.toNat (0,0,[],[])).1,.int .i64 (specs.getD st1.toNat (0,0,[],[])).2.1,.sl (.sl (.int .i64)) (specs.getD st1.toNat (0,0,[],[])).2.2.1,.sl (.sl (.int .i64)) (specs.getD st1.toNat (0,0,[],[])).2.2.2])] [(4,.box 24 [.int .i64 0,.int .i64 0,.cv (.slice none 0 0),.cv (.slice none 0 0)])] ?_
     refine zB [(0,.sl (.pair (.int .i64) (.pair (.int .i64) (.pair (.sl (.sl (.int .i64))) (.sl (.sl (.int .i64)))))) specs),(3,.int .i64 st1),(4,.bp 4 0)] [(4,.box 24 [.int .i64 (specs.getD st1.toNat (0,0,[],[])).1,.int .i64 (specs.getD st1.toNat (0,0,[],[])).2.1,.sl (.sl (.int .i64)) (specs.getD st1.toNat (0,0,[],[])).2.2.1,.sl (.sl (.int .i64)) (specs.getD st1.toNat (0,0,[],[])).2.2.2])] ?_
     refine AW.seq ?_
     refine zo ?_
     refine zS 5 [(0,.sl (.pair (.int .i64) (.pair (.int .i64) (.pair (.sl (.sl (.int .i64))) (.sl (.sl (.int .i64)))))) specs),(3,.int .i64 st1),(4,.bp 4 0),(21,.bool (decide (20<((specs.getD st1.toNat (0,0,[],[])).2.2.1.length:Int))))] [(4,.box 24 [.int .i64 (specs.getD st1.toNat (0,0,[],[])).1,.int .i64 (specs.getD st1.toNat (0,0,[],[])).2.1,.sl (.sl (.int .i64)) (specs.getD st1.toNat (0,0,[],[])).2.2.1,.sl (.sl (.int .i64)) (specs.getD st1.toNat (0,0,[],[])).2.2.2])] ?_
     rcases zI h with ⟨hb10,h⟩|⟨hb10,h⟩
     ·refine zS 4 [(0,.sl (.pair (.int .i64) (.pair (.int .i64) (.pair (.sl (.sl (.int .i64))) (.sl (.sl (.int .i64)))))) specs),(3,.int .i64 st1),(4,.bp 4 0),(21,.bool true),(25,.cv (undef))] [(4,.box 24 [.int .i64 (specs.getD st1.toNat (0,0,[],[])).1,.int .i64 (specs.getD st1.toNat (0,0,[],[])).2.1,.sl (.sl (.int .i64)) (specs.getD st1.toNat (0,0,[],[])).2.2.1,.sl (.sl (.int .i64)) (specs.getD st1.toNat (0,0,[],[])).2.2.2])] ?_
      refine zB [(0,.sl (.pair (.int .i64) (.pair (.int .i64) (.pair (.sl (.sl (.int .i64))) (.sl (.sl (.int .i64)))))) specs),(3,.int .i64 st1),(4,.bp 4 0),(26,.bool true)] [(4,.box 24 [.int .i64 (specs.getD st1.toNat (0,0,[],[])).1,.int .i64 (specs.getD st1.toNat (0,0,[],[])).2.1,.sl (.sl (.int .i64)) (specs.getD st1.toNat (0,0,[],[])).2.2.1,.sl (.sl (.int .i64)) (specs.getD st1.toNat (0,0,[],[])).2.2.2])] ?_
      refine AW.cond (b:=true) rfl (fun _=>?_) (fun hb11=>by cases hb11)
      refine zo ?_
      refine zB [(2,.bool true)] [] ?_
      refine zr ?_
      refine ablock_r ?_
      refine athen_r ?_
      obtain rfl:=Option.some.inj h
      try rw [← hd3 _ rfl] at ho2
      have h:=ho2
      try simp only at h
      refine athen_r ?_
      refine ablock_r ?_
      refine athen_r ?_
      obtain rfl:=Option.some.inj h
      exact zR [] [] []
     ·refine zB [(0,.sl (.pair (.int .i64) (.pair (.int .i64) (.pair (.sl (.sl (.int .i64))) (.sl (.sl (.int .i64)))))) specs),(3,.int .i64 st1),(4,.bp 4 0),(26,.bool (decide (20<((specs.getD st1.toNat (0,0,[],[])).2.2.2.length:Int))))] [(4,.box 24 [.int .i64 (specs.getD st1.toNat (0,0,[],[])).1,.int .i64 (specs.getD st1.toNat (0,0,[],[])).2.1,.sl (.sl (.int .i64)) (specs.getD st1.toNat (0,0,[],[])).2.2.1,.sl (.sl (.int .i64)) (specs.getD st1.toNat (0,0,[],[])).2.2.2])] ?_
      refine zQ h (fun hb12 h=>?_) (fun hb12 h=>?_)
      ·refine zo ?_
       refine zB [(2,.bool true)] [] ?_
       refine zr ?_
       refine ablock_r ?_
       refine athen_r ?_
       obtain rfl:=Option.some.inj h
       try rw [← hd3 _ rfl] at ho2
       have h:=ho2
       try simp only at h
       refine athen_r ?_
       refine ablock_r ?_
       refine athen_r ?_
       obtain rfl:=Option.some.inj h
       exact zR [] [] []
      ·refine zk ?_
       refine AW.have1 (fun _:Unit=>lineallaw02_Large_k3 specs st1=some x4) (fun _=>⟨fr [(0,.sl (.pair (.int .i64) (.pair (.int .i64) (.pair (.sl (.sl (.int .i64))) (.sl (.sl (.int .i64)))))) specs),(3,.int .i64 st1),(4,.bp 4 0)],hpGet [(4,.box 24 [.int .i64 (specs.getD st1.toNat (0,0,[],[])).1,.int .i64 (specs.getD st1.toNat (0,0,[],[])).2.1,.sl (.sl (.int .i64)) (specs.getD st1.toNat (0,0,[],[])).2.2.1,.sl (.sl (.int .i64)) (specs.getD st1.toNat (0,0,[],[])).2.2.2])],gt⟩) (fun _ h=>?_) (fun hk_lineallaw02_Large_k3=>?_)
       ·as_aux_lemma =>
         unfold lineallaw02_Large_k3 at h
         refine zo ?_
         refine zB [(0,.sl (.pair (.int .i64) (.pair (.int .i64) (.pair (.sl (.sl (.int .i64))) (.sl (.sl (.int .i64)))))) specs),(3,.int .i64 st1),(4,.bp 4 0),(6,.int .i64 0)] [(4,.box 24 [.int .i64 (specs.getD st1.toNat (0,0,[],[])).1,.int .i64 (specs.getD st1.toNat (0,0,[],[])).2.1,.sl (.sl (.int .i64)) (specs.getD st1.toNat (0,0,[],[])).2.2.1,.sl (.sl (.int .i64)) (specs.getD st1.toNat (0,0,[],[])).2.2.2])] ?_
         refine AW.block ?_
         obtain ⟨rv17,hw13,ho14⟩:=Option.bind_eq_some_iff.1 h
         refine AW.loopO (lineallaw02_Large_b3 specs st1) (fun st3=>⟨fr [(0,.sl (.pair (.int .i64) (.pair (.int .i64) (.pair (.sl (.sl (.int .i64))) (.sl (.sl (.int .i64)))))) specs),(3,.int .i64 st1),(4,.bp 4 0),(6,.int .i64 st3)],hpGet [(4,.box 24 [.int .i64 (specs.getD st1.toNat (0,0,[],[])).1,.int .i64 (specs.getD st1.toNat (0,0,[],[])).2.1,.sl (.sl (.int .i64)) (specs.getD st1.toNat (0,0,[],[])).2.2.1,.sl (.sl (.int .i64)) (specs.getD st1.toNat (0,0,[],[])).2.2.2])],gt⟩) 0 hw13 (zL [] [] []) ?_
         as_aux_lemma =>
          intro st3 x16 h hd15
          unfold lineallaw02_Large_b3 at h
          refine AW.seq ?_
          refine zo ?_
          refine zB [(0,.sl (.pair (.int .i64) (.pair (.int .i64) (.pair (.sl (.sl (.int .i64))) (.sl (.sl (.int .i64)))))) specs),(3,.int .i64 st1),(4,.bp 4 0),(6,.int .i64 st3),(45,.bool (decide (st3<((specs.getD st1.toNat (0,0,[],[])).2.2.2.length:Int))))] [(4,.box 24 [.int .i64 (specs.getD st1.toNat (0,0,[],[])).1,.int .i64 (specs.getD st1.toNat (0,0,[],[])).2.1,.sl (.sl (.int .i64)) (specs.getD st1.toNat (0,0,[],[])).2.2.1,.sl (.sl (.int .i64)) (specs.getD st1.toNat (0,0,[],[])).2.2.2])] ?_
          refine zQ h (fun hb18 h=>?_) (fun hb18 h=>?_)
          ·refine zk ?_
           refine AW.seq ?_
           refine AW.block ?_
           refine zo ?_
           obtain ⟨c19,h⟩:=ck_some.1 h
           obtain ⟨c20,h⟩:=ck_some.1 h
           refine zS 5 [(0,.sl (.pair (.int .i64) (.pair (.int .i64) (.pair (.sl (.sl (.int .i64))) (.sl (.sl (.int .i64)))))) specs),(3,.int .i64 st1),(4,.bp 4 0),(6,.int .i64 st3),(52,.sl (.int .i64) ((specs.getD st1.toNat (0,0,[],[])).2.2.2.getD st3.toNat []))] [(4,.box 24 [.int .i64 (specs.getD st1.toNat (0,0,[],[])).1,.int .i64 (specs.getD st1.toNat (0,0,[],[])).2.1,.sl (.sl (.int .i64)) (specs.getD st1.toNat (0,0,[],[])).2.2.1,.sl (.sl (.int .i64)) (specs.getD st1.toNat (0,0,[],[])).2.2.2])] ?_
           refine zB [(0,.sl (.pair (.int .i64) (.pair (.int .i64) (.pair (.sl (.sl (.int .i64))) (.sl (.sl (.int .i64)))))) specs),(3,.int .i64 st1),(4,.bp 4 0),(6,.int .i64 st3),(54,.bool (decide (20<(((specs.getD st1.toNat (0,0,[],[])).2.2.2.getD st3.toNat []).length:Int))))] [(4,.box 24 [.int .i64 (specs.getD st1.toNat (0,0,[],[])).1,.int .i64 (specs.getD st1.toNat (0,0,[],[])).2.1,.sl (.sl (.int .i64)) (specs.getD st1.toNat (0,0,[],[])).2.2.1,.sl (.sl (.int .i64)) (specs.getD st1.toNat (0,0,[],[])).2.2.2])] ?_
           refine zQ h (fun hb21 h=>?_) (fun hb21 h=>?_)
           ·refine zo ?_
            refine zB [(2,.bool true)] [] ?_
            refine AW.ret ?_
            refine ablock_r ?_
            refine athen_r ?_
            obtain rfl:=Option.some.inj h
            try rw [← hd15 _ rfl] at ho14
            have h:=ho14
            try simp only at h
            refine athen_r ?_
            refine ablock_r ?_
            refine ablock_r ?_
            refine athen_r ?_
            obtain rfl:=Option.some.inj h
            try rw [← hd3 _ rfl] at ho2
            have h:=ho2
            try simp only at h
            refine athen_r ?_
            refine ablock_r ?_
            refine athen_r ?_
            obtain rfl:=Option.some.inj h
            exact zR [] [] []
           ·refine zm ?_
            refine athen_n ?_
            refine AW.ops ?_
            obtain ⟨c22,h⟩:=ck_some.1 h
            refine zA [(0,.sl (.pair (.int .i64) (.pair (.int .i64) (.pair (.sl (.sl (.int .i64))) (.sl (.sl (.int .i64)))))) specs),(3,.int .i64 st1),(4,.bp 4 0),(6,.int .i64 (st3+1))] [(4,.box 24 [.int .i64 (specs.getD st1.toNat (0,0,[],[])).1,.int .i64 (specs.getD st1.toNat (0,0,[],[])).2.1,.sl (.sl (.int .i64)) (specs.getD st1.toNat (0,0,[],[])).2.2.1,.sl (.sl (.int .i64)) (specs.getD st1.toNat (0,0,[],[])).2.2.2])] ?_
            obtain rfl:=Option.some.inj h
            exact ⟨_,rfl,zL [] [] []⟩
          ·refine AW.exit ?_
           refine athen_e ?_
           obtain rfl:=Option.some.inj h
           try rw [← hd15 _ rfl] at ho14
           have h:=ho14
           try simp only at h
           refine athen_e ?_
           refine ablock_s ?_
           refine ablock_n ?_
           refine athen_n ?_
           exact AW.weaken (zL [] [] []) (hk_lineallaw02_Large_k2 () h)
       ·refine AW.seq ?_
        refine zo ?_
        refine zB [(0,.sl (.pair (.int .i64) (.pair (.int .i64) (.pair (.sl (.sl (.int .i64))) (.sl (.sl (.int .i64)))))) specs),(3,.int .i64 st1),(4,.bp 4 0),(5,.int .i64 0)] [(4,.box 24 [.int .i64 (specs.getD st1.toNat (0,0,[],[])).1,.int .i64 (specs.getD st1.toNat (0,0,[],[])).2.1,.sl (.sl (.int .i64)) (specs.getD st1.toNat (0,0,[],[])).2.2.1,.sl (.sl (.int .i64)) (specs.getD st1.toNat (0,0,[],[])).2.2.2])] ?_
        refine AW.block ?_
        obtain ⟨rv27,hw23,ho24⟩:=Option.bind_eq_some_iff.1 h
        refine AW.loopO (lineallaw02_Large_b2 specs st1) (fun st2=>⟨fr [(0,.sl (.pair (.int .i64) (.pair (.int .i64) (.pair (.sl (.sl (.int .i64))) (.sl (.sl (.int .i64)))))) specs),(3,.int .i64 st1),(4,.bp 4 0),(5,.int .i64 st2)],hpGet [(4,.box 24 [.int .i64 (specs.getD st1.toNat (0,0,[],[])).1,.int .i64 (specs.getD st1.toNat (0,0,[],[])).2.1,.sl (.sl (.int .i64)) (specs.getD st1.toNat (0,0,[],[])).2.2.1,.sl (.sl (.int .i64)) (specs.getD st1.toNat (0,0,[],[])).2.2.2])],gt⟩) 0 hw23 (zL [] [] []) ?_
        as_aux_lemma =>
         intro st2 x26 h hd25
         unfold lineallaw02_Large_b2 at h
         refine AW.seq ?_
         refine zo ?_
         refine zB [(0,.sl (.pair (.int .i64) (.pair (.int .i64) (.pair (.sl (.sl (.int .i64))) (.sl (.sl (.int .i64)))))) specs),(3,.int .i64 st1),(4,.bp 4 0),(5,.int .i64 st2),(31,.bool (decide (st2<((specs.getD st1.toNat (0,0,[],[])).2.2.1.length:Int))))] [(4,.box 24 [.int .i64 (specs.getD st1.toNat (0,0,[],[])).1,.int .i64 (specs.getD st1.toNat (0,0,[],[])).2.1,.sl (.sl (.int .i64)) (specs.getD st1.toNat (0,0,[],[])).2.2.1,.sl (.sl (.int .i64)) (specs.getD st1.toNat (0,0,[],[])).2.2.2])] ?_
         refine zQ h (fun hb28 h=>?_) (fun hb28 h=>?_)
         ·refine zk ?_
          refine AW.seq ?_
          refine AW.block ?_
          refine zo ?_
          obtain ⟨c29,h⟩:=ck_some.1 h
          obtain ⟨c30,h⟩:=ck_some.1 h
          refine zS 5 [(0,.sl (.pair (.int .i64) (.pair (.int .i64) (.pair (.sl (.sl (.int .i64))) (.sl (.sl (.int .i64)))))) specs),(3,.int .i64 st1),(4,.bp 4 0),(5,.int .i64 st2),(38,.sl (.int .i64) ((specs.getD st1.toNat (0,0,[],[])).2.2.1.getD st2.toNat []))] [(4,.box 24 [.int .i64 (specs.getD st1.toNat (0,0,[],[])).1,.int .i64 (specs.getD st1.toNat (0,0,[],[])).2.1,.sl (.sl (.int .i64)) (specs.getD st1.toNat (0,0,[],[])).2.2.1,.sl (.sl (.int .i64)) (specs.getD st1.toNat (0,0,[],[])).2.2.2])] ?_
          refine zB [(0,.sl (.pair (.int .i64) (.pair (.int .i64) (.pair (.sl (.sl (.int .i64))) (.sl (.sl (.int .i64)))))) specs),(3,.int .i64 st1),(4,.bp 4 0),(5,.int .i64 st2),(40,.bool (decide (20<(((specs.getD st1.toNat (0,0,[],[])).2.2.1.getD st2.toNat []).length:Int))))] [(4,.box 24 [.int .i64 (specs.getD st1.toNat (0,0,[],[])).1,.int .i64 (specs.getD st1.toNat (0,0,[],[])).2.1,.sl (.sl (.int .i64)) (specs.getD st1.toNat (0,0,[],[])).2.2.1,.sl (.sl (.int .i64)) (specs.getD st1.toNat (0,0,[],[])).2.2.2])] ?_
          refine zQ h (fun hb31 h=>?_) (fun hb31 h=>?_)
          ·refine zo ?_
           refine zB [(2,.bool true)] [] ?_
           refine AW.ret ?_
           refine ablock_r ?_
           refine athen_r ?_
           obtain rfl:=Option.some.inj h
           try rw [← hd25 _ rfl] at ho24
           have h:=ho24
           try simp only at h
           refine athen_r ?_
           refine ablock_r ?_
           refine athen_r ?_
           refine ablock_r ?_
           refine athen_r ?_
           obtain rfl:=Option.some.inj h
           try rw [← hd3 _ rfl] at ho2
           have h:=ho2
           try simp only at h
           refine athen_r ?_
           refine ablock_r ?_
           refine athen_r ?_
           obtain rfl:=Option.some.inj h
           exact zR [] [] []
          ·refine zm ?_
           refine athen_n ?_
           refine AW.ops ?_
           obtain ⟨c32,h⟩:=ck_some.1 h
           refine zA [(0,.sl (.pair (.int .i64) (.pair (.int .i64) (.pair (.sl (.sl (.int .i64))) (.sl (.sl (.int .i64)))))) specs),(3,.int .i64 st1),(4,.bp 4 0),(5,.int .i64 (st2+1))] [(4,.box 24 [.int .i64 (specs.getD st1.toNat (0,0,[],[])).1,.int .i64 (specs.getD st1.toNat (0,0,[],[])).2.1,.sl (.sl (.int .i64)) (specs.getD st1.toNat (0,0,[],[])).2.2.1,.sl (.sl (.int .i64)) (specs.getD st1.toNat (0,0,[],[])).2.2.2])] ?_
           obtain rfl:=Option.some.inj h
           exact ⟨_,rfl,zL [] [] []⟩
         ·refine AW.exit ?_
          refine athen_e ?_
          obtain rfl:=Option.some.inj h
          try rw [← hd25 _ rfl] at ho24
          have h:=ho24
          try simp only at h
          refine athen_e ?_
          refine ablock_s ?_
          refine athen_n ?_
          exact AW.weaken (zL [] [] []) (hk_lineallaw02_Large_k3 () h)
   ·refine AW.exit ?_
    refine athen_e ?_
    obtain rfl:=Option.some.inj h
    try rw [← hd3 _ rfl] at ho2
    have h:=ho2
    try simp only at h
    refine athen_e ?_
    refine ablock_s ?_
    refine athen_n ?_
    exact AW.weaken (zL [] [] []) (hk_lineallaw02_Large_k1 () h)
theorem hc_lineallaw08_Large (x0:(Int×Int×(List (List Int))×(List (List Int)))×(List (List (Int×Int×Int×Int)))×(List (List Int))) {r:Bool} (h:lineallaw08_Large x0=some r):HC Try.prog 10 [] [.agg [.int .i64 x0.1.1,.int .i64 x0.1.2.1,.sl (.sl (.int .i64)) x0.1.2.2.1,.sl (.sl (.int .i64)) x0.1.2.2.2,.sl (.sl (.pair (.int .i64) (.pair (.int .i64) (.pair (.int .i64) (.int .i64))))) x0.2.1,.sl (.sl (.int .i64)) x0.2.2]] [] (.bool r):=by
 unfold lineallaw08_Large at h
 refine zH Try.func10 [.tmp 2] 49 ?_
 refine zo ?_
 refine zB [(1,.bp 1 0)] [(1,.box 27 [.int .i64 x0.1.1,.int .i64 x0.1.2.1,.sl (.sl (.int .i64)) x0.1.2.2.1,.sl (.sl (.int .i64)) x0.1.2.2.2,.sl (.sl (.pair (.int .i64) (.pair (.int .i64) (.pair (.int .i64) (.int .i64))))) x0.2.1,.sl (.sl (.int .i64)) x0.2.2])] ?_
 refine AW.have1 (fun _:Unit=>lineallaw08_Large_k1 x0=some r) (fun _=>⟨fr [(1,.bp 1 0)],hpGet [(1,.box 27 [.int .i64 x0.1.1,.int .i64 x0.1.2.1,.sl (.sl (.int .i64)) x0.1.2.2.1,.sl (.sl (.int .i64)) x0.1.2.2.2,.sl (.sl (.pair (.int .i64) (.pair (.int .i64) (.pair (.int .i64) (.int .i64))))) x0.2.1,.sl (.sl (.int .i64)) x0.2.2])],gt⟩) (fun _ h=>?_) (fun hk_lineallaw08_Large_k1=>?_)
 ·as_aux_lemma =>
   unfold lineallaw08_Large_k1 at h
   refine AW.have1 (fun _:Unit=>lineallaw08_Large_k2 x0=some r) (fun _=>⟨fr [(1,.bp 1 0)],hpGet [(1,.box 27 [.int .i64 x0.1.1,.int .i64 x0.1.2.1,.sl (.sl (.int .i64)) x0.1.2.2.1,.sl (.sl (.int .i64)) x0.1.2.2.2,.sl (.sl (.pair (.int .i64) (.pair (.int .i64) (.pair (.int .i64) (.int .i64))))) x0.2.1,.sl (.sl (.int .i64)) x0.2.2])],gt⟩) (fun _ h=>?_) (fun hk_lineallaw08_Large_k2=>?_)
   ·as_aux_lemma =>
     unfold lineallaw08_Large_k2 at h
     refine zo ?_
     refine zS 3 [(1,.bp 1 0),(35,.own 35)] [(1,.box 27 [.int .i64 x0.1.1,.int .i64 x0.1.2.1,.sl (.sl (.int .i64)) x0.1.2.2.1,.sl (.sl (.int .i64)) x0.1.2.2.2,.sl (.sl (.pair (.int .i64) (.pair (.int .i64) (.pair (.int .i64) (.int .i64))))) x0.2.1,.sl (.sl (.int .i64)) x0.2.2]),(35,.arr 24 (.pair (.int .i64) (.pair (.int .i64) (.pair (.sl (.sl (.int .i64))) (.sl (.sl (.int .i64)))))) [x0.1])] ?_
     obtain ⟨v0,hv1,h⟩:=Option.bind_eq_some_iff.1 h
     refine zC [35] [] (hc_lineallaw02_Large [x0.1] hv1) [(1,.bp 1 0),(36,.bool v0)] [(1,.box 27 [.int .i64 x0.1.1,.int .i64 x0.1.2.1,.sl (.sl (.int .i64)) x0.1.2.2.1,.sl (.sl (.int .i64)) x0.1.2.2.2,.sl (.sl (.pair (.int .i64) (.pair (.int .i64) (.pair (.int .i64) (.int .i64))))) x0.2.1,.sl (.sl (.int .i64)) x0.2.2])] ?_
     refine zS 1 [(1,.bp 1 0),(37,.bool v0)] [(1,.box 27 [.int .i64 x0.1.1,.int .i64 x0.1.2.1,.sl (.sl (.int .i64)) x0.1.2.2.1,.sl (.sl (.int .i64)) x0.1.2.2.2,.sl (.sl (.pair (.int .i64) (.pair (.int .i64) (.pair (.int .i64) (.int .i64))))) x0.2.1,.sl (.sl (.int .i64)) x0.2.2])] ?_
     rcases zI h with ⟨hb2,h⟩|⟨hb2,h⟩
     ·refine zS 4 [(1,.bp 1 0),(37,.bool true),(41,.cv (undef))] [(1,.box 27 [.int .i64 x0.1.1,.int .i64 x0.1.2.1,.sl (.sl (.int .i64)) x0.1.2.2.1,.sl (.sl (.int .i64)) x0.1.2.2.2,.sl (.sl (.pair (.int .i64) (.pair (.int .i64) (.pair (.int .i64) (.int .i64))))) x0.2.1,.sl (.sl (.int .i64)) x0.2.2])] ?_
      refine zS 5 [(43,.bool true),(46,.cv (undef))] [] ?_
      refine zB [(2,.bool true)] [] ?_
      refine AW.ret ?_
      obtain rfl:=Option.some.inj h
      exact zR [] [] []
     ·refine zS 5 [(1,.bp 1 0),(42,.bool (decide (10<(x0.2.1.length:Int))))] [(1,.box 27 [.int .i64 x0.1.1,.int .i64 x0.1.2.1,.sl (.sl (.int .i64)) x0.1.2.2.1,.sl (.sl (.int .i64)) x0.1.2.2.2,.sl (.sl (.pair (.int .i64) (.pair (.int .i64) (.pair (.int .i64) (.int .i64))))) x0.2.1,.sl (.sl (.int .i64)) x0.2.2])] ?_
      refine zS 1 [(1,.bp 1 0),(43,.bool (decide (10<(x0.2.1.length:Int))))] [(1,.box 27 [.int .i64 x0.1.1,.int .i64 x0.1.2.1,.sl (.sl (.int .i64)) x0.1.2.2.1,.sl (.sl (.int .i64)) x0.1.2.2.2,.sl (.sl (.pair (.int .i64) (.pair (.int .i64) (.pair (.int .i64) (.int .i64))))) x0.2.1,.sl (.sl (.int .i64)) x0.2.2])] ?_
      rcases zI h with ⟨hb3,h⟩|⟨hb3,h⟩
      ·refine zS 4 [(43,.bool true),(47,.cv (undef))] [] ?_
       refine zB [(2,.bool true)] [] ?_
       refine AW.ret ?_
       obtain rfl:=Option.some.inj h
       exact zR [] [] []
      ·refine zS 5 [(48,.bool (decide (10<(x0.2.2.length:Int))))] [] ?_
       refine zB [(2,.bool (decide (10<(x0.2.2.length:Int))))] [] ?_
       refine AW.ret ?_
       obtain rfl:=Option.some.inj h
       exact zR [] [] []
   ·refine AW.seq ?_
    refine zo ?_
    refine zB [(1,.bp 1 0),(4,.int .i64 0)] [(1,.box 27 [.int .i64 x0.1.1,.int .i64 x0.1.2.1,.sl (.sl (.int .i64)) x0.1.2.2.1,.sl (.sl (.int .i64)) x0.1.2.2.2,.sl (.sl (.pair (.int .i64) (.pair (.int .i64) (.pair (.int .i64) (.int .i64))))) x0.2.1,.sl (.sl (.int .i64)) x0.2.2])] ?_
    refine AW.block ?_
    obtain ⟨rv8,hw4,ho5⟩:=Option.bind_eq_some_iff.1 h
    refine AW.loopO (lineallaw08_Large_b2 x0) (fun st2=>⟨fr [(1,.bp 1 0),(4,.int .i64 st2)],hpGet [(1,.box 27 [.int .i64 x0.1.1,.int .i64 x0.1.2.1,.sl (.sl (.int .i64)) x0.1.2.2.1,.sl (.sl (.int .i64)) x0.1.2.2.2,.sl (.sl (.pair (.int .i64) (.pair (.int .i64) (.pair (.int .i64) (.int .i64))))) x0.2.1,.sl (.sl (.int .i64)) x0.2.2])],gt⟩) 0 hw4 (zL [] [] []) ?_
    as_aux_lemma =>
     intro st2 x7 h hd6
     unfold lineallaw08_Large_b2 at h
     refine AW.seq ?_
     refine zo ?_
     refine zB [(1,.bp 1 0),(4,.int .i64 st2),(23,.bool (decide (st2<(x0.2.2.length:Int))))] [(1,.box 27 [.int .i64 x0.1.1,.int .i64 x0.1.2.1,.sl (.sl (.int .i64)) x0.1.2.2.1,.sl (.sl (.int .i64)) x0.1.2.2.2,.sl (.sl (.pair (.int .i64) (.pair (.int .i64) (.pair (.int .i64) (.int .i64))))) x0.2.1,.sl (.sl (.int .i64)) x0.2.2])] ?_
     refine zQ h (fun hb9 h=>?_) (fun hb9 h=>?_)
     ·refine zk ?_
      refine AW.seq ?_
      refine AW.block ?_
      refine zo ?_
      obtain ⟨c10,h⟩:=ck_some.1 h
      obtain ⟨c11,h⟩:=ck_some.1 h
      refine zS 5 [(1,.bp 1 0),(4,.int .i64 st2),(30,.sl (.int .i64) (x0.2.2.getD st2.toNat []))] [(1,.box 27 [.int .i64 x0.1.1,.int .i64 x0.1.2.1,.sl (.sl (.int .i64)) x0.1.2.2.1,.sl (.sl (.int .i64)) x0.1.2.2.2,.sl (.sl (.pair (.int .i64) (.pair (.int .i64) (.pair (.int .i64) (.int .i64))))) x0.2.1,.sl (.sl (.int .i64)) x0.2.2])] ?_
      refine zB [(1,.bp 1 0),(4,.int .i64 st2),(32,.bool (decide (20<((x0.2.2.getD st2.toNat []).length:Int))))] [(1,.box 27 [.int .i64 x0.1.1,.int .i64 x0.1.2.1,.sl (.sl (.int .i64)) x0.1.2.2.1,.sl (.sl (.int .i64)) x0.1.2.2.2,.sl (.sl (.pair (.int .i64) (.pair (.int .i64) (.pair (.int .i64) (.int .i64))))) x0.2.1,.sl (.sl (.int .i64)) x0.2.2])] ?_
      refine zQ h (fun hb12 h=>?_) (fun hb12 h=>?_)
      ·refine zo ?_
       refine zB [(2,.bool true)] [] ?_
       refine AW.ret ?_
       refine ablock_r ?_
       refine athen_r ?_
       obtain rfl:=Option.some.inj h
       try rw [← hd6 _ rfl] at ho5
       have h:=ho5
       try simp only at h
       refine athen_r ?_
       refine ablock_r ?_
       refine athen_r ?_
       obtain rfl:=Option.some.inj h
       exact zR [] [] []
      ·refine zm ?_
       refine athen_n ?_
       refine AW.ops ?_
       obtain ⟨c13,h⟩:=ck_some.1 h
       refine zA [(1,.bp 1 0),(4,.int .i64 (st2+1))] [(1,.box 27 [.int .i64 x0.1.1,.int .i64 x0.1.2.1,.sl (.sl (.int .i64)) x0.1.2.2.1,.sl (.sl (.int .i64)) x0.1.2.2.2,.sl (.sl (.pair (.int .i64) (.pair (.int .i64) (.pair (.int .i64) (.int .i64))))) x0.2.1,.sl (.sl (.int .i64)) x0.2.2])] ?_
       obtain rfl:=Option.some.inj h
       exact ⟨_,rfl,zL [] [] []⟩
     ·refine AW.exit ?_
      refine athen_e ?_
      obtain rfl:=Option.some.inj h
      try rw [← hd6 _ rfl] at ho5
      have h:=ho5
      try simp only at h
      refine athen_e ?_
      refine ablock_s ?_
      refine athen_n ?_
      exact AW.weaken (zL [] [] []) (hk_lineallaw08_Large_k2 () h)
 ·refine AW.seq ?_
  refine zo ?_
  refine zB [(1,.bp 1 0),(3,.int .i64 0)] [(1,.box 27 [.int .i64 x0.1.1,.int .i64 x0.1.2.1,.sl (.sl (.int .i64)) x0.1.2.2.1,.sl (.sl (.int .i64)) x0.1.2.2.2,.sl (.sl (.pair (.int .i64) (.pair (.int .i64) (.pair (.int .i64) (.int .i64))))) x0.2.1,.sl (.sl (.int .i64)) x0.2.2])] ?_
  refine AW.block ?_
  obtain ⟨rv18,hw14,ho15⟩:=Option.bind_eq_some_iff.1 h
  refine AW.loopO (lineallaw08_Large_b1 x0) (fun st1=>⟨fr [(1,.bp 1 0),(3,.int .i64 st1)],hpGet [(1,.box 27 [.int .i64 x0.1.1,.int .i64 x0.1.2.1,.sl (.sl (.int .i64)) x0.1.2.2.1,.sl (.sl (.int .i64)) x0.1.2.2.2,.sl (.sl (.pair (.int .i64) (.pair (.int .i64) (.pair (.int .i64) (.int .i64))))) x0.2.1,.sl (.sl (.int .i64)) x0.2.2])],gt⟩) 0 hw14 (zL [] [] []) ?_
  as_aux_lemma =>
   intro st1 x17 h hd16
   unfold lineallaw08_Large_b1 at h
   refine AW.seq ?_
   refine zo ?_
   refine zB [(1,.bp 1 0),(3,.int .i64 st1),(9,.bool (decide (st1<(x0.2.1.length:Int))))] [(1,.box 27 [.int .i64 x0.1.1,.int .i64 x0.1.2.1,.sl (.sl (.int .i64)) x0.1.2.2.1,.sl (.sl (.int .i64)) x0.1.2.2.2,.sl (.sl (.pair (.int .i64) (.pair (.int .i64) (.pair (.int .i64) (.int .i64))))) x0.2.1,.sl (.sl (.int .i64)) x0.2.2])] ?_
   refine zQ h (fun hb19 h=>?_) (fun hb19 h=>?_)
   ·refine zk ?_
    refine AW.seq ?_
    refine AW.block ?_
    refine zo ?_
    obtain ⟨c20,h⟩:=ck_some.1 h
    obtain ⟨c21,h⟩:=ck_some.1 h
    refine zS 5 [(1,.bp 1 0),(3,.int .i64 st1),(16,.sl (.pair (.int .i64) (.pair (.int .i64) (.pair (.int .i64) (.int .i64)))) (x0.2.1.getD st1.toNat []))] [(1,.box 27 [.int .i64 x0.1.1,.int .i64 x0.1.2.1,.sl (.sl (.int .i64)) x0.1.2.2.1,.sl (.sl (.int .i64)) x0.1.2.2.2,.sl (.sl (.pair (.int .i64) (.pair (.int .i64) (.pair (.int .i64) (.int .i64))))) x0.2.1,.sl (.sl (.int .i64)) x0.2.2])] ?_
    refine zB [(1,.bp 1 0),(3,.int .i64 st1),(18,.bool (decide (30<((x0.2.1.getD st1.toNat []).length:Int))))] [(1,.box 27 [.int .i64 x0.1.1,.int .i64 x0.1.2.1,.sl (.sl (.int .i64)) x0.1.2.2.1,.sl (.sl (.int .i64)) x0.1.2.2.2,.sl (.sl (.pair (.int .i64) (.pair (.int .i64) (.pair (.int .i64) (.int .i64))))) x0.2.1,.sl (.sl (.int .i64)) x0.2.2])] ?_
    refine zQ h (fun hb22 h=>?_) (fun hb22 h=>?_)
    ·refine zo ?_
     refine zB [(2,.bool true)] [] ?_
     refine AW.ret ?_
     refine ablock_r ?_
     refine athen_r ?_
     obtain rfl:=Option.some.inj h
     try rw [← hd16 _ rfl] at ho15
     have h:=ho15
     try simp only at h
     refine athen_r ?_
     refine ablock_r ?_
     refine athen_r ?_
     obtain rfl:=Option.some.inj h
     exact zR [] [] []
    ·refine zm ?_
     refine athen_n ?_
     refine AW.ops ?_
     obtain ⟨c23,h⟩:=ck_some.1 h
     refine zA [(1,.bp 1 0),(3,.int .i64 (st1+1))] [(1,.box 27 [.int .i64 x0.1.1,.int .i64 x0.1.2.1,.sl (.sl (.int .i64)) x0.1.2.2.1,.sl (.sl (.int .i64)) x0.1.2.2.2,.sl (.sl (.pair (.int .i64) (.pair (.int .i64) (.pair (.int .i64) (.int .i64))))) x0.2.1,.sl (.sl (.int .i64)) x0.2.2])] ?_
     obtain rfl:=Option.some.inj h
     exact ⟨_,rfl,zL [] [] []⟩
   ·refine AW.exit ?_
    refine athen_e ?_
    obtain rfl:=Option.some.inj h
    try rw [← hd16 _ rfl] at ho15
    have h:=ho15
    try simp only at h
    refine athen_e ?_
    refine ablock_s ?_
    refine athen_n ?_
    exact AW.weaken (zL [] [] []) (hk_lineallaw08_Large_k1 () h)
theorem hc_code_bare (l:Int×Int×Int×Int) {r:Int×Int} (h:code_bare l=some r):HC Try.prog 145 [] [.agg [.int .i64 l.1,.int .i64 l.2.1,.int .i64 l.2.2.1,.int .i64 l.2.2.2]] [] (.agg [.int .i64 l.1,.int .i64 l.2.1,.int .i64 r.1,.int .i64 r.2]):=by
 unfold code_bare at h
 refine zH Try.func145 [.cell 2 74] 23 ?_
 refine zo ?_
 refine zB [(1,.bp 1 0),(2,.bp 2 0)] [(1,.box 74 [.int .i64 l.1,.int .i64 l.2.1,.int .i64 l.2.2.1,.int .i64 l.2.2.2]),(2,.box 74 [.int .i64 0,.int .i64 0,.int .i64 0,.int .i64 0])] ?_
 refine zo ?_
 refine zB [(1,.bp 1 0),(2,.bp 2 0),(4,.int .i64 l.1)] [(1,.box 74 [.int .i64 l.1,.int .i64 l.2.1,.int .i64 l.2.2.1,.int .i64 l.2.2.2]),(2,.box 74 [.int .i64 0,.int .i64 0,.int .i64 0,.int .i64 0])] ?_
 refine AW.block ?_
 refine AW.seq ?_
 refine zo ?_
 refine zB [(1,.bp 1 0),(2,.bp 2 0),(4,.int .i64 l.1),(12,.bool (decide (l.1=3)))] [(1,.box 74 [.int .i64 l.1,.int .i64 l.2.1,.int .i64 l.2.2.1,.int .i64 l.2.2.2]),(2,.box 74 [.int .i64 0,.int .i64 0,.int .i64 0,.int .i64 0])] ?_
 refine zQ h (fun hb1 h=>?_) (fun hb1 h=>?_)
 ·refine zk ?_
  refine zQ h (fun hb2 h=>?_) (fun hb2 h=>?_)
  ·refine zo ?_
   refine zB [(2,.bp 2 0)] [(2,.box 74 [.int .i64 l.1,.int .i64 l.2.1,.int .i64 l.2.2.1,.int .i64 l.2.2.2])] ?_
   refine AW.ret ?_
   refine ablock_r ?_
   obtain rfl:=Option.some.inj h
   exact zR [] [] []
  ·exact absurd (hb1.symm.trans hb2) (by decide)
 ·refine AW.ops ?_
  refine zB [(1,.bp 1 0),(2,.bp 2 0),(4,.int .i64 l.1),(12,.bool (decide (l.1=5)))] [(1,.box 74 [.int .i64 l.1,.int .i64 l.2.1,.int .i64 l.2.2.1,.int .i64 l.2.2.2]),(2,.box 74 [.int .i64 0,.int .i64 0,.int .i64 0,.int .i64 0])] ?_
  refine zQ h (fun hb3 h=>?_) (fun hb3 h=>?_)
  ·refine zo ?_
   refine zB [(2,.bp 2 0)] [(2,.box 74 [.int .i64 l.1,.int .i64 l.2.1,.int .i64 l.2.2.1,.int .i64 l.2.2.2])] ?_
   refine AW.ret ?_
   refine ablock_r ?_
   obtain rfl:=Option.some.inj h
   exact zR [] [] []
  ·refine zo ?_
   refine zB [(1,.bp 1 0),(2,.bp 2 0),(16,.bool (decide (l.1=7)))] [(1,.box 74 [.int .i64 l.1,.int .i64 l.2.1,.int .i64 l.2.2.1,.int .i64 l.2.2.2]),(2,.box 74 [.int .i64 0,.int .i64 0,.int .i64 0,.int .i64 0])] ?_
   refine zQ h (fun hb4 h=>?_) (fun hb4 h=>?_)
   ·refine zo ?_
    refine zS 5 [(2,.bp 2 0),(22,.agg [.int .i64 l.1,.int .i64 l.2.1,.int .i64 0,.int .i64 0])] [(2,.box 74 [.int .i64 0,.int .i64 0,.int .i64 0,.int .i64 0])] ?_
    refine zB [(2,.bp 2 0)] [(2,.box 74 [.int .i64 l.1,.int .i64 l.2.1,.int .i64 0,.int .i64 0])] ?_
    refine AW.ret ?_
    refine ablock_r ?_
    obtain rfl:=Option.some.inj h
    exact zR [] [] []
   ·refine zo ?_
    refine zS 5 [(2,.bp 2 0),(6,.int .i64 l.1),(8,.int .i64 l.2.1),(9,.bp 1 2)] [(1,.box 74 [.int .i64 l.1,.int .i64 l.2.1,.int .i64 l.2.2.1,.int .i64 l.2.2.2]),(2,.box 74 [.int .i64 0,.int .i64 0,.int .i64 0,.int .i64 0])] ?_
    refine zB [(2,.bp 2 0)] [(2,.box 74 [.int .i64 l.1,.int .i64 l.2.1,.int .i64 l.2.2.1,.int .i64 0])] ?_
    refine AW.ret ?_
    refine ablock_r ?_
    obtain rfl:=Option.some.inj h
    exact zR [] [] []
theorem hc_code_isBelow (number:Int) (end0:Int) {r:Bool} (h:code_isBelow number end0=some r):HC Try.prog 118 [] [.int .i64 number,.int .i64 end0] [] (.bool r):=by
 unfold code_isBelow at h
 refine zH Try.func118 [.tmp 4] 12 ?_
 refine zo ?_
 refine zB [(0,.int .i64 number),(1,.int .i64 end0)] [] ?_
 refine zo ?_
 refine zS 3 [(0,.int .i64 number),(1,.int .i64 end0),(7,.bool (decide (0≤number)))] [] ?_
 rcases zI h with ⟨hb1,h⟩|⟨hb1,h⟩
 ·refine zB [(4,.bool (decide (number<end0)))] [] ?_
  refine AW.ret ?_
  obtain rfl:=Option.some.inj h
  exact zR [] [] []
 ·refine zB [(4,.bool false)] [] ?_
  refine AW.ret ?_
  obtain rfl:=Option.some.inj h
  exact zR [] [] []
theorem hc_code_isRegister (register:Int) {r:Bool} (h:code_isRegister register=some r):HC Try.prog 146 [] [.int .i64 register] [] (.bool r):=by
 unfold code_isRegister at h
 refine zH Try.func146 [.tmp 2] 5 ?_
 refine zo ?_
 refine zB [(0,.int .i64 register)] [] ?_
 refine zo ?_
 refine zS 1 [(3,.int .i64 register)] [] ?_
 obtain ⟨v0,hv1,h⟩:=Option.bind_eq_some_iff.1 h
 refine zC [] [] (hc_code_isBelow register 4 hv1) [(4,.bool v0)] [] ?_
 refine zB [(2,.bool v0)] [] ?_
 refine AW.ret ?_
 obtain rfl:=Option.some.inj h
 exact zR [] [] []
theorem hc_code_isCell (cell:Int) {r:Bool} (h:code_isCell cell=some r):HC Try.prog 84 [] [.int .i64 cell] [] (.bool r):=by
 unfold code_isCell at h
 refine zH Try.func84 [.tmp 2] 5 ?_
 refine zo ?_
 refine zB [(0,.int .i64 cell)] [] ?_
 refine zo ?_
 refine zS 1 [(3,.int .i64 cell)] [] ?_
 obtain ⟨v0,hv1,h⟩:=Option.bind_eq_some_iff.1 h
 refine zC [] [] (hc_code_isBelow cell 3 hv1) [(4,.bool v0)] [] ?_
 refine zB [(2,.bool v0)] [] ?_
 refine AW.ret ?_
 obtain rfl:=Option.some.inj h
 exact zR [] [] []
end Go.Proofs.Ytenchhmcjmjlbaa
