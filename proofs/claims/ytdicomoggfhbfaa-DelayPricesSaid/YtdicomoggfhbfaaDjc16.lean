import Derived.Test.YtdicomoggfhbfaaDlp
import Derived.Test.YtdicomoggfhbfaaShd
import Derived.Test.YtdicomoggfhbfaaDjc1
import Derived.Test.YtdicomoggfhbfaaDjc11
import Derived.Test.YtdicomoggfhbfaaDjc12
import Derived.Test.YtdicomoggfhbfaaDjc13
import Derived.Test.YtdicomoggfhbfaaDjc14
import Derived.Test.YtdicomoggfhbfaaDjc15
import Derived.Test.YtdicomoggfhbfaaDjc3
import Derived.Test.YtdicomoggfhbfaaDjc9
namespace Go.Proofs.Ytdicomoggfhbfaa
open Go.RowKit
set_option linter.unusedSimpArgs false
set_option linter.unusedVariables false
set_option linter.constructorNameAsVariable false
set_option maxRecDepth 100000
set_option maxHeartbeats 40000000
theorem hc_delay_offer_prices (o:(List (List (Int×Bool)))×(List (Int×Int×Int))×(List (List Int))) {r:(List Int)} (h:delay_offer_prices o=some r):HC Try.prog 99 [] [.agg [.sl (.sl (.pair (.int .i64) .bool)) o.1,.sl Y0 o.2.1,.sl (.sl (.int .i64)) o.2.2]] [(2000,.arr 3 (.int .i64) r)] (.own 2000):=by
 unfold delay_offer_prices at h
 refine zH Try.func99 [.tmp 2] 36 ?_
 refine zo ?_
 refine zB [(1,.bp 1 0)] [(1,.box 103 [.sl (.sl (.pair (.int .i64) .bool)) o.1,.sl Y0 o.2.1,.sl (.sl (.int .i64)) o.2.2])] ?_
 refine zo ?_
 obtain ⟨c1,h⟩:=ck_some.1 h
 refine zB [(1,.bp 1 0),(3,.own 10)] [(1,.box 103 [.sl (.sl (.pair (.int .i64) .bool)) o.1,.sl Y0 o.2.1,.sl (.sl (.int .i64)) o.2.2]),(10,.arr 3 (.int .i64) (List.replicate o.2.1.length (0:Int)))] ?_
 refine AW.have1 (fun b2_2:(List Int)=>delay_offer_prices_k1 b2_2=some r) (fun b2_2=>⟨fr [(3,.own 10)],hpGet [(10,.arr 3 (.int .i64) b2_2)],gt⟩) (fun b2_2 h=>?_) (fun hk_delay_offer_prices_k1=>?_)
 ·as_aux_lemma =>
   unfold delay_offer_prices_k1 at h
   refine zo ?_
   refine zB [(2,.own 10)] [(10,.arr 3 (.int .i64) b2_2)] ?_
   refine AW.ret ?_
   obtain rfl:=Option.some.inj h
   exact zR [] [] [(2000,10)]
 ·refine AW.seq ?_
  refine zo ?_
  refine zB [(1,.bp 1 0),(3,.own 10),(11,.int .i64 0)] [(1,.box 103 [.sl (.sl (.pair (.int .i64) .bool)) o.1,.sl Y0 o.2.1,.sl (.sl (.int .i64)) o.2.2]),(10,.arr 3 (.int .i64) (List.replicate o.2.1.length (0:Int)))] ?_
  refine AW.block ?_
  obtain ⟨rv6,hw2,ho3⟩:=Option.bind_eq_some_iff.1 h
  refine AW.loopO (delay_offer_prices_b1 o) (fun st1=>⟨fr [(1,.bp 1 0),(3,.own 10),(11,.int .i64 st1.2)],hpGet [(1,.box 103 [.sl (.sl (.pair (.int .i64) .bool)) o.1,.sl Y0 o.2.1,.sl (.sl (.int .i64)) o.2.2]),(10,.arr 3 (.int .i64) st1.1)],gt⟩) ((List.replicate o.2.1.length (0:Int)),0) hw2 (zL [] [] []) ?_
  as_aux_lemma =>
   intro st1 x5 h hd4
   unfold delay_offer_prices_b1 at h
   refine zo ?_
   refine zB [(1,.bp 1 0),(3,.own 10),(11,.int .i64 st1.2),(12,.bool (decide (st1.2<4)))] [(1,.box 103 [.sl (.sl (.pair (.int .i64) .bool)) o.1,.sl Y0 o.2.1,.sl (.sl (.int .i64)) o.2.2]),(10,.arr 3 (.int .i64) st1.1)] ?_
   refine AW.seq ?_
   refine zQ h (fun hb7 h=>?_) (fun hb7 h=>?_)
   ·refine zk ?_
    refine AW.have1 (fun b2:(List Int)=>delay_offer_prices_k2 st1 b2=some x5) (fun b2=>⟨fr [(1,.bp 1 0),(3,.own 10),(11,.int .i64 st1.2)],hpGet [(1,.box 103 [.sl (.sl (.pair (.int .i64) .bool)) o.1,.sl Y0 o.2.1,.sl (.sl (.int .i64)) o.2.2]),(10,.arr 3 (.int .i64) b2)],gt⟩) (fun b2 h=>?_) (fun hk_delay_offer_prices_k2=>?_)
    ·as_aux_lemma =>
      unfold delay_offer_prices_k2 at h
      refine AW.ops ?_
      obtain ⟨c8,h⟩:=ck_some.1 h
      refine zA [(1,.bp 1 0),(3,.own 10),(11,.int .i64 (st1.2+1))] [(1,.box 103 [.sl (.sl (.pair (.int .i64) .bool)) o.1,.sl Y0 o.2.1,.sl (.sl (.int .i64)) o.2.2]),(10,.arr 3 (.int .i64) b2)] ?_
      obtain rfl:=Option.some.inj h
      exact ⟨_,rfl,zL [] [] []⟩
    ·refine AW.seq ?_
     refine AW.block ?_
     refine zo ?_
     refine zB [(1,.bp 1 0),(3,.own 10),(4,.int .i64 st1.2),(11,.int .i64 st1.2)] [(1,.box 103 [.sl (.sl (.pair (.int .i64) .bool)) o.1,.sl Y0 o.2.1,.sl (.sl (.int .i64)) o.2.2]),(10,.arr 3 (.int .i64) st1.1)] ?_
     refine zo ?_
     refine zB [(1,.bp 1 0),(3,.own 10),(4,.int .i64 st1.2),(11,.int .i64 st1.2),(15,.sl Y0 o.2.1),(16,.int .i64 (o.2.1.length:Int)),(17,.int .i64 0)] [(1,.box 103 [.sl (.sl (.pair (.int .i64) .bool)) o.1,.sl Y0 o.2.1,.sl (.sl (.int .i64)) o.2.2]),(10,.arr 3 (.int .i64) st1.1)] ?_
     refine AW.block ?_
     obtain ⟨rv13,hw9,ho10⟩:=Option.bind_eq_some_iff.1 h
     refine AW.loopO (delay_offer_prices_b2 o st1) (fun st2=>⟨fr [(1,.bp 1 0),(3,.own 10),(4,.int .i64 st1.2),(11,.int .i64 st1.2),(15,.sl Y0 o.2.1),(16,.int .i64 (o.2.1.length:Int)),(17,.int .i64 st2.2)],hpGet [(1,.box 103 [.sl (.sl (.pair (.int .i64) .bool)) o.1,.sl Y0 o.2.1,.sl (.sl (.int .i64)) o.2.2]),(10,.arr 3 (.int .i64) st2.1)],gt⟩) (st1.1,0) hw9 (zL [] [] []) ?_
     as_aux_lemma =>
      intro st2 x12 h hd11
      unfold delay_offer_prices_b2 at h
      refine zo ?_
      refine zB [(1,.bp 1 0),(3,.own 10),(4,.int .i64 st1.2),(11,.int .i64 st1.2),(15,.sl Y0 o.2.1),(16,.int .i64 (o.2.1.length:Int)),(17,.int .i64 st2.2),(18,.bool (decide (st2.2<(o.2.1.length:Int))))] [(1,.box 103 [.sl (.sl (.pair (.int .i64) .bool)) o.1,.sl Y0 o.2.1,.sl (.sl (.int .i64)) o.2.2]),(10,.arr 3 (.int .i64) st2.1)] ?_
      refine AW.seq ?_
      refine zQ h (fun hb14 h=>?_) (fun hb14 h=>?_)
      ·refine zk ?_
       refine AW.seq ?_
       refine AW.block ?_
       refine zo ?_
       obtain ⟨c15,h⟩:=ck_some.1 h
       obtain ⟨c16,h⟩:=ck_some.1 h
       refine zS 5 [(1,.bp 1 0),(3,.own 10),(4,.int .i64 st1.2),(5,.int .i64 st2.2),(6,.bp 6 0),(11,.int .i64 st1.2),(15,.sl Y0 o.2.1),(16,.int .i64 (o.2.1.length:Int)),(17,.int .i64 st2.2),(21,.agg [.int .i64 (o.2.1.getD st2.2.toNat (0,0,0)).1,.int .i64 (o.2.1.getD st2.2.toNat (0,0,0)).2.1,.int .i64 (o.2.1.getD st2.2.toNat (0,0,0)).2.2])] [(1,.box 103 [.sl (.sl (.pair (.int .i64) .bool)) o.1,.sl Y0 o.2.1,.sl (.sl (.int .i64)) o.2.2]),(6,.box 35 [.int .i64 0,.int .i64 0,.int .i64 0]),(10,.arr 3 (.int .i64) st2.1)] ?_
       refine zB [(1,.bp 1 0),(3,.own 10),(4,.int .i64 st1.2),(5,.int .i64 st2.2),(6,.bp 6 0),(11,.int .i64 st1.2),(15,.sl Y0 o.2.1),(16,.int .i64 (o.2.1.length:Int)),(17,.int .i64 st2.2)] [(1,.box 103 [.sl (.sl (.pair (.int .i64) .bool)) o.1,.sl Y0 o.2.1,.sl (.sl (.int .i64)) o.2.2]),(6,.box 35 [.int .i64 (o.2.1.getD st2.2.toNat (0,0,0)).1,.int .i64 (o.2.1.getD st2.2.toNat (0,0,0)).2.1,.int .i64 (o.2.1.getD st2.2.toNat (0,0,0)).2.2]),(10,.arr 3 (.int .i64) st2.1)] ?_
       refine zo ?_
       refine zB [(1,.bp 1 0),(3,.own 10),(4,.int .i64 st1.2),(5,.int .i64 st2.2),(6,.bp 6 0),(11,.int .i64 st1.2),(15,.sl Y0 o.2.1),(16,.int .i64 (o.2.1.length:Int)),(17,.int .i64 st2.2),(25,.bool (decide ((o.2.1.getD st2.2.toNat (0,0,0)).2.2=st1.2)))] [(1,.box 103 [.sl (.sl (.pair (.int .i64) .bool)) o.1,.sl Y0 o.2.1,.sl (.sl (.int .i64)) o.2.2]),(6,.box 35 [.int .i64 (o.2.1.getD st2.2.toNat (0,0,0)).1,.int .i64 (o.2.1.getD st2.2.toNat (0,0,0)).2.1,.int .i64 (o.2.1.getD st2.2.toNat (0,0,0)).2.2]),(10,.arr 3 (.int .i64) st2.1)] ?_
       refine zQ h (fun hb17 h=>?_) (fun hb17 h=>?_)
       ·refine AW.ops ?_
        refine zS 5 [(1,.bp 1 0),(3,.own 10),(4,.int .i64 st1.2),(11,.int .i64 st1.2),(15,.sl Y0 o.2.1),(16,.int .i64 (o.2.1.length:Int)),(17,.int .i64 st2.2),(26,.own 10),(27,.int .i64 st2.2),(28,.agg [.sl (.sl (.pair (.int .i64) .bool)) o.1,.sl Y0 o.2.1,.sl (.sl (.int .i64)) o.2.2]),(29,.agg [.int .i64 (o.2.1.getD st2.2.toNat (0,0,0)).1,.int .i64 (o.2.1.getD st2.2.toNat (0,0,0)).2.1,.int .i64 (o.2.1.getD st2.2.toNat (0,0,0)).2.2]),(30,.own 10)] [(1,.box 103 [.sl (.sl (.pair (.int .i64) .bool)) o.1,.sl Y0 o.2.1,.sl (.sl (.int .i64)) o.2.2]),(10,.arr 3 (.int .i64) st2.1)] ?_
        obtain ⟨v0,hv18,h⟩:=Option.bind_eq_some_iff.1 h
        refine zC [10] [] (hc_delay_offer_most o (o.2.1.getD st2.2.toNat (0,0,0)) st2.1 hv18) [(1,.bp 1 0),(3,.own 10),(4,.int .i64 st1.2),(11,.int .i64 st1.2),(15,.sl Y0 o.2.1),(16,.int .i64 (o.2.1.length:Int)),(17,.int .i64 st2.2),(26,.own 10),(27,.int .i64 st2.2),(31,.int .i64 v0)] [(1,.box 103 [.sl (.sl (.pair (.int .i64) .bool)) o.1,.sl Y0 o.2.1,.sl (.sl (.int .i64)) o.2.2]),(10,.arr 3 (.int .i64) st2.1)] ?_
        obtain ⟨c19,h⟩:=ck_some.1 h
        obtain ⟨c20,h⟩:=ck_some.1 h
        refine zA [(1,.bp 1 0),(3,.own 10),(4,.int .i64 st1.2),(11,.int .i64 st1.2),(15,.sl Y0 o.2.1),(16,.int .i64 (o.2.1.length:Int)),(17,.int .i64 st2.2)] [(1,.box 103 [.sl (.sl (.pair (.int .i64) .bool)) o.1,.sl Y0 o.2.1,.sl (.sl (.int .i64)) o.2.2]),(10,.arr 3 (.int .i64) (st2.1.set st2.2.toNat v0))] ?_
        refine ablock_n ?_
        refine athen_n ?_
        refine AW.ops ?_
        obtain ⟨c21,h⟩:=ck_some.1 h
        refine zA [(1,.bp 1 0),(3,.own 10),(4,.int .i64 st1.2),(11,.int .i64 st1.2),(15,.sl Y0 o.2.1),(16,.int .i64 (o.2.1.length:Int)),(17,.int .i64 (st2.2+1))] [(1,.box 103 [.sl (.sl (.pair (.int .i64) .bool)) o.1,.sl Y0 o.2.1,.sl (.sl (.int .i64)) o.2.2]),(10,.arr 3 (.int .i64) (st2.1.set st2.2.toNat v0))] ?_
        obtain rfl:=Option.some.inj h
        exact ⟨_,rfl,zL [] [] []⟩
       ·refine zm ?_
        refine athen_n ?_
        refine AW.ops ?_
        obtain ⟨c22,h⟩:=ck_some.1 h
        refine zA [(1,.bp 1 0),(3,.own 10),(4,.int .i64 st1.2),(11,.int .i64 st1.2),(15,.sl Y0 o.2.1),(16,.int .i64 (o.2.1.length:Int)),(17,.int .i64 (st2.2+1))] [(1,.box 103 [.sl (.sl (.pair (.int .i64) .bool)) o.1,.sl Y0 o.2.1,.sl (.sl (.int .i64)) o.2.2]),(10,.arr 3 (.int .i64) st2.1)] ?_
        obtain rfl:=Option.some.inj h
        exact ⟨_,rfl,zL [] [] []⟩
      ·refine AW.exit ?_
       refine athen_e ?_
       obtain rfl:=Option.some.inj h
       rw [← hd11 _ rfl] at ho10
       have h:=ho10
       refine athen_e ?_
       refine ablock_s ?_
       refine ablock_n ?_
       refine athen_n ?_
       exact AW.weaken (zL [] [] []) (hk_delay_offer_prices_k2 _ h)
   ·refine AW.exit ?_
    refine athen_e ?_
    obtain rfl:=Option.some.inj h
    rw [← hd4 _ rfl] at ho3
    have h:=ho3
    refine athen_e ?_
    refine ablock_s ?_
    refine athen_n ?_
    exact AW.weaken (zL [] [] []) (hk_delay_offer_prices_k1 _ h)
theorem hc_delay_Prices (x0:List (List (Int×Bool))) (costs:List (List Int)) {r:(List Int)×Int} (h:delay_Prices x0 costs=some r):HC Try.prog 47 [] [.sl (.sl (.pair (.int .i64) .bool)) x0,.sl (.sl (.int .i64)) costs] [(2000,.arr 3 (.int .i64) r.1)] (.tup [.own 2000,.int .i64 r.2]):=by
 unfold delay_Prices at h
 refine zH Try.func47 [.tmp 4,.tmp 5] 19 ?_
 refine zo ?_
 refine zB [(0,.sl (.sl (.pair (.int .i64) .bool)) x0),(1,.sl (.sl (.int .i64)) costs)] [] ?_
 refine zo ?_
 refine zS 2 [(9,.sl (.sl (.pair (.int .i64) .bool)) x0),(10,.sl (.sl (.int .i64)) costs)] [] ?_
 obtain ⟨v0,hv1,h⟩:=Option.bind_eq_some_iff.1 h
 refine zC [] [] (hc_delay_offerOf x0 costs hv1) [(11,.tup [.agg [.sl (.sl (.pair (.int .i64) .bool)) v0.1,.own 21000,.sl (.sl (.int .i64)) v0.2.2.1],.int .i64 v0.2.2.2])] [(21000,.arr 35 Y0 v0.2.1)] ?_
 refine AO.weaken (s':=⟨fr [(11,.tup [.agg [.sl (.sl (.pair (.int .i64) .bool)) v0.1,.sl Y0 v0.2.1,.sl (.sl (.int .i64)) v0.2.2.1],.int .i64 v0.2.2.2])],hpGet [],gt⟩) (zL [21000] [] []) ?_
 refine zS 5 [(6,.bp 6 0),(13,.int .i64 v0.2.2.2)] [(6,.box 103 [.sl (.sl (.pair (.int .i64) .bool)) v0.1,.sl Y0 v0.2.1,.sl (.sl (.int .i64)) v0.2.2.1])] ?_
 refine zB [(6,.bp 6 0),(7,.int .i64 v0.2.2.2)] [(6,.box 103 [.sl (.sl (.pair (.int .i64) .bool)) v0.1,.sl Y0 v0.2.1,.sl (.sl (.int .i64)) v0.2.2.1])] ?_
 refine AW.seq ?_
 refine zo ?_
 refine zB [(6,.bp 6 0),(7,.int .i64 v0.2.2.2),(15,.bool (!(decide (v0.2.2.2=0))))] [(6,.box 103 [.sl (.sl (.pair (.int .i64) .bool)) v0.1,.sl Y0 v0.2.1,.sl (.sl (.int .i64)) v0.2.2.1])] ?_
 refine zQ h (fun hb2 h=>?_) (fun hb2 h=>?_)
 ·refine zo ?_
  refine zB [(4,.cv (.slice none 0 0)),(5,.int .i64 v0.2.2.2)] [] ?_
  refine zr ?_
  obtain rfl:=Option.some.inj h
  exact zR [] [2000] []
 ·refine zk ?_
  refine zo ?_
  refine zS 1 [(17,.agg [.sl (.sl (.pair (.int .i64) .bool)) v0.1,.sl Y0 v0.2.1,.sl (.sl (.int .i64)) v0.2.2.1])] [] ?_
  obtain ⟨v0_2,hv3,h⟩:=Option.bind_eq_some_iff.1 h
  refine zC [] [] (hc_delay_offer_prices (v0.1,v0.2.1,v0.2.2.1) hv3) [(18,.own 28000)] [(28000,.arr 3 (.int .i64) v0_2)] ?_
  refine zB [(4,.own 28000),(5,.int .i64 0)] [(28000,.arr 3 (.int .i64) v0_2)] ?_
  refine AW.ret ?_
  obtain rfl:=Option.some.inj h
  exact zR [] [] [(2000,28000)]
theorem hc_lineallaw09_DelayPrices (x0:List (List (Int×Bool))) (costs:List (List Int)) (prices:List Int) (cost:Int) {r:Bool} (h:lineallaw09_DelayPrices x0 costs prices cost=some r):HC Try.prog 6 [] [.sl (.sl (.pair (.int .i64) .bool)) x0,.sl (.sl (.int .i64)) costs,.sl (.int .i64) prices,.int .i64 cost] [] (.bool r):=by
 unfold lineallaw09_DelayPrices at h
 refine zH Try.func6 [.tmp 8] 134 ?_
 refine zo ?_
 refine zB [(0,.sl (.sl (.pair (.int .i64) .bool)) x0),(1,.sl (.sl (.int .i64)) costs),(2,.sl (.int .i64) prices),(3,.int .i64 cost)] [] ?_
 refine AW.seq ?_
 refine zo ?_
 refine zS 1 [(0,.sl (.sl (.pair (.int .i64) .bool)) x0),(1,.sl (.sl (.int .i64)) costs),(2,.sl (.int .i64) prices),(3,.int .i64 cost),(20,.sl (.sl (.pair (.int .i64) .bool)) x0)] [] ?_
 obtain ⟨v0,hv1,h⟩:=Option.bind_eq_some_iff.1 h
 refine zC [] [] (hc_lineallaw09_Long x0 hv1) [(0,.sl (.sl (.pair (.int .i64) .bool)) x0),(1,.sl (.sl (.int .i64)) costs),(2,.sl (.int .i64) prices),(3,.int .i64 cost),(21,.bool v0)] [] ?_
 refine zS 1 [(0,.sl (.sl (.pair (.int .i64) .bool)) x0),(1,.sl (.sl (.int .i64)) costs),(2,.sl (.int .i64) prices),(3,.int .i64 cost),(22,.bool v0)] [] ?_
 rcases zI h with ⟨hb2,h⟩|⟨hb2,h⟩
 ·refine zS 5 [(0,.sl (.sl (.pair (.int .i64) .bool)) x0),(1,.sl (.sl (.int .i64)) costs),(2,.sl (.int .i64) prices),(3,.int .i64 cost),(26,.bool true),(27,.cv (undef))] [] ?_
  refine zB [(0,.sl (.sl (.pair (.int .i64) .bool)) x0),(1,.sl (.sl (.int .i64)) costs),(2,.sl (.int .i64) prices),(3,.int .i64 cost),(30,.bool true)] [] ?_
  refine AW.cond (b:=true) rfl (fun _=>?_) (fun hb3=>by cases hb3)
  refine zo ?_
  obtain ⟨v0_2,hv4,h⟩:=Option.bind_eq_some_iff.1 h
  refine zC [] [] (hc_lineallaw09_Awake hv4) [(31,.bool v0_2)] [] ?_
  refine zB [(8,.bool v0_2)] [] ?_
  refine zr ?_
  obtain rfl:=Option.some.inj h
  exact zR [] [] []
 ·refine zS 1 [(0,.sl (.sl (.pair (.int .i64) .bool)) x0),(1,.sl (.sl (.int .i64)) costs),(2,.sl (.int .i64) prices),(3,.int .i64 cost),(22,.bool false),(23,.sl (.sl (.int .i64)) costs)] [] ?_
  obtain ⟨v0_3,hv5,h⟩:=Option.bind_eq_some_iff.1 h
  refine zG [] [] (hc_lineallaw09_wide costs hv5) [(0,.sl (.sl (.pair (.int .i64) .bool)) x0),(1,.sl (.sl (.int .i64)) costs),(2,.sl (.int .i64) prices),(3,.int .i64 cost),(22,.bool false),(24,.bool v0_3)] [] ?_
  refine zS 2 [(0,.sl (.sl (.pair (.int .i64) .bool)) x0),(1,.sl (.sl (.int .i64)) costs),(2,.sl (.int .i64) prices),(3,.int .i64 cost),(26,.bool v0_3)] [] ?_
  rcases zI h with ⟨hb6,h⟩|⟨hb6,h⟩
  ·refine zB [(0,.sl (.sl (.pair (.int .i64) .bool)) x0),(1,.sl (.sl (.int .i64)) costs),(2,.sl (.int .i64) prices),(3,.int .i64 cost),(30,.bool true)] [] ?_
   refine AW.cond (b:=true) rfl (fun _=>?_) (fun hb7=>by cases hb7)
   refine zo ?_
   obtain ⟨v0_4,hv8,h⟩:=Option.bind_eq_some_iff.1 h
   refine zC [] [] (hc_lineallaw09_Awake hv8) [(31,.bool v0_4)] [] ?_
   refine zB [(8,.bool v0_4)] [] ?_
   refine zr ?_
   obtain rfl:=Option.some.inj h
   exact zR [] [] []
  ·refine zB [(0,.sl (.sl (.pair (.int .i64) .bool)) x0),(1,.sl (.sl (.int .i64)) costs),(2,.sl (.int .i64) prices),(3,.int .i64 cost),(30,.bool (decide (100<(prices.length:Int))))] [] ?_
   refine zQ h (fun hb9 h=>?_) (fun hb9 h=>?_)
   ·refine zo ?_
    obtain ⟨v0_5,hv10,h⟩:=Option.bind_eq_some_iff.1 h
    refine zC [] [] (hc_lineallaw09_Awake hv10) [(31,.bool v0_5)] [] ?_
    refine zB [(8,.bool v0_5)] [] ?_
    refine zr ?_
    obtain rfl:=Option.some.inj h
    exact zR [] [] []
   ·refine zk ?_
    refine zo ?_
    refine zS 2 [(0,.sl (.sl (.pair (.int .i64) .bool)) x0),(1,.sl (.sl (.int .i64)) costs),(2,.sl (.int .i64) prices),(3,.int .i64 cost),(33,.sl (.sl (.pair (.int .i64) .bool)) x0),(34,.sl (.sl (.int .i64)) costs)] [] ?_
    obtain ⟨v0_6,hv11,h⟩:=Option.bind_eq_some_iff.1 h
    refine zC [] [] (hc_delay_Cheapest x0 costs hv11) [(0,.sl (.sl (.pair (.int .i64) .bool)) x0),(1,.sl (.sl (.int .i64)) costs),(2,.sl (.int .i64) prices),(3,.int .i64 cost),(35,.tup [.sl (.pair (.int .i64) (.int .i64)) v0_6.1,.int .i64 v0_6.2])] [] ?_
    refine zB [(0,.sl (.sl (.pair (.int .i64) .bool)) x0),(1,.sl (.sl (.int .i64)) costs),(2,.sl (.int .i64) prices),(3,.int .i64 cost),(9,.sl (.pair (.int .i64) (.int .i64)) v0_6.1),(10,.int .i64 v0_6.2)] [] ?_
    refine zo ?_
    refine zS 2 [(0,.sl (.sl (.pair (.int .i64) .bool)) x0),(1,.sl (.sl (.int .i64)) costs),(2,.sl (.int .i64) prices),(3,.int .i64 cost),(9,.sl (.pair (.int .i64) (.int .i64)) v0_6.1),(10,.int .i64 v0_6.2),(39,.sl (.sl (.pair (.int .i64) .bool)) x0),(40,.sl (.sl (.int .i64)) costs)] [] ?_
    obtain ⟨v0_7,hv12,h⟩:=Option.bind_eq_some_iff.1 h
    refine zC [] [] (hc_linealref09_Cheapest x0 costs hv12) [(0,.sl (.sl (.pair (.int .i64) .bool)) x0),(1,.sl (.sl (.int .i64)) costs),(2,.sl (.int .i64) prices),(3,.int .i64 cost),(9,.sl (.pair (.int .i64) (.int .i64)) v0_6.1),(10,.int .i64 v0_6.2),(41,.tup [.sl (.pair (.int .i64) (.int .i64)) v0_7.1,.int .i64 v0_7.2])] [] ?_
    refine zB [(0,.sl (.sl (.pair (.int .i64) .bool)) x0),(1,.sl (.sl (.int .i64)) costs),(2,.sl (.int .i64) prices),(3,.int .i64 cost),(9,.sl (.pair (.int .i64) (.int .i64)) v0_6.1),(10,.int .i64 v0_6.2),(11,.sl (.pair (.int .i64) (.int .i64)) v0_7.1),(12,.int .i64 v0_7.2)] [] ?_
    refine zo ?_
    refine zS 2 [(0,.sl (.sl (.pair (.int .i64) .bool)) x0),(1,.sl (.sl (.int .i64)) costs),(2,.sl (.int .i64) prices),(3,.int .i64 cost),(9,.sl (.pair (.int .i64) (.int .i64)) v0_6.1),(10,.int .i64 v0_6.2),(11,.sl (.pair (.int .i64) (.int .i64)) v0_7.1),(12,.int .i64 v0_7.2),(45,.sl (.sl (.pair (.int .i64) .bool)) x0),(46,.sl (.sl (.int .i64)) costs)] [] ?_
    obtain ⟨v0_8,hv13,h⟩:=Option.bind_eq_some_iff.1 h
    refine zC [] [] (hc_delay_Least x0 costs hv13) [(0,.sl (.sl (.pair (.int .i64) .bool)) x0),(1,.sl (.sl (.int .i64)) costs),(2,.sl (.int .i64) prices),(3,.int .i64 cost),(9,.sl (.pair (.int .i64) (.int .i64)) v0_6.1),(10,.int .i64 v0_6.2),(11,.sl (.pair (.int .i64) (.int .i64)) v0_7.1),(12,.int .i64 v0_7.2),(47,.tup [.int .i64 v0_8.1,.int .i64 v0_8.2])] [] ?_
    refine zB [(0,.sl (.sl (.pair (.int .i64) .bool)) x0),(1,.sl (.sl (.int .i64)) costs),(2,.sl (.int .i64) prices),(3,.int .i64 cost),(9,.sl (.pair (.int .i64) (.int .i64)) v0_6.1),(10,.int .i64 v0_6.2),(11,.sl (.pair (.int .i64) (.int .i64)) v0_7.1),(12,.int .i64 v0_7.2),(13,.int .i64 v0_8.1),(14,.int .i64 v0_8.2)] [] ?_
    refine zo ?_
    refine zS 2 [(0,.sl (.sl (.pair (.int .i64) .bool)) x0),(1,.sl (.sl (.int .i64)) costs),(2,.sl (.int .i64) prices),(3,.int .i64 cost),(9,.sl (.pair (.int .i64) (.int .i64)) v0_6.1),(10,.int .i64 v0_6.2),(11,.sl (.pair (.int .i64) (.int .i64)) v0_7.1),(12,.int .i64 v0_7.2),(13,.int .i64 v0_8.1),(14,.int .i64 v0_8.2),(51,.sl (.sl (.pair (.int .i64) .bool)) x0),(52,.sl (.sl (.int .i64)) costs)] [] ?_
    obtain ⟨v0_9,hv14,h⟩:=Option.bind_eq_some_iff.1 h
    refine zC [] [] (hc_linealref09_Least x0 costs hv14) [(0,.sl (.sl (.pair (.int .i64) .bool)) x0),(1,.sl (.sl (.int .i64)) costs),(2,.sl (.int .i64) prices),(3,.int .i64 cost),(9,.sl (.pair (.int .i64) (.int .i64)) v0_6.1),(10,.int .i64 v0_6.2),(11,.sl (.pair (.int .i64) (.int .i64)) v0_7.1),(12,.int .i64 v0_7.2),(13,.int .i64 v0_8.1),(14,.int .i64 v0_8.2),(53,.tup [.int .i64 v0_9.1,.int .i64 v0_9.2])] [] ?_
    refine zB [(0,.sl (.sl (.pair (.int .i64) .bool)) x0),(1,.sl (.sl (.int .i64)) costs),(2,.sl (.int .i64) prices),(3,.int .i64 cost),(9,.sl (.pair (.int .i64) (.int .i64)) v0_6.1),(10,.int .i64 v0_6.2),(11,.sl (.pair (.int .i64) (.int .i64)) v0_7.1),(12,.int .i64 v0_7.2),(13,.int .i64 v0_8.1),(14,.int .i64 v0_8.2),(15,.int .i64 v0_9.1),(16,.int .i64 v0_9.2)] [] ?_
    refine AW.seq ?_
    refine zo ?_
    refine zS 2 [(0,.sl (.sl (.pair (.int .i64) .bool)) x0),(1,.sl (.sl (.int .i64)) costs),(2,.sl (.int .i64) prices),(3,.int .i64 cost),(10,.int .i64 v0_6.2),(12,.int .i64 v0_7.2),(13,.int .i64 v0_8.1),(14,.int .i64 v0_8.2),(15,.int .i64 v0_9.1),(16,.int .i64 v0_9.2),(56,.sl (.pair (.int .i64) (.int .i64)) v0_6.1),(57,.sl (.pair (.int .i64) (.int .i64)) v0_7.1)] [] ?_
    obtain ⟨v0_10,hv15,h⟩:=Option.bind_eq_some_iff.1 h
    refine zC [] [] (hc_linealref09_SameFences v0_6.1 v0_7.1 hv15) [(0,.sl (.sl (.pair (.int .i64) .bool)) x0),(1,.sl (.sl (.int .i64)) costs),(2,.sl (.int .i64) prices),(3,.int .i64 cost),(10,.int .i64 v0_6.2),(12,.int .i64 v0_7.2),(13,.int .i64 v0_8.1),(14,.int .i64 v0_8.2),(15,.int .i64 v0_9.1),(16,.int .i64 v0_9.2),(58,.bool v0_10)] [] ?_
    refine zS 2 [(0,.sl (.sl (.pair (.int .i64) .bool)) x0),(1,.sl (.sl (.int .i64)) costs),(2,.sl (.int .i64) prices),(3,.int .i64 cost),(10,.int .i64 v0_6.2),(12,.int .i64 v0_7.2),(13,.int .i64 v0_8.1),(14,.int .i64 v0_8.2),(15,.int .i64 v0_9.1),(16,.int .i64 v0_9.2),(60,.bool (!v0_10))] [] ?_
    rcases zI h with ⟨hb16,h⟩|⟨hb16,h⟩
    ·refine zS 5 [(0,.sl (.sl (.pair (.int .i64) .bool)) x0),(1,.sl (.sl (.int .i64)) costs),(2,.sl (.int .i64) prices),(3,.int .i64 cost),(13,.int .i64 v0_8.1),(14,.int .i64 v0_8.2),(15,.int .i64 v0_9.1),(16,.int .i64 v0_9.2),(65,.bool true)] [] ?_
     refine zS 5 [(0,.sl (.sl (.pair (.int .i64) .bool)) x0),(1,.sl (.sl (.int .i64)) costs),(2,.sl (.int .i64) prices),(3,.int .i64 cost),(14,.int .i64 v0_8.2),(15,.int .i64 v0_9.1),(16,.int .i64 v0_9.2),(70,.bool true)] [] ?_
     refine zB [(0,.sl (.sl (.pair (.int .i64) .bool)) x0),(1,.sl (.sl (.int .i64)) costs),(2,.sl (.int .i64) prices),(3,.int .i64 cost),(15,.int .i64 v0_9.1),(16,.int .i64 v0_9.2),(74,.bool true)] [] ?_
     refine AW.cond (b:=true) rfl (fun _=>?_) (fun hb17=>by cases hb17)
     refine zo ?_
     refine zB [(8,.bool false)] [] ?_
     refine zr ?_
     obtain rfl:=Option.some.inj h
     exact zR [] [] []
    ·refine zS 5 [(0,.sl (.sl (.pair (.int .i64) .bool)) x0),(1,.sl (.sl (.int .i64)) costs),(2,.sl (.int .i64) prices),(3,.int .i64 cost),(13,.int .i64 v0_8.1),(14,.int .i64 v0_8.2),(15,.int .i64 v0_9.1),(16,.int .i64 v0_9.2),(65,.bool (!(decide (v0_6.2=v0_7.2))))] [] ?_
     rcases zI h with ⟨hb18,h⟩|⟨hb18,h⟩
     ·refine zS 5 [(0,.sl (.sl (.pair (.int .i64) .bool)) x0),(1,.sl (.sl (.int .i64)) costs),(2,.sl (.int .i64) prices),(3,.int .i64 cost),(14,.int .i64 v0_8.2),(15,.int .i64 v0_9.1),(16,.int .i64 v0_9.2),(70,.bool true)] [] ?_
      refine zB [(0,.sl (.sl (.pair (.int .i64) .bool)) x0),(1,.sl (.sl (.int .i64)) costs),(2,.sl (.int .i64) prices),(3,.int .i64 cost),(15,.int .i64 v0_9.1),(16,.int .i64 v0_9.2),(74,.bool true)] [] ?_
      refine AW.cond (b:=true) rfl (fun _=>?_) (fun hb19=>by cases hb19)
      refine zo ?_
      refine zB [(8,.bool false)] [] ?_
      refine zr ?_
      obtain rfl:=Option.some.inj h
      exact zR [] [] []
     ·refine zS 5 [(0,.sl (.sl (.pair (.int .i64) .bool)) x0),(1,.sl (.sl (.int .i64)) costs),(2,.sl (.int .i64) prices),(3,.int .i64 cost),(14,.int .i64 v0_8.2),(15,.int .i64 v0_9.1),(16,.int .i64 v0_9.2),(70,.bool (!(decide (v0_8.1=v0_9.1))))] [] ?_
      rcases zI h with ⟨hb20,h⟩|⟨hb20,h⟩
      ·refine zB [(0,.sl (.sl (.pair (.int .i64) .bool)) x0),(1,.sl (.sl (.int .i64)) costs),(2,.sl (.int .i64) prices),(3,.int .i64 cost),(15,.int .i64 v0_9.1),(16,.int .i64 v0_9.2),(74,.bool true)] [] ?_
       refine AW.cond (b:=true) rfl (fun _=>?_) (fun hb21=>by cases hb21)
       refine zo ?_
       refine zB [(8,.bool false)] [] ?_
       refine zr ?_
       obtain rfl:=Option.some.inj h
       exact zR [] [] []
      ·refine zB [(0,.sl (.sl (.pair (.int .i64) .bool)) x0),(1,.sl (.sl (.int .i64)) costs),(2,.sl (.int .i64) prices),(3,.int .i64 cost),(15,.int .i64 v0_9.1),(16,.int .i64 v0_9.2),(74,.bool (!(decide (v0_8.2=v0_9.2))))] [] ?_
       refine zQ h (fun hb22 h=>?_) (fun hb22 h=>?_)
       ·refine zo ?_
        refine zB [(8,.bool false)] [] ?_
        refine zr ?_
        obtain rfl:=Option.some.inj h
        exact zR [] [] []
       ·refine zk ?_
        refine zo ?_
        refine zS 4 [(0,.sl (.sl (.pair (.int .i64) .bool)) x0),(1,.sl (.sl (.int .i64)) costs),(2,.sl (.int .i64) prices),(3,.int .i64 cost),(15,.int .i64 v0_9.1),(16,.int .i64 v0_9.2),(76,.sl (.sl (.pair (.int .i64) .bool)) x0),(77,.sl (.sl (.int .i64)) costs),(78,.sl (.int .i64) prices),(79,.int .i64 cost)] [] ?_
        obtain ⟨v0_11,hv23,h⟩:=Option.bind_eq_some_iff.1 h
        refine zC [] [] (hc_delay_Prove x0 costs prices cost hv23) [(0,.sl (.sl (.pair (.int .i64) .bool)) x0),(1,.sl (.sl (.int .i64)) costs),(2,.sl (.int .i64) prices),(3,.int .i64 cost),(15,.int .i64 v0_9.1),(16,.int .i64 v0_9.2),(80,.tup [.bool v0_11.1,.int .i64 v0_11.2])] [] ?_
        refine zB [(0,.sl (.sl (.pair (.int .i64) .bool)) x0),(1,.sl (.sl (.int .i64)) costs),(2,.sl (.int .i64) prices),(3,.int .i64 cost),(10,.int .i64 v0_11.2),(15,.int .i64 v0_9.1),(16,.int .i64 v0_9.2),(17,.bool v0_11.1)] [] ?_
        refine zo ?_
        refine zS 4 [(0,.sl (.sl (.pair (.int .i64) .bool)) x0),(1,.sl (.sl (.int .i64)) costs),(10,.int .i64 v0_11.2),(15,.int .i64 v0_9.1),(16,.int .i64 v0_9.2),(17,.bool v0_11.1),(84,.sl (.sl (.pair (.int .i64) .bool)) x0),(85,.sl (.sl (.int .i64)) costs),(86,.sl (.int .i64) prices),(87,.int .i64 cost)] [] ?_
        obtain ⟨v0_12,hv24,h⟩:=Option.bind_eq_some_iff.1 h
        refine zC [] [] (hc_linealref09_Prove x0 costs prices cost hv24) [(0,.sl (.sl (.pair (.int .i64) .bool)) x0),(1,.sl (.sl (.int .i64)) costs),(10,.int .i64 v0_11.2),(15,.int .i64 v0_9.1),(16,.int .i64 v0_9.2),(17,.bool v0_11.1),(88,.tup [.bool v0_12.1,.int .i64 v0_12.2])] [] ?_
        refine zB [(0,.sl (.sl (.pair (.int .i64) .bool)) x0),(1,.sl (.sl (.int .i64)) costs),(10,.int .i64 v0_11.2),(12,.int .i64 v0_12.2),(15,.int .i64 v0_9.1),(16,.int .i64 v0_9.2),(17,.bool v0_11.1),(18,.bool v0_12.1)] [] ?_
        refine zo ?_
        refine zS 2 [(0,.sl (.sl (.pair (.int .i64) .bool)) x0),(1,.sl (.sl (.int .i64)) costs),(10,.int .i64 v0_11.2),(12,.int .i64 v0_12.2),(15,.int .i64 v0_9.1),(16,.int .i64 v0_9.2),(17,.bool v0_11.1),(18,.bool v0_12.1),(92,.sl (.sl (.pair (.int .i64) .bool)) x0),(93,.sl (.sl (.int .i64)) costs)] [] ?_
        obtain ⟨v0_13,hv25,h⟩:=Option.bind_eq_some_iff.1 h
        refine zC [] [] (hc_delay_Prices x0 costs hv25) [(0,.sl (.sl (.pair (.int .i64) .bool)) x0),(1,.sl (.sl (.int .i64)) costs),(10,.int .i64 v0_11.2),(12,.int .i64 v0_12.2),(15,.int .i64 v0_9.1),(16,.int .i64 v0_9.2),(17,.bool v0_11.1),(18,.bool v0_12.1),(94,.tup [.own 104000,.int .i64 v0_13.2])] [(104000,.arr 3 (.int .i64) v0_13.1)] ?_
        refine zB [(0,.sl (.sl (.pair (.int .i64) .bool)) x0),(1,.sl (.sl (.int .i64)) costs),(10,.int .i64 v0_11.2),(12,.int .i64 v0_12.2),(14,.int .i64 v0_13.2),(15,.int .i64 v0_9.1),(16,.int .i64 v0_9.2),(17,.bool v0_11.1),(18,.bool v0_12.1),(19,.own 104000)] [(104000,.arr 3 (.int .i64) v0_13.1)] ?_
        refine AW.seq ?_
        refine zo ?_
        refine zS 4 [(0,.sl (.sl (.pair (.int .i64) .bool)) x0),(1,.sl (.sl (.int .i64)) costs),(10,.int .i64 v0_11.2),(12,.int .i64 v0_12.2),(14,.int .i64 v0_13.2),(15,.int .i64 v0_9.1),(16,.int .i64 v0_9.2),(19,.own 104000),(100,.bool ((v0_11.1==v0_12.1) != true))] [(104000,.arr 3 (.int .i64) v0_13.1)] ?_
        rcases zI h with ⟨hb26,h⟩|⟨hb26,h⟩
        ·refine zS 5 [(0,.sl (.sl (.pair (.int .i64) .bool)) x0),(1,.sl (.sl (.int .i64)) costs),(14,.int .i64 v0_13.2),(15,.int .i64 v0_9.1),(16,.int .i64 v0_9.2),(19,.own 104000),(105,.bool true)] [(104000,.arr 3 (.int .i64) v0_13.1)] ?_
         refine zB [(0,.sl (.sl (.pair (.int .i64) .bool)) x0),(1,.sl (.sl (.int .i64)) costs),(15,.int .i64 v0_9.1),(16,.int .i64 v0_9.2),(19,.own 104000),(109,.bool true)] [(104000,.arr 3 (.int .i64) v0_13.1)] ?_
         refine AW.cond (b:=true) rfl (fun _=>?_) (fun hb27=>by cases hb27)
         refine zo ?_
         refine zB [(8,.bool false)] [] ?_
         refine zr ?_
         obtain rfl:=Option.some.inj h
         exact zR [] [] []
        ·refine zS 5 [(0,.sl (.sl (.pair (.int .i64) .bool)) x0),(1,.sl (.sl (.int .i64)) costs),(14,.int .i64 v0_13.2),(15,.int .i64 v0_9.1),(16,.int .i64 v0_9.2),(19,.own 104000),(105,.bool (!(decide (v0_11.2=v0_12.2))))] [(104000,.arr 3 (.int .i64) v0_13.1)] ?_
         rcases zI h with ⟨hb28,h⟩|⟨hb28,h⟩
         ·refine zB [(0,.sl (.sl (.pair (.int .i64) .bool)) x0),(1,.sl (.sl (.int .i64)) costs),(15,.int .i64 v0_9.1),(16,.int .i64 v0_9.2),(19,.own 104000),(109,.bool true)] [(104000,.arr 3 (.int .i64) v0_13.1)] ?_
          refine AW.cond (b:=true) rfl (fun _=>?_) (fun hb29=>by cases hb29)
          refine zo ?_
          refine zB [(8,.bool false)] [] ?_
          refine zr ?_
          obtain rfl:=Option.some.inj h
          exact zR [] [] []
         ·refine zB [(0,.sl (.sl (.pair (.int .i64) .bool)) x0),(1,.sl (.sl (.int .i64)) costs),(15,.int .i64 v0_9.1),(16,.int .i64 v0_9.2),(19,.own 104000),(109,.bool (!(decide (v0_13.2=v0_9.2))))] [(104000,.arr 3 (.int .i64) v0_13.1)] ?_
          refine zQ h (fun hb30 h=>?_) (fun hb30 h=>?_)
          ·refine zo ?_
           refine zB [(8,.bool false)] [] ?_
           refine zr ?_
           obtain rfl:=Option.some.inj h
           exact zR [] [] []
          ·refine zk ?_
           refine AW.seq ?_
           refine zo ?_
           refine zB [(0,.sl (.sl (.pair (.int .i64) .bool)) x0),(1,.sl (.sl (.int .i64)) costs),(15,.int .i64 v0_9.1),(19,.own 104000),(111,.bool (!(decide (v0_9.2=0))))] [(104000,.arr 3 (.int .i64) v0_13.1)] ?_
           refine zQ h (fun hb31 h=>?_) (fun hb31 h=>?_)
           ·refine zo ?_
            refine zS 4 [(115,.bool (decide ((v0_13.1.length:Int)=0)))] [] ?_
            rcases zI h with ⟨hb32,h⟩|⟨hb32,h⟩
            ·refine zT [(115,.bool true)] [] gt ?_
             obtain ⟨v0_14,hv33,h⟩:=Option.bind_eq_some_iff.1 h
             refine zG [] [] (hc_lineallaw09_Awake hv33) [(115,.bool true),(116,.bool v0_14)] [] ?_
             refine zB [(8,.bool v0_14)] [] ?_
             refine zr ?_
             obtain rfl:=Option.some.inj h
             exact zR [] [] []
            ·refine zB [(8,.bool false)] [] ?_
             refine zr ?_
             obtain rfl:=Option.some.inj h
             exact zR [] [] []
           ·refine zk ?_
            refine zo ?_
            refine zS 4 [(119,.sl (.sl (.pair (.int .i64) .bool)) x0),(120,.sl (.sl (.int .i64)) costs),(121,.own 104000),(122,.int .i64 v0_9.1)] [(104000,.arr 3 (.int .i64) v0_13.1)] ?_
            obtain ⟨v0_15,hv34,h⟩:=Option.bind_eq_some_iff.1 h
            refine zC [104000] [] (hc_linealref09_Prove x0 costs v0_13.1 v0_9.1 hv34) [(123,.tup [.bool v0_15.1,.int .i64 v0_15.2])] [] ?_
            refine zB [(10,.int .i64 v0_15.2),(17,.bool v0_15.1)] [] ?_
            refine zo ?_
            refine zS 3 [(17,.bool v0_15.1),(128,.bool (decide (v0_15.2=0)))] [] ?_
            rcases zI h with ⟨hb35,h⟩|⟨hb35,h⟩
            ·refine zS 3 [(131,.bool v0_15.1)] [] ?_
             rcases zI h with ⟨hb36,h⟩|⟨hb36,h⟩
             ·refine zT [(131,.bool true)] [] gt ?_
              obtain ⟨v0_16,hv37,h⟩:=Option.bind_eq_some_iff.1 h
              refine zG [] [] (hc_lineallaw09_Awake hv37) [(131,.bool true),(132,.bool v0_16)] [] ?_
              refine zB [(8,.bool v0_16)] [] ?_
              refine AW.ret ?_
              obtain rfl:=Option.some.inj h
              exact zR [] [] []
             ·refine zB [(8,.bool false)] [] ?_
              refine AW.ret ?_
              obtain rfl:=Option.some.inj h
              exact zR [] [] []
            ·refine zS 5 [(133,.bool false)] [] ?_
             refine zB [(8,.bool false)] [] ?_
             refine AW.ret ?_
             obtain rfl:=Option.some.inj h
             exact zR [] [] []
end Go.Proofs.Ytdicomoggfhbfaa
