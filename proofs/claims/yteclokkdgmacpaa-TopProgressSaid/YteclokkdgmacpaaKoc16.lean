import Derived.Test.YteclokkdgmacpaaGrp
import Derived.Test.YteclokkdgmacpaaSh7
import Derived.Test.YteclokkdgmacpaaKoc15
import Derived.Test.YteclokkdgmacpaaKoc2
import Derived.Test.YteclokkdgmacpaaKoc3
import Derived.Test.YteclokkdgmacpaaKoc4
import Derived.Test.YteclokkdgmacpaaYa7
namespace Go.Proofs.Yteclokkdgmacpaa
open Go.RowKit
set_option linter.unusedSimpArgs false
set_option linter.unusedVariables false
set_option linter.constructorNameAsVariable false
set_option maxRecDepth 100000
set_option maxHeartbeats 40000000
theorem hc_progress_statement_circle_2 (s:Int) (s_2:List (Int×Int×Int×Bool)) (c0:Int) (c0_2:Int) (from0:Int) {r:(List Int)×Bool} (h:progress_statement_circle_2 s s_2 c0 c0_2 from0=some r):HC Try.prog 105 [] [.agg [.ii s,.sl Y7 s_2,.fn (.func 96) [] [.dp (.int .i64) c0 0],.fn (.func 95) [] [.dp (.int .i64) c0_2 0]],.ii from0] [(2000,.arr 3 (.int .i64) r.1)] (.tup [.own 2000,.bool r.2]):=by
 unfold progress_statement_circle_2 at h
 refine zH Try.func105 [.tmp 4,.tmp 5] 47 ?_
 refine zo ?_
 refine zB [(1,.ii from0),(2,.bp 2 0)] [(2,.box 85 [.ii s,.sl Y7 s_2,.fn (.func 96) [] [.dp (.int .i64) c0 0],.fn (.func 95) [] [.dp (.int .i64) c0_2 0]])] ?_
 refine AW.have1 (fun _:Unit=>progress_statement_circle_2_k1=some r) (fun _=>⟨fr [],hpGet [],gt⟩) (fun _ h=>?_) (fun hk_progress_statement_circle_2_k1=>?_)
 ·as_aux_lemma =>
   unfold progress_statement_circle_2_k1 at h
   refine zo ?_
   refine zB [(4,.cv (.slice none 0 0)),(5,.bool false)] [] ?_
   refine AW.ret ?_
   obtain rfl:=zj h
   exact zR [] [2000] []
 refine AW.seq ?_
 refine zo ?_
 refine zB [(1,.ii from0),(2,.bp 2 0),(12,.sl Y7 s_2),(13,.ii (s_2.length:Int)),(14,.ii 0)] [(2,.box 85 [.ii s,.sl Y7 s_2,.fn (.func 96) [] [.dp (.int .i64) c0 0],.fn (.func 95) [] [.dp (.int .i64) c0_2 0]])] ?_
 refine AW.block ?_
 obtain ⟨rv5,hw1,ho2⟩:=zw h
 refine AW.loopO (progress_statement_circle_2_b1 s s_2 c0 c0_2 from0) (fun st1=>⟨fr [(1,.ii from0),(2,.bp 2 0),(12,.sl Y7 s_2),(13,.ii (s_2.length:Int)),(14,.ii st1)],hpGet [(2,.box 85 [.ii s,.sl Y7 s_2,.fn (.func 96) [] [.dp (.int .i64) c0 0],.fn (.func 95) [] [.dp (.int .i64) c0_2 0]])],gt⟩) 0 hw1 (zL [] [] []) ?_
 as_aux_lemma =>
  intro st1 x4 h hd3
  unfold progress_statement_circle_2_b1 at h
  refine zo ?_
  refine zB [(1,.ii from0),(2,.bp 2 0),(12,.sl Y7 s_2),(13,.ii (s_2.length:Int)),(14,.ii st1),(15,.bool (decide (st1<(s_2.length:Int))))] [(2,.box 85 [.ii s,.sl Y7 s_2,.fn (.func 96) [] [.dp (.int .i64) c0 0],.fn (.func 95) [] [.dp (.int .i64) c0_2 0]])] ?_
  refine AW.seq ?_
  refine zQ h (fun hb6 h=>?_) (fun hb6 h=>?_)
  ·refine zk ?_
   refine AW.seq ?_
   refine AW.block ?_
   refine zo ?_
   obtain ⟨c7,h⟩:=ck_some.1 h
   obtain ⟨c8,h⟩:=ck_some.1 h
   refine zS 5 [(1,.ii from0),(2,.bp 2 0),(6,.ii st1),(7,.bp 7 0),(12,.sl Y7 s_2),(13,.ii (s_2.length:Int)),(14,.ii st1),(18,.agg [.ii (s_2.getD st1.toNat (0,0,0,false)).1,.ii (s_2.getD st1.toNat (0,0,0,false)).2.1,.ii (s_2.getD st1.toNat (0,0,0,false)).2.2.1,.bool (s_2.getD st1.toNat (0,0,0,false)).2.2.2])] [(2,.box 85 [.ii s,.sl Y7 s_2,.fn (.func 96) [] [.dp (.int .i64) c0 0],.fn (.func 95) [] [.dp (.int .i64) c0_2 0]]),(7,.box 61 [.ii 0,.ii 0,.ii 0,.bool false])] ?_
   refine zB [(1,.ii from0),(2,.bp 2 0),(6,.ii st1),(7,.bp 7 0),(12,.sl Y7 s_2),(13,.ii (s_2.length:Int)),(14,.ii st1)] [(2,.box 85 [.ii s,.sl Y7 s_2,.fn (.func 96) [] [.dp (.int .i64) c0 0],.fn (.func 95) [] [.dp (.int .i64) c0_2 0]]),(7,.box 61 [.ii (s_2.getD st1.toNat (0,0,0,false)).1,.ii (s_2.getD st1.toNat (0,0,0,false)).2.1,.ii (s_2.getD st1.toNat (0,0,0,false)).2.2.1,.bool (s_2.getD st1.toNat (0,0,0,false)).2.2.2])] ?_
   refine AW.seq ?_
   refine zo ?_
   refine zS 5 [(1,.ii from0),(2,.bp 2 0),(6,.ii st1),(7,.bp 7 0),(12,.sl Y7 s_2),(13,.ii (s_2.length:Int)),(14,.ii st1),(23,.bool (!(decide ((s_2.getD st1.toNat (0,0,0,false)).1=from0))))] [(2,.box 85 [.ii s,.sl Y7 s_2,.fn (.func 96) [] [.dp (.int .i64) c0 0],.fn (.func 95) [] [.dp (.int .i64) c0_2 0]]),(7,.box 61 [.ii (s_2.getD st1.toNat (0,0,0,false)).1,.ii (s_2.getD st1.toNat (0,0,0,false)).2.1,.ii (s_2.getD st1.toNat (0,0,0,false)).2.2.1,.bool (s_2.getD st1.toNat (0,0,0,false)).2.2.2])] ?_
   rcases zI h with ⟨hb9,h⟩|⟨hb9,h⟩
   ·refine zS 4 [(1,.ii from0),(2,.bp 2 0),(6,.ii st1),(7,.bp 7 0),(12,.sl Y7 s_2),(13,.ii (s_2.length:Int)),(14,.ii st1),(23,.bool true),(27,.cv (undef))] [(2,.box 85 [.ii s,.sl Y7 s_2,.fn (.func 96) [] [.dp (.int .i64) c0 0],.fn (.func 95) [] [.dp (.int .i64) c0_2 0]]),(7,.box 61 [.ii (s_2.getD st1.toNat (0,0,0,false)).1,.ii (s_2.getD st1.toNat (0,0,0,false)).2.1,.ii (s_2.getD st1.toNat (0,0,0,false)).2.2.1,.bool (s_2.getD st1.toNat (0,0,0,false)).2.2.2])] ?_
    refine zB [(1,.ii from0),(2,.bp 2 0),(6,.ii st1),(7,.bp 7 0),(12,.sl Y7 s_2),(13,.ii (s_2.length:Int)),(14,.ii st1),(29,.bool true)] [(2,.box 85 [.ii s,.sl Y7 s_2,.fn (.func 96) [] [.dp (.int .i64) c0 0],.fn (.func 95) [] [.dp (.int .i64) c0_2 0]]),(7,.box 61 [.ii (s_2.getD st1.toNat (0,0,0,false)).1,.ii (s_2.getD st1.toNat (0,0,0,false)).2.1,.ii (s_2.getD st1.toNat (0,0,0,false)).2.2.1,.bool (s_2.getD st1.toNat (0,0,0,false)).2.2.2])] ?_
    refine AW.cond (b:=true) rfl (fun _=>?_) (fun hb10=>by cases hb10)
    refine AW.exit ?_
    refine athen_e ?_
    refine ablock_s ?_
    refine athen_n ?_
    refine AW.ops ?_
    obtain ⟨c11,h⟩:=ck_some.1 h
    refine zA [(1,.ii from0),(2,.bp 2 0),(12,.sl Y7 s_2),(13,.ii (s_2.length:Int)),(14,.ii (st1+1))] [(2,.box 85 [.ii s,.sl Y7 s_2,.fn (.func 96) [] [.dp (.int .i64) c0 0],.fn (.func 95) [] [.dp (.int .i64) c0_2 0]])] ?_
    obtain rfl:=zj h
    exact ⟨_,rfl,zL [] [] []⟩
   refine zS 3 [(1,.ii from0),(2,.bp 2 0),(6,.ii st1),(7,.bp 7 0),(12,.sl Y7 s_2),(13,.ii (s_2.length:Int)),(14,.ii st1),(23,.bool false),(25,.fn (.func 95) [] [.dp (.int .i64) c0_2 0]),(26,.agg [.ii (s_2.getD st1.toNat (0,0,0,false)).1,.ii (s_2.getD st1.toNat (0,0,0,false)).2.1,.ii (s_2.getD st1.toNat (0,0,0,false)).2.2.1,.bool (s_2.getD st1.toNat (0,0,0,false)).2.2.2])] [(2,.box 85 [.ii s,.sl Y7 s_2,.fn (.func 96) [] [.dp (.int .i64) c0 0],.fn (.func 95) [] [.dp (.int .i64) c0_2 0]]),(7,.box 61 [.ii (s_2.getD st1.toNat (0,0,0,false)).1,.ii (s_2.getD st1.toNat (0,0,0,false)).2.1,.ii (s_2.getD st1.toNat (0,0,0,false)).2.2.1,.bool (s_2.getD st1.toNat (0,0,0,false)).2.2.2])] ?_
   obtain ⟨v0,hv12,h⟩:=zw h
   refine zG [] [] (hc_progress_statementOf_2 (s_2.getD st1.toNat (0,0,0,false)) c0_2 hv12) [(1,.ii from0),(2,.bp 2 0),(6,.ii st1),(7,.bp 7 0),(12,.sl Y7 s_2),(13,.ii (s_2.length:Int)),(14,.ii st1),(23,.bool false),(27,.bool v0)] [(2,.box 85 [.ii s,.sl Y7 s_2,.fn (.func 96) [] [.dp (.int .i64) c0 0],.fn (.func 95) [] [.dp (.int .i64) c0_2 0]]),(7,.box 61 [.ii (s_2.getD st1.toNat (0,0,0,false)).1,.ii (s_2.getD st1.toNat (0,0,0,false)).2.1,.ii (s_2.getD st1.toNat (0,0,0,false)).2.2.1,.bool (s_2.getD st1.toNat (0,0,0,false)).2.2.2])] ?_
   refine zB [(1,.ii from0),(2,.bp 2 0),(6,.ii st1),(7,.bp 7 0),(12,.sl Y7 s_2),(13,.ii (s_2.length:Int)),(14,.ii st1),(29,.bool (!v0))] [(2,.box 85 [.ii s,.sl Y7 s_2,.fn (.func 96) [] [.dp (.int .i64) c0 0],.fn (.func 95) [] [.dp (.int .i64) c0_2 0]]),(7,.box 61 [.ii (s_2.getD st1.toNat (0,0,0,false)).1,.ii (s_2.getD st1.toNat (0,0,0,false)).2.1,.ii (s_2.getD st1.toNat (0,0,0,false)).2.2.1,.bool (s_2.getD st1.toNat (0,0,0,false)).2.2.2])] ?_
   refine zQ h (fun hb13 h=>?_) (fun hb13 h=>?_)
   ·refine AW.exit ?_
    refine athen_e ?_
    refine ablock_s ?_
    refine athen_n ?_
    refine AW.ops ?_
    obtain ⟨c14,h⟩:=ck_some.1 h
    refine zA [(1,.ii from0),(2,.bp 2 0),(12,.sl Y7 s_2),(13,.ii (s_2.length:Int)),(14,.ii (st1+1))] [(2,.box 85 [.ii s,.sl Y7 s_2,.fn (.func 96) [] [.dp (.int .i64) c0 0],.fn (.func 95) [] [.dp (.int .i64) c0_2 0]])] ?_
    obtain rfl:=zj h
    exact ⟨_,rfl,zL [] [] []⟩
   refine zk ?_
   refine zo ?_
   refine zS 5 [(1,.ii from0),(2,.bp 2 0),(6,.ii st1),(12,.sl Y7 s_2),(13,.ii (s_2.length:Int)),(14,.ii st1),(32,.agg [.ii s,.sl Y7 s_2]),(34,.ii (s_2.getD st1.toNat (0,0,0,false)).2.2.1),(35,.ii from0)] [(2,.box 85 [.ii s,.sl Y7 s_2,.fn (.func 96) [] [.dp (.int .i64) c0 0],.fn (.func 95) [] [.dp (.int .i64) c0_2 0]])] ?_
   refine zS 2 [(1,.ii from0),(2,.bp 2 0),(6,.ii st1),(12,.sl Y7 s_2),(13,.ii (s_2.length:Int)),(14,.ii st1),(32,.agg [.ii s,.sl Y7 s_2]),(34,.ii (s_2.getD st1.toNat (0,0,0,false)).2.2.1),(35,.ii from0),(37,.fn (.func 96) [] [.dp (.int .i64) c0 0])] [(2,.box 85 [.ii s,.sl Y7 s_2,.fn (.func 96) [] [.dp (.int .i64) c0 0],.fn (.func 95) [] [.dp (.int .i64) c0_2 0]])] ?_
   obtain ⟨v0_2,hv15,h⟩:=zw h
   refine zC [] [] (hc_progress_graph_way_3 (s,s_2) (s_2.getD st1.toNat (0,0,0,false)).2.2.1 from0 c0 hv15) [(1,.ii from0),(2,.bp 2 0),(6,.ii st1),(12,.sl Y7 s_2),(13,.ii (s_2.length:Int)),(14,.ii st1),(38,.tup [.sl (.int .i64) v0_2.1,.bool v0_2.2])] [(2,.box 85 [.ii s,.sl Y7 s_2,.fn (.func 96) [] [.dp (.int .i64) c0 0],.fn (.func 95) [] [.dp (.int .i64) c0_2 0]])] ?_
   refine zB [(1,.ii from0),(2,.bp 2 0),(6,.ii st1),(8,.sl (.int .i64) v0_2.1),(9,.bool v0_2.2),(12,.sl Y7 s_2),(13,.ii (s_2.length:Int)),(14,.ii st1)] [(2,.box 85 [.ii s,.sl Y7 s_2,.fn (.func 96) [] [.dp (.int .i64) c0 0],.fn (.func 95) [] [.dp (.int .i64) c0_2 0]])] ?_
   refine zo ?_
   refine zB [(1,.ii from0),(2,.bp 2 0),(6,.ii st1),(8,.sl (.int .i64) v0_2.1),(12,.sl Y7 s_2),(13,.ii (s_2.length:Int)),(14,.ii st1),(41,.bool v0_2.2)] [(2,.box 85 [.ii s,.sl Y7 s_2,.fn (.func 96) [] [.dp (.int .i64) c0 0],.fn (.func 95) [] [.dp (.int .i64) c0_2 0]])] ?_
   refine zQ h (fun hb16 h=>?_) (fun hb16 h=>?_)
   ·refine zo ?_
    obtain ⟨c17,h⟩:=ck_some.1 h
    refine zS 5 [(4,.own 45)] [(45,.arr 3 (.int .i64) (st1::v0_2.1))] ?_
    refine zB [(4,.own 45),(5,.bool true)] [(45,.arr 3 (.int .i64) (st1::v0_2.1))] ?_
    refine AW.ret ?_
    refine ablock_r ?_
    refine athen_r ?_
    obtain rfl:=zj h
    rw [← hd3 _ rfl] at ho2
    have h:=ho2
    try simp only at h
    refine athen_r ?_
    refine ablock_r ?_
    refine athen_r ?_
    obtain rfl:=zj h
    exact zR [] [] [(2000,45)]
   refine zm ?_
   refine athen_n ?_
   refine AW.ops ?_
   obtain ⟨c18,h⟩:=ck_some.1 h
   refine zA [(1,.ii from0),(2,.bp 2 0),(12,.sl Y7 s_2),(13,.ii (s_2.length:Int)),(14,.ii (st1+1))] [(2,.box 85 [.ii s,.sl Y7 s_2,.fn (.func 96) [] [.dp (.int .i64) c0 0],.fn (.func 95) [] [.dp (.int .i64) c0_2 0]])] ?_
   obtain rfl:=zj h
   exact ⟨_,rfl,zL [] [] []⟩
  refine AW.exit ?_
  refine athen_e ?_
  obtain rfl:=zj h
  rw [← hd3 _ rfl] at ho2
  have h:=ho2
  try simp only at h
  refine athen_e ?_
  refine ablock_s ?_
  refine athen_n ?_
  exact AW.weaken (zL [] [] []) (hk_progress_statement_circle_2_k1 () h)
theorem hc_progress_statement_lasso_2 (s:Int) (s_2:List (Int×Int×Int×Bool)) (c0:Int) (c0_2:Int) {r:(List Int)×(List Int)×Bool} (h:progress_statement_lasso_2 s s_2 c0 c0_2=some r):HC Try.prog 79 [] [.agg [.ii s,.sl Y7 s_2,.fn (.func 96) [] [.dp (.int .i64) c0 0],.fn (.func 95) [] [.dp (.int .i64) c0_2 0]]] [(2000,.arr 3 (.int .i64) r.2.1)] (.tup [.sl (.int .i64) r.1,.own 2000,.bool r.2.2]):=by
 unfold progress_statement_lasso_2 at h
 refine zH Try.func79 [.cell 2 25,.cell 3 25,.cell 4 4] 21 ?_
 refine zo ?_
 refine zB [(1,.bp 1 0),(2,.bp 2 0),(3,.bp 3 0),(4,.bp 4 0)] [(1,.box 85 [.ii s,.sl Y7 s_2,.fn (.func 96) [] [.dp (.int .i64) c0 0],.fn (.func 95) [] [.dp (.int .i64) c0_2 0]]),(2,.box 25 [.cv (.slice none 0 0)]),(3,.box 25 [.cv (.slice none 0 0)]),(4,.box 4 [.bool false])] ?_
 refine AW.have1 (fun b1:(List Int)×Bool=>progress_statement_lasso_2_k1 b1=some r) (fun b1=>⟨fr [(2,.bp 2 0),(3,.bp 3 0),(4,.bp 4 0)],hpGet [(2,.box 25 [.cv (.slice none 0 0)]),(3,.box 25 [.own 25000]),(4,.box 4 [.bool b1.2]),(25000,.arr 3 (.int .i64) b1.1)],gt⟩) (fun b1 h=>?_) (fun hk_progress_statement_lasso_2_k1=>?_)
 ·as_aux_lemma =>
   unfold progress_statement_lasso_2_k1 at h
   refine zo ?_
   refine zB [(2,.bp 2 0),(3,.bp 3 0),(4,.bp 4 0)] [(2,.box 25 [.cv (.slice none 0 0)]),(3,.box 25 [.cv (.slice none 0 0)]),(4,.box 4 [.bool false])] ?_
   refine AW.ret ?_
   obtain rfl:=zj h
   exact zR [] [2000] []
 refine AW.seq ?_
 refine zo ?_
 refine zS 2 [(1,.bp 1 0),(2,.bp 2 0),(3,.bp 3 0),(4,.bp 4 0),(8,.agg [.ii s,.sl Y7 s_2])] [(1,.box 85 [.ii s,.sl Y7 s_2,.fn (.func 96) [] [.dp (.int .i64) c0 0],.fn (.func 95) [] [.dp (.int .i64) c0_2 0]]),(2,.box 25 [.cv (.slice none 0 0)]),(3,.box 25 [.cv (.slice none 0 0)]),(4,.box 4 [.bool false])] ?_
 obtain ⟨v0,hv1,h⟩:=zw h
 refine zC [] [] (hc_progress_graph_paths (s,s_2) 0 hv1) [(1,.bp 1 0),(2,.bp 2 0),(3,.bp 3 0),(4,.bp 4 0),(9,.fn (.func 108) [] [.bp 19000 0,.bp 19001 0,.bp 19002 0])] [(1,.box 85 [.ii s,.sl Y7 s_2,.fn (.func 96) [] [.dp (.int .i64) c0 0],.fn (.func 95) [] [.dp (.int .i64) c0_2 0]]),(2,.box 25 [.cv (.slice none 0 0)]),(3,.box 25 [.cv (.slice none 0 0)]),(4,.box 4 [.bool false]),(19000,.box 3 [.ii 0]),(19001,.box 69 [.ii s,.sl Y7 s_2]),(19002,.box 81 [.fn (.func 67) [] []])] ?_
 refine zB [(1,.bp 1 0),(2,.bp 2 0),(3,.bp 3 0),(4,.bp 4 0),(9,.fn (.func 108) [] [.bp 19000 0,.bp 19001 0,.bp 19002 0])] [(1,.box 85 [.ii s,.sl Y7 s_2,.fn (.func 96) [] [.dp (.int .i64) c0 0],.fn (.func 95) [] [.dp (.int .i64) c0_2 0]]),(2,.box 25 [.cv (.slice none 0 0)]),(3,.box 25 [.cv (.slice none 0 0)]),(4,.box 4 [.bool false]),(19000,.box 3 [.ii 0]),(19001,.box 69 [.ii s,.sl Y7 s_2]),(19002,.box 81 [.fn (.func 67) [] []])] ?_
 refine AW.block ?_
 obtain ⟨x2,hx3,h⟩:=zw h
 refine AW.weaken (s':=⟨fr [(1,.bp 1 0),(2,.bp 2 0),(3,.bp 3 0),(4,.bp 4 0),(9,.fn (.func 108) [] [.bp 19000 0,.bp 19001 0,.bp 19002 0])],hpGet ([(19000,.box 3 [.ii 0]),(19001,.box 69 [.ii s,.sl Y7 s_2]),(19002,.box 81 [.fn (.func 67) [] []])]++[(1,.box 85 [.ii s,.sl Y7 s_2,.fn (.func 96) [] [.dp (.int .i64) c0 0],.fn (.func 95) [] [.dp (.int .i64) c0_2 0]]),(2,.box 25 [.cv (.slice none 0 0)]),(3,.box 25 [.own 25000]),(4,.box 4 [.bool false]),(25000,.arr 3 (.int .i64) [])]),gt⟩) (zL [] [25000] []) ?_
 refine AW.rangeF (R:=(List Int)×(List Int)) (l0:=[(1,.bp 1 0),(2,.bp 2 0),(3,.bp 3 0),(4,.bp 4 0)]) (hI:=[(19000,.box 3 [.ii 0]),(19001,.box 69 [.ii s,.sl Y7 s_2]),(19002,.box 81 [.fn (.func 67) [] []])]) (h0:=fun (st1:(List Int)×Bool)=>[(1,.box 85 [.ii s,.sl Y7 s_2,.fn (.func 96) [] [.dp (.int .i64) c0 0],.fn (.func 95) [] [.dp (.int .i64) c0_2 0]]),(2,.box 25 [.cv (.slice none 0 0)]),(3,.box 25 [.own 25000]),(4,.box 4 [.bool st1.2]),(25000,.arr 3 (.int .i64) st1.1)]) (gg:=fun (st1:(List Int)×Bool)=>gt) (hx0:=(fun (r1:(List Int)×(List Int))=>[(1,.box 85 [.ii s,.sl Y7 s_2,.fn (.func 96) [] [.dp (.int .i64) c0 0],.fn (.func 95) [] [.dp (.int .i64) c0_2 0]]),(2,.box 25 [.sl (.int .i64) r1.1]),(3,.box 25 [.own 25000]),(4,.box 4 [.bool true]),(25000,.arr 3 (.int .i64) r1.2)])) (gx:=(fun (r1:(List Int)×(List Int))=>gt)) (ex:=(fun (r1:(List Int)×(List Int))=>Exit.ret)) ([],false) [(19000,1000),(19001,1001),(19002,1002)] [(1000,19000),(1001,19001),(1002,19002)] [(1,1900),(2,1901),(3,1902),(4,1903)] [(1900,1),(1901,2),(1902,3),(1903,4)] (by decide) rfl (by first|exact (ic_progress_graph_paths_1 0 (s,s_2) (progress_statement_lasso_2_y1 s s_2 c0 c0_2) ([],false) hx3)|simpa only [go_sem] using (ic_progress_graph_paths_1 0 (s,s_2) (progress_statement_lasso_2_y1 s s_2 c0 c0_2) ([],false) hx3)) (by (simp only [go_sem])<;>(with_reducible and_intros)<;>first|assumption|rfl|omega|(unfold maxLen; omega)) rfl rfl rfl (fun _=>rfl) rfl (fun _=>rfl) rfl (fun _=>rfl) (fun _=>rfl) (fun _=>rfl) (fun _=>rfl) rfl (fun _ _=>by first|rfl|(exact (hΓ _).trans (hΓ _).symm)|(exact (hΓx _).trans (hΓ _).symm)) (fun _ _=>by first|rfl|(exact (hΓ _).trans (hΓ _).symm)|(exact (hΓx _).trans (hΓ _).symm)) ?_ ?_
 ·intro lpy1 y1 st1 x4 h
  unfold progress_statement_lasso_2_y1 at h
  refine zV [(1,.bp 1900 0),(2,.bp 1901 0),(3,.bp 1902 0),(4,.bp 1903 0),(10,.ii y1.1),(11,.sl (.int .i64) y1.2)] [(1900,.box 85 [.ii s,.sl Y7 s_2,.fn (.func 96) [] [.dp (.int .i64) c0 0],.fn (.func 95) [] [.dp (.int .i64) c0_2 0]]),(1901,.box 25 [.cv (.slice none 0 0)]),(1902,.box 25 [.own 25000]),(1903,.box 4 [.bool st1.2]),(25000,.arr 3 (.int .i64) st1.1)] gt ?_
  refine zo ?_
  refine zB [(1,.bp 1900 0),(2,.bp 1901 0),(3,.bp 1902 0),(4,.bp 1903 0),(5,.ii y1.1),(11,.sl (.int .i64) y1.2)] [(1900,.box 85 [.ii s,.sl Y7 s_2,.fn (.func 96) [] [.dp (.int .i64) c0 0],.fn (.func 95) [] [.dp (.int .i64) c0_2 0]]),(1901,.box 25 [.cv (.slice none 0 0)]),(1902,.box 25 [.own 25000]),(1903,.box 4 [.bool st1.2]),(25000,.arr 3 (.int .i64) st1.1)] ?_
  refine AW.ops ?_
  refine zA [(1,.bp 1900 0),(2,.bp 1901 0),(3,.bp 1902 0),(4,.bp 1903 0),(5,.ii y1.1),(6,.sl (.int .i64) y1.2)] [(1900,.box 85 [.ii s,.sl Y7 s_2,.fn (.func 96) [] [.dp (.int .i64) c0 0],.fn (.func 95) [] [.dp (.int .i64) c0_2 0]]),(1901,.box 25 [.cv (.slice none 0 0)]),(1902,.box 25 [.own 25000]),(1903,.box 4 [.bool st1.2]),(25000,.arr 3 (.int .i64) st1.1)] ?_
  refine And.intro rfl ?_
  refine AW.block ?_
  refine zo ?_
  refine zS 2 [(1,.bp 1900 0),(2,.bp 1901 0),(3,.bp 1902 0),(4,.bp 1903 0),(6,.sl (.int .i64) y1.2),(13,.agg [.ii s,.sl Y7 s_2,.fn (.func 96) [] [.dp (.int .i64) c0 0],.fn (.func 95) [] [.dp (.int .i64) c0_2 0]]),(14,.ii y1.1)] [(1900,.box 85 [.ii s,.sl Y7 s_2,.fn (.func 96) [] [.dp (.int .i64) c0 0],.fn (.func 95) [] [.dp (.int .i64) c0_2 0]]),(1901,.box 25 [.cv (.slice none 0 0)]),(1902,.box 25 [.own 25000]),(1903,.box 4 [.bool st1.2]),(25000,.arr 3 (.int .i64) st1.1)] ?_
  obtain ⟨v0_2,hv5,h⟩:=zw h
  refine zC [] [] (hc_progress_statement_circle_2 s s_2 c0 c0_2 y1.1 hv5) [(1,.bp 1900 0),(2,.bp 1901 0),(3,.bp 1902 0),(4,.bp 1903 0),(6,.sl (.int .i64) y1.2),(15,.tup [.own 25000,.bool v0_2.2])] [(1900,.box 85 [.ii s,.sl Y7 s_2,.fn (.func 96) [] [.dp (.int .i64) c0 0],.fn (.func 95) [] [.dp (.int .i64) c0_2 0]]),(1901,.box 25 [.cv (.slice none 0 0)]),(1902,.box 25 [.un]),(1903,.box 4 [.bool st1.2]),(25000,.arr 3 (.int .i64) v0_2.1)] ?_
  refine zB [(1,.bp 1900 0),(2,.bp 1901 0),(3,.bp 1902 0),(4,.bp 1903 0),(6,.sl (.int .i64) y1.2)] [(1900,.box 85 [.ii s,.sl Y7 s_2,.fn (.func 96) [] [.dp (.int .i64) c0 0],.fn (.func 95) [] [.dp (.int .i64) c0_2 0]]),(1901,.box 25 [.cv (.slice none 0 0)]),(1902,.box 25 [.own 25000]),(1903,.box 4 [.bool v0_2.2]),(25000,.arr 3 (.int .i64) v0_2.1)] ?_
  refine zo ?_
  refine zB [(1,.bp 1900 0),(2,.bp 1901 0),(3,.bp 1902 0),(4,.bp 1903 0),(6,.sl (.int .i64) y1.2),(18,.bool v0_2.2)] [(1900,.box 85 [.ii s,.sl Y7 s_2,.fn (.func 96) [] [.dp (.int .i64) c0 0],.fn (.func 95) [] [.dp (.int .i64) c0_2 0]]),(1901,.box 25 [.cv (.slice none 0 0)]),(1902,.box 25 [.own 25000]),(1903,.box 4 [.bool v0_2.2]),(25000,.arr 3 (.int .i64) v0_2.1)] ?_
  refine zQ h (fun hb6 h=>?_) (fun hb6 h=>?_)
  ·refine AW.seq ?_
   refine AW.draw tab_ok mixed_ok [(2,[1901]),(3,[1902]),(4,[1903])] [(1,[1902,25000,1000025000]),(100002,[]),(100003,[]),(100004,[])] (by decide) (by kernel_rfl) ?_
   as_aux_lemma =>
    refine adops_cut 5 (fun K' hK7=>?_)
    try dsimp only [y1,y2,y3,y4]
    simp only [go_sem,hb6]
    repeat with_reducible refine zN ?_
    refine hK7 _ ?_
    refine adops_nil ?_
    refine athen_n ?_
    refine zV [(1,.bp 1900 0),(2,.bp 1901 0),(3,.bp 1902 0),(4,.bp 1903 0)] [(1900,.box 85 [.ii s,.sl Y7 s_2,.fn (.func 96) [] [.dp (.int .i64) c0 0],.fn (.func 95) [] [.dp (.int .i64) c0_2 0]]),(1901,.box 25 [.sl (.int .i64) y1.2]),(1902,.box 25 [.own 25000]),(1903,.box 4 [.bool true]),(25000,.arr 3 (.int .i64) v0_2.1)] gt ?_
    as_aux_lemma =>
     refine AW.ret ?_
     refine ablock_r ?_
     obtain rfl:=zj h
     exact rpost_ret rfl rfl [] [] [] rfl (by (simp only [go_sem,hb6])<;>(with_reducible and_intros)<;>first|assumption|rfl|omega|(unfold maxLen; omega))
  refine zm ?_
  obtain rfl:=zj h
  exact rpost_next rfl [] [] [] rfl (by (simp only [go_sem,hb6])<;>(with_reducible and_intros)<;>first|assumption|rfl|omega|(unfold maxLen; omega))
 cases x2 with
 | inl st1_2 =>
  try simp only at h
  refine ablock_n ?_
  refine athen_n ?_
  exact AW.weaken (zL [] [] []) (hk_progress_statement_lasso_2_k1 _ h)
 | inr r1 =>
  try simp only at h
  refine ablock_r ?_
  refine athen_r ?_
  obtain rfl:=zj h
  exact zR [] [] [(2000,25000)]
theorem hc_progress_graph_paths_4 (g:Int×(List (Int×Int×Int×Bool))) (from0:Int) (c0:Int) {r:Unit} (h:progress_graph_paths_4 g from0 c0=some r):HC Try.prog 89 [] [.agg [.ii g.1,.sl Y7 g.2],.ii from0,.fn (.func 95) [] [.dp (.int .i64) c0 0]] [(2000,.box 3 [.ii from0]),(2001,.box 69 [.ii g.1,.sl Y7 g.2]),(2002,.box 81 [.fn (.func 95) [] [.dp (.int .i64) c0 0]])] (.fn (.func 108) [] [.bp 2000 0,.bp 2001 0,.bp 2002 0]):=by
 unfold progress_graph_paths_4 at h
 refine zH Try.func89 [.tmp 6] 8 ?_
 refine zo ?_
 refine zB [(3,.bp 3 0),(4,.bp 4 0),(5,.bp 5 0)] [(3,.box 69 [.ii g.1,.sl Y7 g.2]),(4,.box 3 [.ii from0]),(5,.box 81 [.fn (.func 95) [] [.dp (.int .i64) c0 0]])] ?_
 refine zo ?_
 refine zB [(6,.fn (.func 108) [] [.bp 4 0,.bp 3 0,.bp 5 0])] [(3,.box 69 [.ii g.1,.sl Y7 g.2]),(4,.box 3 [.ii from0]),(5,.box 81 [.fn (.func 95) [] [.dp (.int .i64) c0 0]])] ?_
 refine AW.ret ?_
 obtain rfl:=zj h
 exact zR [] [] [(2000,4),(2001,3),(2002,5)]
end Go.Proofs.Yteclokkdgmacpaa
