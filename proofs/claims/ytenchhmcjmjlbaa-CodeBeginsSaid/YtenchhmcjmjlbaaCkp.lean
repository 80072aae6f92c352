import Derived.Test.YtenchhmcjmjlbaaTyk
import Derived.Test.YtenchhmcjmjlbaaTbk
namespace Go.Proofs.Ytenchhmcjmjlbaa
open Go.RowKit
set_option linter.unusedSimpArgs false
set_option linter.unusedVariables false
set_option linter.constructorNameAsVariable false
abbrev ZS:Type:=List (Int×Int×(List (List Int))×(List (List Int)))
abbrev ZH:Type:=List (Int×Int×Int×Int×Int×Int)
abbrev ZM:Type:=List (((Int×Int)×Int)×Int)
/- lineal/lineallaw02.Large -/
noncomputable def lineallaw02_Large_k1 (specs:ZS):Option Bool :=
  some (decide (5<(specs.length:Int)))
noncomputable def lineallaw02_Large_k2 (st1:Int):Option (Step Int (Sum Unit Unit)) :=
  ck (InK .i64 (st1+1)) <| some (.next (st1+1))
noncomputable def lineallaw02_Large_b3 (specs:ZS) (st1:Int) (st3:Int):Option (Step Int (Sum Unit Unit)) :=
  if (decide (st3<((specs.getD st1.toNat (0,0,[],[])).2.2.2.length:Int)))=true then
  ck (0≤st3) <| ck (st3<((specs.getD st1.toNat (0,0,[],[])).2.2.2.length:Int)) <| if (decide (20<(((specs.getD st1.toNat (0,0,[],[])).2.2.2.getD st3.toNat []).length:Int)))=true then
  some (.done (Sum.inl ()))
  else
  ck (InK .i64 (st3+1)) <| some (.next (st3+1))
  else
  some (.done (Sum.inr ()))
noncomputable def lineallaw02_Large_k3 (specs:ZS) (st1:Int):Option (Step Int (Sum Unit Unit)) :=
  (whileO (lineallaw02_Large_b3 specs st1) 0).bind fun x=>match x with
  | .inl _=>(some (.done (Sum.inl ())))
  | .inr _=>(lineallaw02_Large_k2 st1)
noncomputable def lineallaw02_Large_b2 (specs:ZS) (st1:Int) (st2:Int):Option (Step Int (Sum Unit Unit)) :=
  if (decide (st2<((specs.getD st1.toNat (0,0,[],[])).2.2.1.length:Int)))=true then
  ck (0≤st2) <| ck (st2<((specs.getD st1.toNat (0,0,[],[])).2.2.1.length:Int)) <| if (decide (20<(((specs.getD st1.toNat (0,0,[],[])).2.2.1.getD st2.toNat []).length:Int)))=true then
  some (.done (Sum.inl ()))
  else
  ck (InK .i64 (st2+1)) <| some (.next (st2+1))
  else
  some (.done (Sum.inr ()))
noncomputable def lineallaw02_Large_b1 (specs:ZS) (st1:Int):Option (Step Int (Sum Unit Unit)) :=
  if (decide (st1<(specs.length:Int)))=true then
  ck (0≤st1) <| ck (st1<(specs.length:Int)) <| if (decide (20<((specs.getD st1.toNat (0,0,[],[])).2.2.1.length:Int)))=true then
  some (.done (Sum.inl ()))
  else
  if (decide (20<((specs.getD st1.toNat (0,0,[],[])).2.2.2.length:Int)))=true then
  some (.done (Sum.inl ()))
  else
  (whileO (lineallaw02_Large_b2 specs st1) 0).bind fun x=>match x with
  | .inl _=>(some (.done (Sum.inl ())))
  | .inr _=>(lineallaw02_Large_k3 specs st1)
  else
  some (.done (Sum.inr ()))
noncomputable def lineallaw02_Large (specs:ZS):Option Bool :=
  (whileO (lineallaw02_Large_b1 specs) 0).bind fun x=>match x with
  | .inl _=>(some true)
  | .inr _=>(lineallaw02_Large_k1 specs)
/- lineal/lineallaw08.Large -/
noncomputable def lineallaw08_Large_k2 (x0:(Int×Int×(List (List Int))×(List (List Int)))×(List (List (Int×Int×Int×Int)))×(List (List Int))):Option Bool :=
  (lineallaw02_Large [x0.1]).bind fun v0 =>
  if v0=true then
  some true
  else
  if (decide (10<(x0.2.1.length:Int)))=true then
  some true
  else
  some (decide (10<(x0.2.2.length:Int)))
noncomputable def lineallaw08_Large_b2 (x0:(Int×Int×(List (List Int))×(List (List Int)))×(List (List (Int×Int×Int×Int)))×(List (List Int))) (st2:Int):Option (Step Int (Sum Unit Unit)) :=
  if (decide (st2<(x0.2.2.length:Int)))=true then
  ck (0≤st2) <| ck (st2<(x0.2.2.length:Int)) <| if (decide (20<((x0.2.2.getD st2.toNat []).length:Int)))=true then
  some (.done (Sum.inl ()))
  else
  ck (InK .i64 (st2+1)) <| some (.next (st2+1))
  else
  some (.done (Sum.inr ()))
noncomputable def lineallaw08_Large_k1 (x0:(Int×Int×(List (List Int))×(List (List Int)))×(List (List (Int×Int×Int×Int)))×(List (List Int))):Option Bool :=
  (whileO (lineallaw08_Large_b2 x0) 0).bind fun x=>match x with
  | .inl _=>(some true)
  | .inr _=>(lineallaw08_Large_k2 x0)
noncomputable def lineallaw08_Large_b1 (x0:(Int×Int×(List (List Int))×(List (List Int)))×(List (List (Int×Int×Int×Int)))×(List (List Int))) (st1:Int):Option (Step Int (Sum Unit Unit)) :=
  if (decide (st1<(x0.2.1.length:Int)))=true then
  ck (0≤st1) <| ck (st1<(x0.2.1.length:Int)) <| if (decide (30<((x0.2.1.getD st1.toNat []).length:Int)))=true then
  some (.done (Sum.inl ()))
  else
  ck (InK .i64 (st1+1)) <| some (.next (st1+1))
  else
  some (.done (Sum.inr ()))
noncomputable def lineallaw08_Large (x0:(Int×Int×(List (List Int))×(List (List Int)))×(List (List (Int×Int×Int×Int)))×(List (List Int))):Option Bool :=
  (whileO (lineallaw08_Large_b1 x0) 0).bind fun x=>match x with
  | .inl _=>(some true)
  | .inr _=>(lineallaw08_Large_k1 x0)
/- lineal/code.bare -/
noncomputable def code_bare (l:Int×Int×Int×Int):Option (Int×Int) :=
  if (decide (l.1=3))=true then
  if (decide (l.1=3))=true then
  some l.2.2
  else
  if (decide (l.1=7))=true then
  some (0,0)
  else
  some (l.2.2.1,0)
  else
  if (decide (l.1=5))=true then
  some l.2.2
  else
  if (decide (l.1=7))=true then
  some (0,0)
  else
  some (l.2.2.1,0)
/- lineal/code.isBelow -/
noncomputable def code_isBelow (number:Int) (end0:Int):Option Bool :=
  if (decide (0≤number))=true then
  some (decide (number<end0))
  else
  some false
/- lineal/code.isRegister -/
noncomputable def code_isRegister (register:Int):Option Bool :=
  (code_isBelow register 4).bind fun v0 =>
  some v0
/- lineal/code.isCell -/
noncomputable def code_isCell (cell:Int):Option Bool :=
  (code_isBelow cell 3).bind fun v0 =>
  some v0
/- lineal/code.isLine -/
noncomputable def code_isLine (l:Int×Int×Int×Int) (lines:Int):Option Bool :=
  (code_bare l).bind fun v0 =>
  ck (InK .i64 l.1) <| ck (InK .i64 l.2.1) <| ck (InK .i64 l.2.2.1) <| ck (InK .i64 l.2.2.2) <| ck (InK .i64 l.1) <| ck (InK .i64 l.2.1) <| ck (InK .i64 v0.1) <| ck (InK .i64 v0.2) <| if (!(decide (l=(l.1,l.2.1,v0))))=true then
  some false
  else
  if (decide (l.1=1))=true then
  (code_isRegister l.2.1).bind fun v0_2 =>
  if v0_2=true then
  (code_isCell l.2.2.1).bind fun v0_3 =>
  some v0_3
  else
  some false
  else
  if (decide (l.1=2))=true then
  (code_isCell l.2.1).bind fun v0_4 =>
  if v0_4=true then
  (code_isRegister l.2.2.1).bind fun v0_5 =>
  some v0_5
  else
  some false
  else
  if (decide (l.1=3))=true then
  (code_isCell l.2.1).bind fun v0_6 =>
  if v0_6=true then
  (code_isRegister l.2.2.1).bind fun v0_7 =>
  if v0_7=true then
  (code_isRegister l.2.2.2).bind fun v0_8 =>
  some v0_8
  else
  some false
  else
  some false
  else
  if (decide (l.1=4))=true then
  (code_isRegister l.2.1).bind fun v0_9 =>
  if v0_9=true then
  (code_isBelow l.2.2.1 10).bind fun v0_10 =>
  some v0_10
  else
  some false
  else
  if (decide (l.1=5))=true then
  (code_isRegister l.2.1).bind fun v0_11 =>
  if v0_11=true then
  (code_isRegister l.2.2.1).bind fun v0_12 =>
  if v0_12=true then
  (code_isRegister l.2.2.2).bind fun v0_13 =>
  some v0_13
  else
  some false
  else
  some false
  else
  if (decide (l.1=6))=true then
  (code_isRegister l.2.1).bind fun v0_14 =>
  if v0_14=true then
  (code_isBelow l.2.2.1 lines).bind fun v0_15 =>
  some v0_15
  else
  some false
  else
  if (decide (l.1=7))=true then
  (code_isRegister l.2.1).bind fun v0_16 =>
  some v0_16
  else
  some false
/- lineal/code.isCall$1 -/
noncomputable def code_isCall_1 (l:Int×Int×Int×Int) (a1:Int):Option Bool :=
  (code_isLine l a1).bind fun v0 =>
  some (!v0)
/- slices.IndexFunc[[]lineal/api.Line,lineal/api.Line] -/
noncomputable def slices_IndexFunc_2_k1:Option Int :=
  some (-1)
noncomputable def slices_IndexFunc_2_b1 (s:List (Int×Int×Int×Int)) (c0:Int) (st1:Int):Option (Step Int (Sum Int Unit)) :=
  if (decide (st1<(s.length:Int)))=true then
  ck (0≤st1) <| ck (st1<(s.length:Int)) <| (code_isCall_1 (s.getD st1.toNat (0,0,0,0)) c0).bind fun v0 =>
  if v0=true then
  some (.done (Sum.inl st1))
  else
  ck (InK .i64 (st1+1)) <| some (.next (st1+1))
  else
  some (.done (Sum.inr ()))
noncomputable def slices_IndexFunc_2 (s:List (Int×Int×Int×Int)) (c0:Int):Option Int :=
  (whileO (slices_IndexFunc_2_b1 s c0) 0).bind fun x=>match x with
  | .inl r1=>(some r1)
  | .inr _=>(slices_IndexFunc_2_k1)
/- slices.ContainsFunc[[]lineal/api.Line,lineal/api.Line] -/
noncomputable def slices_ContainsFunc_2 (s:List (Int×Int×Int×Int)) (c0:Int):Option Bool :=
  (slices_IndexFunc_2 s c0).bind fun v0 =>
  some (decide (0≤v0))
/- lineal/code.isCall -/
noncomputable def code_isCall (lines:List (Int×Int×Int×Int)):Option Bool :=
  if (decide ((lines.length:Int)<1))=true then
  some false
  else
  if (decide (8<(lines.length:Int)))=true then
  some false
  else
  ck (InK .i64 ((lines.length:Int) - 1)) <| ck (0≤((lines.length:Int) - 1)) <| ck (((lines.length:Int) - 1)<(lines.length:Int)) <| if (!(decide ((lines.getD ((lines.length:Int) - 1).toNat (0,0,0,0)).1=7)))=true then
  some false
  else
  (slices_ContainsFunc_2 lines (lines.length:Int)).bind fun v0 =>
  some (!v0)
/- lineal/code.Valid$1 -/
noncomputable def code_Valid_1 (lines:List (Int×Int×Int×Int)):Option Bool :=
  (code_isCall lines).bind fun v0 =>
  some (!v0)
/- slices.IndexFunc[[][]lineal/api.Line,[]lineal/api.Line] -/
noncomputable def slices_IndexFunc_k1:Option Int :=
  some (-1)
noncomputable def slices_IndexFunc_b1 (s:List (List (Int×Int×Int×Int))) (st1:Int):Option (Step Int (Sum Int Unit)) :=
  if (decide (st1<(s.length:Int)))=true then
  ck (0≤st1) <| ck (st1<(s.length:Int)) <| (code_Valid_1 (s.getD st1.toNat [])).bind fun v0 =>
  if v0=true then
  some (.done (Sum.inl st1))
  else
  ck (InK .i64 (st1+1)) <| some (.next (st1+1))
  else
  some (.done (Sum.inr ()))
noncomputable def slices_IndexFunc (s:List (List (Int×Int×Int×Int))):Option Int :=
  (whileO (slices_IndexFunc_b1 s) 0).bind fun x=>match x with
  | .inl r1=>(some r1)
  | .inr _=>(slices_IndexFunc_k1)
/- slices.ContainsFunc[[][]lineal/api.Line,[]lineal/api.Line] -/
noncomputable def slices_ContainsFunc (s:List (List (Int×Int×Int×Int))):Option Bool :=
  (slices_IndexFunc s).bind fun v0 =>
  some (decide (0≤v0))
/- lineal/code.Valid -/
noncomputable def code_Valid (c:List (List (Int×Int×Int×Int))):Option Bool :=
  if (decide (1≤(c.length:Int)))=true then
  if (decide ((c.length:Int)≤4))=true then
  (slices_ContainsFunc c).bind fun v0 =>
  some (!v0)
  else
  some false
  else
  some false
/- lineal/code.isWord$1 -/
noncomputable def code_isWord_1 (op0:Int) (a1:List (List (Int×Int×Int×Int))):Option Bool :=
  (code_isBelow op0 (a1.length:Int)).bind fun v0 =>
  some (!v0)
/- slices.IndexFunc[[]int,int] -/
noncomputable def slices_IndexFunc_4_k1:Option Int :=
  some (-1)
noncomputable def slices_IndexFunc_4_b1 (s:List Int) (c0:List (List (Int×Int×Int×Int))) (st1:Int):Option (Step Int (Sum Int Unit)) :=
  if (decide (st1<(s.length:Int)))=true then
  ck (0≤st1) <| ck (st1<(s.length:Int)) <| (code_isWord_1 (s.getD st1.toNat 0) c0).bind fun v0 =>
  if v0=true then
  some (.done (Sum.inl st1))
  else
  ck (InK .i64 (st1+1)) <| some (.next (st1+1))
  else
  some (.done (Sum.inr ()))
noncomputable def slices_IndexFunc_4 (s:List Int) (c0:List (List (Int×Int×Int×Int))):Option Int :=
  (whileO (slices_IndexFunc_4_b1 s c0) 0).bind fun x=>match x with
  | .inl r1=>(some r1)
  | .inr _=>(slices_IndexFunc_4_k1)
/- slices.ContainsFunc[[]int,int] -/
noncomputable def slices_ContainsFunc_4 (s:List Int) (c0:List (List (Int×Int×Int×Int))):Option Bool :=
  (slices_IndexFunc_4 s c0).bind fun v0 =>
  some (decide (0≤v0))
/- lineal/code.isWord -/
noncomputable def code_isWord (c:List (List (Int×Int×Int×Int))) (word:List Int):Option Bool :=
  if (decide ((word.length:Int)≤3))=true then
  (slices_ContainsFunc_4 word c).bind fun v0 =>
  some (!v0)
  else
  some false
/- lineal/code.isUse$1 -/
noncomputable def code_isUse_1 (word:List Int) (a1:List (List (Int×Int×Int×Int))):Option Bool :=
  (code_isWord a1 word).bind fun v0 =>
  some (!v0)
/- slices.IndexFunc[[][]int,[]int] -/
noncomputable def slices_IndexFunc_3_k1:Option Int :=
  some (-1)
noncomputable def slices_IndexFunc_3_b1 (s:List (List Int)) (c0:List (List (Int×Int×Int×Int))) (st1:Int):Option (Step Int (Sum Int Unit)) :=
  if (decide (st1<(s.length:Int)))=true then
  ck (0≤st1) <| ck (st1<(s.length:Int)) <| (code_isUse_1 (s.getD st1.toNat []) c0).bind fun v0 =>
  if v0=true then
  some (.done (Sum.inl st1))
  else
  ck (InK .i64 (st1+1)) <| some (.next (st1+1))
  else
  some (.done (Sum.inr ()))
noncomputable def slices_IndexFunc_3 (s:List (List Int)) (c0:List (List (Int×Int×Int×Int))):Option Int :=
  (whileO (slices_IndexFunc_3_b1 s c0) 0).bind fun x=>match x with
  | .inl r1=>(some r1)
  | .inr _=>(slices_IndexFunc_3_k1)
/- slices.ContainsFunc[[][]int,[]int] -/
noncomputable def slices_ContainsFunc_3 (s:List (List Int)) (c0:List (List (Int×Int×Int×Int))):Option Bool :=
  (slices_IndexFunc_3 s c0).bind fun v0 =>
  some (decide (0≤v0))
/- lineal/code.isUse -/
noncomputable def code_isUse (c:List (List (Int×Int×Int×Int))) (use:List (List Int)):Option Bool :=
  if (decide (1≤(use.length:Int)))=true then
  if (decide ((use.length:Int)≤2))=true then
  (slices_ContainsFunc_3 use c).bind fun v0 =>
  some (!v0)
  else
  some false
  else
  some false
/- lineal/code.ValidUse -/
noncomputable def code_ValidUse (c:List (List (Int×Int×Int×Int))) (use:List (List Int)):Option (Bool×Int) :=
  (code_Valid c).bind fun v0 =>
  if (!v0)=true then
  some (false,80)
  else
  (code_isUse c use).bind fun v0_2 =>
  some (v0_2,0)
/- lineal/code.checkUse -/
noncomputable def code_checkUse (c:List (List (Int×Int×Int×Int))) (use:List (List Int)):Option Int :=
  (code_ValidUse c use).bind fun v0 =>
  if (decide (v0.2=0))=true then
  if (!v0.1)=true then
  some 81
  else
  some v0.2
  else
  some v0.2
/- (lineal/code.run).hasLine -/
noncomputable def code_run_hasLine (r0:((List (List (Int×Int×Int×Int)))×(List (List Int)))×(List Int)×(El T80)×(Int×Int×Int)×(El T85)×(El T86)×Int) (thread:Int):Option Bool :=
  (code_isBelow thread (r0.1.2.length:Int)).bind fun v0 =>
  if v0=true then
  ck (0≤thread) <| ck (thread<2) <| ck (kAt T85 ((thread.toNat*8))=some (some .i64)) <| ck (0≤thread) <| ck (thread<(r0.1.2.length:Int)) <| some (decide ((intAt T85 r0.2.2.2.2.1 (thread.toNat*8))<((r0.1.2.getD thread.toNat []).length:Int)))
  else
  some false
/- (*lineal/code.worker).do -/
noncomputable def code_worker_do (w:Nat) (l:Int×Int×Int×Int) (w_2:List (List (Int×Int×Int×Int))) (w_3:List (List Int)) (w_4:(El T80)) (w_5:Int) (w_6:Int) (w_7:Int) (w_8:(El T85)) (w_9:(El T86)) (w_10:Int) (w_11:List Int):Option (Int×Int×Int×(El T85)) :=
  if (decide (l.1=1))=true then
  ck (0≤l.2.2.1) <| ck (l.2.2.1<3) <| if (decide (l.2.2.1=0))=true then
  ck (0≤l.2.1) <| ck (l.2.1<4) <| ck (kAt T85 (((w+4)+l.2.1.toNat*1))=some (some .i64)) <| some (w_5,w_6,w_7,(setInt T85 w_8 ((w+4)+l.2.1.toNat*1) w_5))
  else
  if (decide (l.2.2.1=1))=true then
  ck (0≤l.2.1) <| ck (l.2.1<4) <| ck (kAt T85 (((w+4)+l.2.1.toNat*1))=some (some .i64)) <| some (w_5,w_6,w_7,(setInt T85 w_8 ((w+4)+l.2.1.toNat*1) w_6))
  else
  ck (0≤l.2.1) <| ck (l.2.1<4) <| ck (kAt T85 (((w+4)+l.2.1.toNat*1))=some (some .i64)) <| some (w_5,w_6,w_7,(setInt T85 w_8 ((w+4)+l.2.1.toNat*1) w_7))
  else
  if (decide (l.1=2))=true then
  ck (0≤l.2.2.1) <| ck (l.2.2.1<4) <| ck (kAt T85 (((w+4)+l.2.2.1.toNat*1))=some (some .i64)) <| ck (0≤l.2.1) <| ck (l.2.1<3) <| if (decide (l.2.1=0))=true then
  some ((intAt T85 w_8 ((w+4)+l.2.2.1.toNat*1)),w_6,w_7,w_8)
  else
  if (decide (l.2.1=1))=true then
  some (w_5,(intAt T85 w_8 ((w+4)+l.2.2.1.toNat*1)),w_7,w_8)
  else
  some (w_5,w_6,(intAt T85 w_8 ((w+4)+l.2.2.1.toNat*1)),w_8)
  else
  if (decide (l.1=3))=true then
  ck (0≤l.2.1) <| ck (l.2.1<3) <| if (decide (l.2.1=0))=true then
  ck (0≤l.2.2.1) <| ck (l.2.2.1<4) <| ck (kAt T85 (((w+4)+l.2.2.1.toNat*1))=some (some .i64)) <| if (decide (w_5=(intAt T85 w_8 ((w+4)+l.2.2.1.toNat*1))))=true then
  ck (0≤l.2.2.2) <| ck (l.2.2.2<4) <| ck (kAt T85 (((w+4)+l.2.2.2.toNat*1))=some (some .i64)) <| ck (kAt T85 (((w+4)+3))=some (some .i64)) <| some ((intAt T85 w_8 ((w+4)+l.2.2.2.toNat*1)),w_6,w_7,(setInt T85 w_8 ((w+4)+3) 1))
  else
  ck (kAt T85 (((w+4)+3))=some (some .i64)) <| some (w_5,w_6,w_7,(setInt T85 w_8 ((w+4)+3) 0))
  else
  if (decide (l.2.1=1))=true then
  ck (0≤l.2.2.1) <| ck (l.2.2.1<4) <| ck (kAt T85 (((w+4)+l.2.2.1.toNat*1))=some (some .i64)) <| if (decide (w_6=(intAt T85 w_8 ((w+4)+l.2.2.1.toNat*1))))=true then
  ck (0≤l.2.2.2) <| ck (l.2.2.2<4) <| ck (kAt T85 (((w+4)+l.2.2.2.toNat*1))=some (some .i64)) <| ck (kAt T85 (((w+4)+3))=some (some .i64)) <| some (w_5,(intAt T85 w_8 ((w+4)+l.2.2.2.toNat*1)),w_7,(setInt T85 w_8 ((w+4)+3) 1))
  else
  ck (kAt T85 (((w+4)+3))=some (some .i64)) <| some (w_5,w_6,w_7,(setInt T85 w_8 ((w+4)+3) 0))
  else
  ck (0≤l.2.2.1) <| ck (l.2.2.1<4) <| ck (kAt T85 (((w+4)+l.2.2.1.toNat*1))=some (some .i64)) <| if (decide (w_7=(intAt T85 w_8 ((w+4)+l.2.2.1.toNat*1))))=true then
  ck (0≤l.2.2.2) <| ck (l.2.2.2<4) <| ck (kAt T85 (((w+4)+l.2.2.2.toNat*1))=some (some .i64)) <| ck (kAt T85 (((w+4)+3))=some (some .i64)) <| some (w_5,w_6,(intAt T85 w_8 ((w+4)+l.2.2.2.toNat*1)),(setInt T85 w_8 ((w+4)+3) 1))
  else
  ck (kAt T85 (((w+4)+3))=some (some .i64)) <| some (w_5,w_6,w_7,(setInt T85 w_8 ((w+4)+3) 0))
  else
  if (decide (l.1=4))=true then
  ck (0≤l.2.1) <| ck (l.2.1<4) <| ck (kAt T85 (((w+4)+l.2.1.toNat*1))=some (some .i64)) <| some (w_5,w_6,w_7,(setInt T85 w_8 ((w+4)+l.2.1.toNat*1) l.2.2.1))
  else
  if (decide (l.1=5))=true then
  ck (0≤l.2.2.1) <| ck (l.2.2.1<4) <| ck (kAt T85 (((w+4)+l.2.2.1.toNat*1))=some (some .i64)) <| ck (0≤l.2.2.2) <| ck (l.2.2.2<4) <| ck (kAt T85 (((w+4)+l.2.2.2.toNat*1))=some (some .i64)) <| ck (InK .i64 ((intAt T85 w_8 ((w+4)+l.2.2.1.toNat*1))+(intAt T85 w_8 ((w+4)+l.2.2.2.toNat*1)))) <| ck (0≤((intAt T85 w_8 ((w+4)+l.2.2.1.toNat*1))+(intAt T85 w_8 ((w+4)+l.2.2.2.toNat*1)))) <| ck (0≤l.2.1) <| ck (l.2.1<4) <| ck (kAt T85 (((w+4)+l.2.1.toNat*1))=some (some .i64)) <| some (w_5,w_6,w_7,(setInt T85 w_8 ((w+4)+l.2.1.toNat*1) (((intAt T85 w_8 ((w+4)+l.2.2.1.toNat*1))+(intAt T85 w_8 ((w+4)+l.2.2.2.toNat*1))) % 10)))
  else
  if (decide (l.1=6))=true then
  ck (0≤l.2.1) <| ck (l.2.1<4) <| ck (kAt T85 (((w+4)+l.2.1.toNat*1))=some (some .i64)) <| if (decide ((intAt T85 w_8 ((w+4)+l.2.1.toNat*1))=0))=true then
  ck (kAt T85 ((w+3))=some (some .i64)) <| some (w_5,w_6,w_7,(setInt T85 w_8 (w+3) l.2.2.1))
  else
  some (w_5,w_6,w_7,w_8)
  else
  some (w_5,w_6,w_7,w_8)
/- (lineal/code.run).step -/
noncomputable def code_run_step_k1 (r0:((List (List (Int×Int×Int×Int)))×(List (List Int)))×(List Int)×(El T80)×(Int×Int×Int)×(El T85)×(El T86)×Int) (thread:Int) (b1:(El T85)×(El T86)×Int):Option ((El T80)×Int×Int×Int×(El T85)×(El T86)×Int) :=
  ck (kAt T85 (((thread.toNat*8)+2))=some (some .i64)) <| ck (0≤(intAt T85 b1.1 ((thread.toNat*8)+2))) <| ck ((intAt T85 b1.1 ((thread.toNat*8)+2))<6) <| ck (0≤(intAt T86 b1.2.1 (((intAt T85 b1.1 ((thread.toNat*8)+2)).toNat*6)+2))) <| ck ((intAt T86 b1.2.1 (((intAt T85 b1.1 ((thread.toNat*8)+2)).toNat*6)+2))<(r0.1.1.length:Int)) <| ck (kAt T85 (((thread.toNat*8)+3))=some (some .i64)) <| ck (0≤(intAt T85 b1.1 ((thread.toNat*8)+3))) <| ck ((intAt T85 b1.1 ((thread.toNat*8)+3))<((r0.1.1.getD (intAt T86 b1.2.1 (((intAt T85 b1.1 ((thread.toNat*8)+2)).toNat*6)+2)).toNat []).length:Int)) <| ck (kAt T85 (((thread.toNat*8)+2))=some (some .i64)) <| ck (kAt T85 (((thread.toNat*8)+3))=some (some .i64)) <| ck ((r0.2.1.length:Int)<12) <| ck (kAt T85 (((thread.toNat*8)+3))=some (some .i64)) <| ck (InK .i64 ((intAt T85 b1.1 ((thread.toNat*8)+3))+1)) <| ck (kAt T85 (((thread.toNat*8)+3))=some (some .i64)) <| if (decide (((r0.1.1.getD (intAt T86 b1.2.1 (((intAt T85 b1.1 ((thread.toNat*8)+2)).toNat*6)+2)).toNat []).getD (intAt T85 b1.1 ((thread.toNat*8)+3)).toNat (0,0,0,0)).1=7))=true then
  ck (0≤((r0.1.1.getD (intAt T86 b1.2.1 (((intAt T85 b1.1 ((thread.toNat*8)+2)).toNat*6)+2)).toNat []).getD (intAt T85 b1.1 ((thread.toNat*8)+3)).toNat (0,0,0,0)).2.1) <| ck (((r0.1.1.getD (intAt T86 b1.2.1 (((intAt T85 b1.1 ((thread.toNat*8)+2)).toNat*6)+2)).toNat []).getD (intAt T85 b1.1 ((thread.toNat*8)+3)).toNat (0,0,0,0)).2.1<4) <| ck (kAt T85 ((((thread.toNat*8)+4)+((r0.1.1.getD (intAt T86 b1.2.1 (((intAt T85 b1.1 ((thread.toNat*8)+2)).toNat*6)+2)).toNat []).getD (intAt T85 b1.1 ((thread.toNat*8)+3)).toNat (0,0,0,0)).2.1.toNat*1))=some (some .i64)) <| ck (InK .i64 (2*(r0.2.1.length:Int))) <| ck (InK .i64 ((2*(r0.2.1.length:Int))+2)) <| ck (kAt T85 (((thread.toNat*8)+1))=some none) <| ck (kAt T85 ((thread.toNat*8))=some (some .i64)) <| ck (InK .i64 ((intAt T85 (setBool T85 (setInt T85 b1.1 ((thread.toNat*8)+3) ((intAt T85 b1.1 ((thread.toNat*8)+3))+1)) ((thread.toNat*8)+1) false) (thread.toNat*8))+1)) <| ck (kAt T85 ((thread.toNat*8))=some (some .i64)) <| some ((putX T80 (.pair (.int .i64) (.int .i64)) r0.2.2.1 (r0.2.1.length*2) ((intAt T85 b1.1 ((thread.toNat*8)+2)),(intAt T85 b1.1 ((thread.toNat*8)+3)))),r0.2.2.2.1.1,r0.2.2.2.1.2.1,r0.2.2.2.1.2.2,(setInt T85 (setBool T85 (setInt T85 b1.1 ((thread.toNat*8)+3) ((intAt T85 b1.1 ((thread.toNat*8)+3))+1)) ((thread.toNat*8)+1) false) (thread.toNat*8) ((intAt T85 (setBool T85 (setInt T85 b1.1 ((thread.toNat*8)+3) ((intAt T85 b1.1 ((thread.toNat*8)+3))+1)) ((thread.toNat*8)+1) false) (thread.toNat*8))+1)),(setInt T86 (setInt T86 b1.2.1 (((intAt T85 b1.1 ((thread.toNat*8)+2)).toNat*6)+3) (intAt T85 (setInt T85 b1.1 ((thread.toNat*8)+3) ((intAt T85 b1.1 ((thread.toNat*8)+3))+1)) (((thread.toNat*8)+4)+((r0.1.1.getD (intAt T86 b1.2.1 (((intAt T85 b1.1 ((thread.toNat*8)+2)).toNat*6)+2)).toNat []).getD (intAt T85 b1.1 ((thread.toNat*8)+3)).toNat (0,0,0,0)).2.1.toNat*1))) (((intAt T85 b1.1 ((thread.toNat*8)+2)).toNat*6)+5) ((2*(r0.2.1.length:Int))+2)),b1.2.2)
  else
  (code_worker_do (thread.toNat*8) ((r0.1.1.getD (intAt T86 b1.2.1 (((intAt T85 b1.1 ((thread.toNat*8)+2)).toNat*6)+2)).toNat []).getD (intAt T85 b1.1 ((thread.toNat*8)+3)).toNat (0,0,0,0)) r0.1.1 r0.1.2 (putX T80 (.pair (.int .i64) (.int .i64)) r0.2.2.1 (r0.2.1.length*2) ((intAt T85 b1.1 ((thread.toNat*8)+2)),(intAt T85 b1.1 ((thread.toNat*8)+3)))) r0.2.2.2.1.1 r0.2.2.2.1.2.1 r0.2.2.2.1.2.2 (setInt T85 b1.1 ((thread.toNat*8)+3) ((intAt T85 b1.1 ((thread.toNat*8)+3))+1)) b1.2.1 b1.2.2 ((r0.2.1.take r0.2.1.length)++[thread])).bind fun v0 =>
  some ((putX T80 (.pair (.int .i64) (.int .i64)) r0.2.2.1 (r0.2.1.length*2) ((intAt T85 b1.1 ((thread.toNat*8)+2)),(intAt T85 b1.1 ((thread.toNat*8)+3)))),v0.1,v0.2.1,v0.2.2.1,v0.2.2.2,b1.2)
noncomputable def code_run_step (r0:((List (List (Int×Int×Int×Int)))×(List (List Int)))×(List Int)×(El T80)×(Int×Int×Int)×(El T85)×(El T86)×Int) (thread:Int):Option ((El T80)×Int×Int×Int×(El T85)×(El T86)×Int) :=
  ck (((r0.2.1.take r0.2.1.length).length+1)*8≤140737488355328) <| ck (0≤thread) <| ck (thread<2) <| ck (kAt T85 (((thread.toNat*8)+1))=some none) <| if (!(boolAt T85 r0.2.2.2.2.1 ((thread.toNat*8)+1)))=true then
  ck (0≤thread) <| ck (thread<(r0.1.2.length:Int)) <| ck (kAt T85 ((thread.toNat*8))=some (some .i64)) <| ck (0≤(intAt T85 r0.2.2.2.2.1 (thread.toNat*8))) <| ck ((intAt T85 r0.2.2.2.2.1 (thread.toNat*8))<((r0.1.2.getD thread.toNat []).length:Int)) <| ck (InK .i64 (2*(r0.2.1.length:Int))) <| ck (InK .i64 ((2*(r0.2.1.length:Int))+1)) <| ck (0≤r0.2.2.2.2.2.2) <| ck (r0.2.2.2.2.2.2<6) <| ck (kAt T85 ((thread.toNat*8))=some (some .i64)) <| ck (partOK T85 ((.pair (.int .i64) (.pair .bool (.pair (.int .i64) (.pair (.int .i64) (.pair (.int .i64) (.pair (.int .i64) (.pair (.int .i64) (.int .i64))))))))) ((thread.toNat*8))=true) <| ck (InK .i64 (r0.2.2.2.2.2.2+1)) <| code_run_step_k1 r0 thread ((putX T85 (.pair (.int .i64) (.pair .bool (.pair (.int .i64) (.pair (.int .i64) (.pair (.int .i64) (.pair (.int .i64) (.pair (.int .i64) (.int .i64)))))))) r0.2.2.2.2.1 (thread.toNat*8) ((intAt T85 r0.2.2.2.2.1 (thread.toNat*8)),true,r0.2.2.2.2.2.2,0,0,1,0,0)),(putX T86 (.pair (.int .i64) (.pair (.int .i64) (.pair (.int .i64) (.pair (.int .i64) (.pair (.int .i64) (.int .i64)))))) r0.2.2.2.2.2.1 (r0.2.2.2.2.2.2.toNat*6) (thread,0,((r0.1.2.getD thread.toNat []).getD (intAt T85 r0.2.2.2.2.1 (thread.toNat*8)).toNat 0),0,((2*(r0.2.1.length:Int))+1),0)),(r0.2.2.2.2.2.2+1))
  else
  code_run_step_k1 r0 thread r0.2.2.2.2
/- (lineal/code.program).play -/
noncomputable def code_program_play_k1 (p:(List (List (Int×Int×Int×Int)))×(List (List Int))) (b1:(List Int)×(El T80)×Int×Int×Int×(El T85)×(El T86)×Int):Option ((List (List (Int×Int×Int×Int)))×(List (List Int))×(List Int)×(El T80)×Int×Int×Int×(El T85)×(El T86)×Int×Bool) :=
  some (p.1,p.2,b1.1,b1.2.1,b1.2.2.1,b1.2.2.2.1,b1.2.2.2.2.1,b1.2.2.2.2.2.1,b1.2.2.2.2.2.2.1,b1.2.2.2.2.2.2.2,true)
noncomputable def code_program_play_b1 (p:(List (List (Int×Int×Int×Int)))×(List (List Int))) (schedule:List Int) (st1:(List Int)×(El T80)×Int×Int×Int×(El T85)×(El T86)×Int×Int):Option (Step ((List Int)×(El T80)×Int×Int×Int×(El T85)×(El T86)×Int×Int) (Sum Unit ((List Int)×(El T80)×Int×Int×Int×(El T85)×(El T86)×Int))) :=
  if (decide (st1.2.2.2.2.2.2.2.2<(schedule.length:Int)))=true then
  ck (0≤st1.2.2.2.2.2.2.2.2) <| ck (st1.2.2.2.2.2.2.2.2<(schedule.length:Int)) <| (code_run_hasLine (p,st1.1,st1.2.1,(st1.2.2.1,st1.2.2.2.1,st1.2.2.2.2.1),st1.2.2.2.2.2.1,st1.2.2.2.2.2.2.1,st1.2.2.2.2.2.2.2.1) (schedule.getD st1.2.2.2.2.2.2.2.2.toNat 0)).bind fun v0 =>
  if (!v0)=true then
  some (.done (Sum.inl ()))
  else
  (code_run_step (p,st1.1,st1.2.1,(st1.2.2.1,st1.2.2.2.1,st1.2.2.2.2.1),st1.2.2.2.2.2.1,st1.2.2.2.2.2.2.1,st1.2.2.2.2.2.2.2.1) (schedule.getD st1.2.2.2.2.2.2.2.2.toNat 0)).bind fun v0_2 =>
  ck (InK .i64 (st1.2.2.2.2.2.2.2.2+1)) <| some (.next (((st1.1.take st1.1.length)++[(schedule.getD st1.2.2.2.2.2.2.2.2.toNat 0)]),v0_2.1,v0_2.2.1,v0_2.2.2.1,v0_2.2.2.2.1,v0_2.2.2.2.2.1,v0_2.2.2.2.2.2.1,v0_2.2.2.2.2.2.2,(st1.2.2.2.2.2.2.2.2+1)))
  else
  some (.done (Sum.inr (st1.1,st1.2.1,st1.2.2.1,st1.2.2.2.1,st1.2.2.2.2.1,st1.2.2.2.2.2.1,st1.2.2.2.2.2.2.1,st1.2.2.2.2.2.2.2.1)))
noncomputable def code_program_play (p:(List (List (Int×Int×Int×Int)))×(List (List Int))) (schedule:List Int):Option ((List (List (Int×Int×Int×Int)))×(List (List Int))×(List Int)×(El T80)×Int×Int×Int×(El T85)×(El T86)×Int×Bool) :=
  if (decide (12<(schedule.length:Int)))=true then
  some ([],[],[],(Ty.dflt T80),0,0,0,(Ty.dflt T85),(Ty.dflt T86),0,false)
  else
  (whileO (code_program_play_b1 p schedule) ([],(Ty.dflt T80),0,0,0,(Ty.dflt T85),(Ty.dflt T86),0,0)).bind fun x=>match x with
  | .inl _=>(some ([],[],[],(Ty.dflt T80),0,0,0,(Ty.dflt T85),(Ty.dflt T86),0,false))
  | .inr r1=>(code_program_play_k1 p r1)
/- lineal/code.played -/
noncomputable def code_played (c:List (List (Int×Int×Int×Int))) (use:List (List Int)) (schedule:List Int):Option ((List (List (Int×Int×Int×Int)))×(List (List Int))×(List Int)×(El T80)×Int×Int×Int×(El T85)×(El T86)×Int×Int) :=
  (code_checkUse c use).bind fun v0 =>
  if (!(decide (v0=0)))=true then
  some ([],[],[],(Ty.dflt T80),0,0,0,(Ty.dflt T85),(Ty.dflt T86),0,v0)
  else
  (code_program_play (c,use) schedule).bind fun v0_2 =>
  if (!v0_2.2.2.2.2.2.2.2.2.2.2)=true then
  some ([],[],[],(Ty.dflt T80),0,0,0,(Ty.dflt T85),(Ty.dflt T86),0,2)
  else
  some (v0_2.1,v0_2.2.1,v0_2.2.2.1,v0_2.2.2.2.1,v0_2.2.2.2.2.1,v0_2.2.2.2.2.2.1,v0_2.2.2.2.2.2.2.1,v0_2.2.2.2.2.2.2.2.1,v0_2.2.2.2.2.2.2.2.2.1,v0_2.2.2.2.2.2.2.2.2.2.1,0)
/- slices.Clone[[]lineal/api.Call,lineal/api.Call] -/
noncomputable def slices_Clone (s:ZH):Option (ZH) :=
  ck (s.length*48≤140737488355328) <| some s
/- (lineal/code.run).history -/
noncomputable def code_run_history (r0:((List (List (Int×Int×Int×Int)))×(List (List Int)))×(List Int)×(El T80)×(Int×Int×Int)×(El T85)×(El T86)×Int):Option (ZH) :=
  ck (0≤r0.2.2.2.2.2.2) <| ck (r0.2.2.2.2.2.2≤6) <| (slices_Clone ((listT (.pair (.int .i64) (.pair (.int .i64) (.pair (.int .i64) (.pair (.int .i64) (.pair (.int .i64) (.int .i64)))))) 6 r0.2.2.2.2.2.1).take r0.2.2.2.2.2.2.toNat)).bind fun v0 =>
  some v0
/- lineal/code.Run -/
noncomputable def code_Run (c:List (List (Int×Int×Int×Int))) (use:List (List Int)) (schedule:List Int):Option (ZH×Int) :=
  (code_played c use schedule).bind fun v0 =>
  if (!(decide (v0.2.2.2.2.2.2.2.2.2.2=0)))=true then
  some ([],v0.2.2.2.2.2.2.2.2.2.2)
  else
  (code_run_history ((v0.1,v0.2.1),v0.2.2.1,v0.2.2.2.1,(v0.2.2.2.2.1,v0.2.2.2.2.2.1,v0.2.2.2.2.2.2.1),v0.2.2.2.2.2.2.2.1,v0.2.2.2.2.2.2.2.2.1,v0.2.2.2.2.2.2.2.2.2.1)).bind fun v0_2 =>
  some (v0_2,0)
/- lineal/lineallaw08.Sane -/
noncomputable def lineallaw08_Sane:Option Bool :=
  (code_Run [[(1,0,0,0),(5,2,0,1),(2,0,2,0),(7,0,0,0)]] [[0],[0]] [0,0,1,1,0,0,1,1]).bind fun v0 =>
  if (decide (v0.2=0))=true then
  if (decide ((v0.1.length:Int)=2))=true then
  ck (0<(v0.1.length:Int)) <| ck (InK .i64 (v0.1.getD 0 (0,0,0,0,0,0)).1) <| ck (InK .i64 (v0.1.getD 0 (0,0,0,0,0,0)).2.1) <| ck (InK .i64 (v0.1.getD 0 (0,0,0,0,0,0)).2.2.1) <| ck (InK .i64 (v0.1.getD 0 (0,0,0,0,0,0)).2.2.2.1) <| ck (InK .i64 (v0.1.getD 0 (0,0,0,0,0,0)).2.2.2.2.1) <| ck (InK .i64 (v0.1.getD 0 (0,0,0,0,0,0)).2.2.2.2.2) <| ck (InK .i64 0) <| ck (InK .i64 0) <| ck (InK .i64 0) <| ck (InK .i64 0) <| ck (InK .i64 1) <| ck (InK .i64 12) <| if (decide ((v0.1.getD 0 (0,0,0,0,0,0))=(0,0,0,0,1,12)))=true then
  ck (1<(v0.1.length:Int)) <| ck (InK .i64 (v0.1.getD 1 (0,0,0,0,0,0)).1) <| ck (InK .i64 (v0.1.getD 1 (0,0,0,0,0,0)).2.1) <| ck (InK .i64 (v0.1.getD 1 (0,0,0,0,0,0)).2.2.1) <| ck (InK .i64 (v0.1.getD 1 (0,0,0,0,0,0)).2.2.2.1) <| ck (InK .i64 (v0.1.getD 1 (0,0,0,0,0,0)).2.2.2.2.1) <| ck (InK .i64 (v0.1.getD 1 (0,0,0,0,0,0)).2.2.2.2.2) <| ck (InK .i64 1) <| ck (InK .i64 0) <| ck (InK .i64 0) <| ck (InK .i64 0) <| ck (InK .i64 5) <| ck (InK .i64 16) <| some (decide ((v0.1.getD 1 (0,0,0,0,0,0))=(1,0,0,0,5,16)))
  else
  some false
  else
  some false
  else
  some false
/- lineal/linealref08.within -/
noncomputable def linealref08_within (lo:Int) (n:Int) (hi:Int):Option Bool :=
  if (decide (lo≤n))=true then
  some (decide (n≤hi))
  else
  some false
/- lineal/linealref08.isRegister -/
noncomputable def linealref08_isRegister (n:Int):Option Bool :=
  (linealref08_within 0 n 3).bind fun v0 =>
  some v0
/- lineal/linealref08.isCell -/
noncomputable def linealref08_isCell (n:Int):Option Bool :=
  (linealref08_within 0 n 2).bind fun v0 =>
  some v0
/- lineal/linealref08.isNumber -/
noncomputable def linealref08_isNumber (n:Int):Option Bool :=
  (linealref08_within 0 n 9).bind fun v0 =>
  some v0
/- lineal/linealref08.isLine -/
noncomputable def linealref08_isLine (l:Int×Int×Int×Int) (lines:Int):Option Bool :=
  if (decide (l.1=1))=true then
  (linealref08_isRegister l.2.1).bind fun v0 =>
  if v0=true then
  (linealref08_isCell l.2.2.1).bind fun v0_2 =>
  if v0_2=true then
  some (decide (l.2.2.2=0))
  else
  some false
  else
  some false
  else
  if (decide (l.1=2))=true then
  (linealref08_isCell l.2.1).bind fun v0_3 =>
  if v0_3=true then
  (linealref08_isRegister l.2.2.1).bind fun v0_4 =>
  if v0_4=true then
  some (decide (l.2.2.2=0))
  else
  some false
  else
  some false
  else
  if (decide (l.1=3))=true then
  (linealref08_isCell l.2.1).bind fun v0_5 =>
  if v0_5=true then
  (linealref08_isRegister l.2.2.1).bind fun v0_6 =>
  if v0_6=true then
  (linealref08_isRegister l.2.2.2).bind fun v0_7 =>
  some v0_7
  else
  some false
  else
  some false
  else
  if (decide (l.1=4))=true then
  (linealref08_isRegister l.2.1).bind fun v0_8 =>
  if v0_8=true then
  (linealref08_isNumber l.2.2.1).bind fun v0_9 =>
  if v0_9=true then
  some (decide (l.2.2.2=0))
  else
  some false
  else
  some false
  else
  if (decide (l.1=5))=true then
  (linealref08_isRegister l.2.1).bind fun v0_10 =>
  if v0_10=true then
  (linealref08_isRegister l.2.2.1).bind fun v0_11 =>
  if v0_11=true then
  (linealref08_isRegister l.2.2.2).bind fun v0_12 =>
  some v0_12
  else
  some false
  else
  some false
  else
  if (decide (l.1=6))=true then
  (linealref08_isRegister l.2.1).bind fun v0_13 =>
  if v0_13=true then
  ck (InK .i64 (lines - 1)) <| (linealref08_within 0 l.2.2.1 (lines - 1)).bind fun v0_14 =>
  if v0_14=true then
  some (decide (l.2.2.2=0))
  else
  some false
  else
  some false
  else
  if (decide (l.1=7))=true then
  (linealref08_isRegister l.2.1).bind fun v0_15 =>
  if v0_15=true then
  if (decide (l.2.2.1=0))=true then
  some (decide (l.2.2.2=0))
  else
  some false
  else
  some false
  else
  some false
/- lineal/linealref08.Valid -/
noncomputable def linealref08_Valid_k1:Option Bool :=
  some true
noncomputable def linealref08_Valid_k2 (st1:Int):Option (Step Int (Sum Unit Unit)) :=
  ck (InK .i64 (st1+1)) <| some (.next (st1+1))
noncomputable def linealref08_Valid_k3 (c:List (List (Int×Int×Int×Int))) (st1:Int):Option (Step Int (Sum Unit Unit)) :=
  ck (0≤st1) <| ck (st1<(c.length:Int)) <| ck (0≤st1) <| ck (st1<(c.length:Int)) <| ck (InK .i64 (((c.getD st1.toNat []).length:Int) - 1)) <| ck (0≤(((c.getD st1.toNat []).length:Int) - 1)) <| ck ((((c.getD st1.toNat []).length:Int) - 1)<((c.getD st1.toNat []).length:Int)) <| if (!(decide (((c.getD st1.toNat []).getD (((c.getD st1.toNat []).length:Int) - 1).toNat (0,0,0,0)).1=7)))=true then
  some (.done (Sum.inl ()))
  else
  linealref08_Valid_k2 st1
noncomputable def linealref08_Valid_b2 (c:List (List (Int×Int×Int×Int))) (st1:Int) (st2:Int):Option (Step Int (Sum Unit Unit)) :=
  ck (0≤st1) <| ck (st1<(c.length:Int)) <| if (decide (st2<((c.getD st1.toNat []).length:Int)))=true then
  ck (0≤st1) <| ck (st1<(c.length:Int)) <| ck (0≤st2) <| ck (st2<((c.getD st1.toNat []).length:Int)) <| ck (0≤st1) <| ck (st1<(c.length:Int)) <| (linealref08_isLine ((c.getD st1.toNat []).getD st2.toNat (0,0,0,0)) ((c.getD st1.toNat []).length:Int)).bind fun v0_3 =>
  if (!v0_3)=true then
  some (.done (Sum.inl ()))
  else
  ck (InK .i64 (st2+1)) <| some (.next (st2+1))
  else
  some (.done (Sum.inr ()))
noncomputable def linealref08_Valid_b1 (c:List (List (Int×Int×Int×Int))) (st1:Int):Option (Step Int (Sum Unit Unit)) :=
  if (decide (st1<(c.length:Int)))=true then
  ck (0≤st1) <| ck (st1<(c.length:Int)) <| (linealref08_within 1 ((c.getD st1.toNat []).length:Int) 8).bind fun v0_2 =>
  if (!v0_2)=true then
  some (.done (Sum.inl ()))
  else
  (whileO (linealref08_Valid_b2 c st1) 0).bind fun x=>match x with
  | .inl _=>(some (.done (Sum.inl ())))
  | .inr _=>(linealref08_Valid_k3 c st1)
  else
  some (.done (Sum.inr ()))
noncomputable def linealref08_Valid (c:List (List (Int×Int×Int×Int))):Option Bool :=
  (linealref08_within 1 (c.length:Int) 4).bind fun v0 =>
  if (!v0)=true then
  some false
  else
  (whileO (linealref08_Valid_b1 c) 0).bind fun x=>match x with
  | .inl _=>(some false)
  | .inr _=>(linealref08_Valid_k1)
/- lineal/linealref08.IsUse -/
noncomputable def linealref08_IsUse_k1:Option Bool :=
  some true
noncomputable def linealref08_IsUse_k2 (st1:Int):Option (Step Int (Sum Unit Unit)) :=
  ck (InK .i64 (st1+1)) <| some (.next (st1+1))
noncomputable def linealref08_IsUse_b2 (c:List (List (Int×Int×Int×Int))) (use:List (List Int)) (st1:Int) (st2:Int):Option (Step Int (Sum Unit Unit)) :=
  ck (0≤st1) <| ck (st1<(use.length:Int)) <| if (decide (st2<((use.getD st1.toNat []).length:Int)))=true then
  ck (0≤st1) <| ck (st1<(use.length:Int)) <| ck (0≤st2) <| ck (st2<((use.getD st1.toNat []).length:Int)) <| ck (InK .i64 ((c.length:Int) - 1)) <| (linealref08_within 0 ((use.getD st1.toNat []).getD st2.toNat 0) ((c.length:Int) - 1)).bind fun v0_2 =>
  if (!v0_2)=true then
  some (.done (Sum.inl ()))
  else
  ck (InK .i64 (st2+1)) <| some (.next (st2+1))
  else
  some (.done (Sum.inr ()))
noncomputable def linealref08_IsUse_b1 (c:List (List (Int×Int×Int×Int))) (use:List (List Int)) (st1:Int):Option (Step Int (Sum Unit Unit)) :=
  if (decide (st1<(use.length:Int)))=true then
  ck (0≤st1) <| ck (st1<(use.length:Int)) <| if (decide (3<((use.getD st1.toNat []).length:Int)))=true then
  some (.done (Sum.inl ()))
  else
  (whileO (linealref08_IsUse_b2 c use st1) 0).bind fun x=>match x with
  | .inl _=>(some (.done (Sum.inl ())))
  | .inr _=>(linealref08_IsUse_k2 st1)
  else
  some (.done (Sum.inr ()))
noncomputable def linealref08_IsUse (c:List (List (Int×Int×Int×Int))) (use:List (List Int)):Option Bool :=
  (linealref08_within 1 (use.length:Int) 2).bind fun v0 =>
  if (!v0)=true then
  some false
  else
  (whileO (linealref08_IsUse_b1 c use) 0).bind fun x=>match x with
  | .inl _=>(some false)
  | .inr _=>(linealref08_IsUse_k1)
/- lineal/linealref08.ValidUse -/
/- lineal/linealref08.asked -/
noncomputable def linealref08_asked (c:List (List (Int×Int×Int×Int))) (use:List (List Int)):Option Int :=
  (linealref08_Valid c).bind fun v0 =>
  if (!v0)=true then
  some 80
  else
  (linealref08_IsUse c use).bind fun v0_2 =>
  if (!v0_2)=true then
  some 81
  else
  some 0
/- lineal/linealref08.Begin -/
noncomputable def linealref08_Begin (c:List (List (Int×Int×Int×Int))) (use:List (List Int)) (marks:List Int):Option Unit :=
  ck (64*(use.length:Int)≤281474976710656) <| some ()
/- (*lineal/linealref08.Play).HasLine -/
/- (*lineal/linealref08.Play).Step -/
/- (*lineal/linealref08.Play).HasLine -/
noncomputable def linealref08_Play_HasLine_2 (t:Int) (p:List (List (Int×Int×Int×Int))) (p_2:List (List Int)) (p_3:List Int) (p_4:Int) (p_5:Int) (p_6:Int) (p_7:Int) (p_8:List (Int×Int×Bool×Int×Int×Int×Int×Int)) (p_9:ZH) (p_10:List Int):Option Bool :=
  ck (0≤t) <| ck (t<(p_8.length:Int)) <| if (p_8.getD t.toNat (0,0,false,0,0,0,0,0)).2.2.1=true then
  some true
  else
  ck (0≤t) <| ck (t<(p_8.length:Int)) <| ck (0≤t) <| ck (t<(p_2.length:Int)) <| some (decide ((p_8.getD t.toNat (0,0,false,0,0,0,0,0)).1<((p_2.getD t.toNat []).length:Int)))
/- (*lineal/linealref08.Play).Step -/
noncomputable def linealref08_Play_Step_2_k2 (t:Int) (p_3:List Int) (p_4:Int) (b1:(List (Int×Int×Bool×Int×Int×Int×Int×Int))×ZH×(List Int)) (b2:(List (Int×Int×Bool×Int×Int×Int×Int×Int))×Int×Int×Int×ZH):Option ((List (Int×Int×Bool×Int×Int×Int×Int×Int))×Int×Int×Int×ZH×(List Int)) :=
  if (decide ((b1.2.1.getD (b1.1.getD t.toNat (0,0,false,0,0,0,0,0)).2.2.2.1.toNat (0,0,0,0,0,0)).2.2.1<(p_3.length:Int)))=true then
  ck (0≤(b1.2.1.getD (b1.1.getD t.toNat (0,0,false,0,0,0,0,0)).2.2.2.1.toNat (0,0,0,0,0,0)).2.2.1) <| ck ((b1.2.1.getD (b1.1.getD t.toNat (0,0,false,0,0,0,0,0)).2.2.2.1.toNat (0,0,0,0,0,0)).2.2.1<(p_3.length:Int)) <| if (decide ((p_3.getD (b1.2.1.getD (b1.1.getD t.toNat (0,0,false,0,0,0,0,0)).2.2.2.1.toNat (0,0,0,0,0,0)).2.2.1.toNat 0)=(b1.1.getD t.toNat (0,0,false,0,0,0,0,0)).2.1))=true then
  ck (t.toNat<b2.1.length) <| ck (0≤(b2.1.getD t.toNat (0,0,false,0,0,0,0,0)).2.2.2.1) <| ck ((b2.1.getD t.toNat (0,0,false,0,0,0,0,0)).2.2.2.1<(b1.2.2.length:Int)) <| ck ((b2.1.getD t.toNat (0,0,false,0,0,0,0,0)).2.2.2.1.toNat<b1.2.2.length) <| some (b2.1,b2.2.1,b2.2.2.1,b2.2.2.2.1,b2.2.2.2.2,(b1.2.2.set (b2.1.getD t.toNat (0,0,false,0,0,0,0,0)).2.2.2.1.toNat p_4))
  else
  some (b2.1,b2.2.1,b2.2.2.1,b2.2.2.2.1,b2.2.2.2.2,b1.2.2)
  else
  some (b2.1,b2.2.1,b2.2.2.1,b2.2.2.2.1,b2.2.2.2.2,b1.2.2)
noncomputable def linealref08_Play_Step_2_k1 (t:Int) (p:List (List (Int×Int×Int×Int))) (p_3:List Int) (p_4:Int) (p_5:Int) (p_6:Int) (p_7:Int) (b1:(List (Int×Int×Bool×Int×Int×Int×Int×Int))×ZH×(List Int)):Option ((List (Int×Int×Bool×Int×Int×Int×Int×Int))×Int×Int×Int×ZH×(List Int)) :=
  ck (t.toNat<b1.1.length) <| ck (0≤(b1.1.getD t.toNat (0,0,false,0,0,0,0,0)).2.2.2.1) <| ck ((b1.1.getD t.toNat (0,0,false,0,0,0,0,0)).2.2.2.1<(b1.2.1.length:Int)) <| ck ((b1.1.getD t.toNat (0,0,false,0,0,0,0,0)).2.2.2.1.toNat<b1.2.1.length) <| ck (t.toNat<b1.1.length) <| ck (0≤(b1.2.1.getD (b1.1.getD t.toNat (0,0,false,0,0,0,0,0)).2.2.2.1.toNat (0,0,0,0,0,0)).2.2.1) <| ck ((b1.2.1.getD (b1.1.getD t.toNat (0,0,false,0,0,0,0,0)).2.2.2.1.toNat (0,0,0,0,0,0)).2.2.1<(p.length:Int)) <| ck (0≤(b1.1.getD t.toNat (0,0,false,0,0,0,0,0)).2.1) <| ck ((b1.1.getD t.toNat (0,0,false,0,0,0,0,0)).2.1<((p.getD (b1.2.1.getD (b1.1.getD t.toNat (0,0,false,0,0,0,0,0)).2.2.2.1.toNat (0,0,0,0,0,0)).2.2.1.toNat []).length:Int)) <| ck (InK .i64 ((b1.1.getD t.toNat (0,0,false,0,0,0,0,0)).2.1+1)) <| ck (t.toNat<b1.1.length) <| if (decide (((p.getD (b1.2.1.getD (b1.1.getD t.toNat (0,0,false,0,0,0,0,0)).2.2.2.1.toNat (0,0,0,0,0,0)).2.2.1.toNat []).getD (b1.1.getD t.toNat (0,0,false,0,0,0,0,0)).2.1.toNat (0,0,0,0)).1=1))=true then
  ck (0≤((p.getD (b1.2.1.getD (b1.1.getD t.toNat (0,0,false,0,0,0,0,0)).2.2.2.1.toNat (0,0,0,0,0,0)).2.2.1.toNat []).getD (b1.1.getD t.toNat (0,0,false,0,0,0,0,0)).2.1.toNat (0,0,0,0)).2.2.1) <| ck (((p.getD (b1.2.1.getD (b1.1.getD t.toNat (0,0,false,0,0,0,0,0)).2.2.2.1.toNat (0,0,0,0,0,0)).2.2.1.toNat []).getD (b1.1.getD t.toNat (0,0,false,0,0,0,0,0)).2.1.toNat (0,0,0,0)).2.2.1<3) <| if (decide (((p.getD (b1.2.1.getD (b1.1.getD t.toNat (0,0,false,0,0,0,0,0)).2.2.2.1.toNat (0,0,0,0,0,0)).2.2.1.toNat []).getD (b1.1.getD t.toNat (0,0,false,0,0,0,0,0)).2.1.toNat (0,0,0,0)).2.2.1=0))=true then
  ck (0≤((p.getD (b1.2.1.getD (b1.1.getD t.toNat (0,0,false,0,0,0,0,0)).2.2.2.1.toNat (0,0,0,0,0,0)).2.2.1.toNat []).getD (b1.1.getD t.toNat (0,0,false,0,0,0,0,0)).2.1.toNat (0,0,0,0)).2.1) <| ck (((p.getD (b1.2.1.getD (b1.1.getD t.toNat (0,0,false,0,0,0,0,0)).2.2.2.1.toNat (0,0,0,0,0,0)).2.2.1.toNat []).getD (b1.1.getD t.toNat (0,0,false,0,0,0,0,0)).2.1.toNat (0,0,0,0)).2.1<4) <| ck (t.toNat<(b1.1.set t.toNat ((b1.1.getD t.toNat (0,0,false,0,0,0,0,0)).1,((b1.1.getD t.toNat (0,0,false,0,0,0,0,0)).2.1+1),(b1.1.getD t.toNat (0,0,false,0,0,0,0,0)).2.2)).length) <| ck (kAt (.pair (.int .i64) (.pair (.int .i64) (.pair .bool (.pair (.int .i64) (.pair (.int .i64) (.pair (.int .i64) (.pair (.int .i64) (.int .i64)))))))) ((4+((p.getD (b1.2.1.getD (b1.1.getD t.toNat (0,0,false,0,0,0,0,0)).2.2.2.1.toNat (0,0,0,0,0,0)).2.2.1.toNat []).getD (b1.1.getD t.toNat (0,0,false,0,0,0,0,0)).2.1.toNat (0,0,0,0)).2.1.toNat*1))=some (some .i64)) <| linealref08_Play_Step_2_k2 t p_3 p_4 b1 (((b1.1.set t.toNat ((b1.1.getD t.toNat (0,0,false,0,0,0,0,0)).1,((b1.1.getD t.toNat (0,0,false,0,0,0,0,0)).2.1+1),(b1.1.getD t.toNat (0,0,false,0,0,0,0,0)).2.2)).set t.toNat (setInt (.pair (.int .i64) (.pair (.int .i64) (.pair .bool (.pair (.int .i64) (.pair (.int .i64) (.pair (.int .i64) (.pair (.int .i64) (.int .i64)))))))) ((b1.1.set t.toNat ((b1.1.getD t.toNat (0,0,false,0,0,0,0,0)).1,((b1.1.getD t.toNat (0,0,false,0,0,0,0,0)).2.1+1),(b1.1.getD t.toNat (0,0,false,0,0,0,0,0)).2.2)).getD t.toNat (0,0,false,0,0,0,0,0)) (4+((p.getD (b1.2.1.getD (b1.1.getD t.toNat (0,0,false,0,0,0,0,0)).2.2.2.1.toNat (0,0,0,0,0,0)).2.2.1.toNat []).getD (b1.1.getD t.toNat (0,0,false,0,0,0,0,0)).2.1.toNat (0,0,0,0)).2.1.toNat*1) p_5)),p_5,p_6,p_7,b1.2.1)
  else
  if (decide (((p.getD (b1.2.1.getD (b1.1.getD t.toNat (0,0,false,0,0,0,0,0)).2.2.2.1.toNat (0,0,0,0,0,0)).2.2.1.toNat []).getD (b1.1.getD t.toNat (0,0,false,0,0,0,0,0)).2.1.toNat (0,0,0,0)).2.2.1=1))=true then
  ck (0≤((p.getD (b1.2.1.getD (b1.1.getD t.toNat (0,0,false,0,0,0,0,0)).2.2.2.1.toNat (0,0,0,0,0,0)).2.2.1.toNat []).getD (b1.1.getD t.toNat (0,0,false,0,0,0,0,0)).2.1.toNat (0,0,0,0)).2.1) <| ck (((p.getD (b1.2.1.getD (b1.1.getD t.toNat (0,0,false,0,0,0,0,0)).2.2.2.1.toNat (0,0,0,0,0,0)).2.2.1.toNat []).getD (b1.1.getD t.toNat (0,0,false,0,0,0,0,0)).2.1.toNat (0,0,0,0)).2.1<4) <| ck (t.toNat<(b1.1.set t.toNat ((b1.1.getD t.toNat (0,0,false,0,0,0,0,0)).1,((b1.1.getD t.toNat (0,0,false,0,0,0,0,0)).2.1+1),(b1.1.getD t.toNat (0,0,false,0,0,0,0,0)).2.2)).length) <| ck (kAt (.pair (.int .i64) (.pair (.int .i64) (.pair .bool (.pair (.int .i64) (.pair (.int .i64) (.pair (.int .i64) (.pair (.int .i64) (.int .i64)))))))) ((4+((p.getD (b1.2.1.getD (b1.1.getD t.toNat (0,0,false,0,0,0,0,0)).2.2.2.1.toNat (0,0,0,0,0,0)).2.2.1.toNat []).getD (b1.1.getD t.toNat (0,0,false,0,0,0,0,0)).2.1.toNat (0,0,0,0)).2.1.toNat*1))=some (some .i64)) <| linealref08_Play_Step_2_k2 t p_3 p_4 b1 (((b1.1.set t.toNat ((b1.1.getD t.toNat (0,0,false,0,0,0,0,0)).1,((b1.1.getD t.toNat (0,0,false,0,0,0,0,0)).2.1+1),(b1.1.getD t.toNat (0,0,false,0,0,0,0,0)).2.2)).set t.toNat (setInt (.pair (.int .i64) (.pair (.int .i64) (.pair .bool (.pair (.int .i64) (.pair (.int .i64) (.pair (.int .i64) (.pair (.int .i64) (.int .i64)))))))) ((b1.1.set t.toNat ((b1.1.getD t.toNat (0,0,false,0,0,0,0,0)).1,((b1.1.getD t.toNat (0,0,false,0,0,0,0,0)).2.1+1),(b1.1.getD t.toNat (0,0,false,0,0,0,0,0)).2.2)).getD t.toNat (0,0,false,0,0,0,0,0)) (4+((p.getD (b1.2.1.getD (b1.1.getD t.toNat (0,0,false,0,0,0,0,0)).2.2.2.1.toNat (0,0,0,0,0,0)).2.2.1.toNat []).getD (b1.1.getD t.toNat (0,0,false,0,0,0,0,0)).2.1.toNat (0,0,0,0)).2.1.toNat*1) p_6)),p_5,p_6,p_7,b1.2.1)
  else
  ck (0≤((p.getD (b1.2.1.getD (b1.1.getD t.toNat (0,0,false,0,0,0,0,0)).2.2.2.1.toNat (0,0,0,0,0,0)).2.2.1.toNat []).getD (b1.1.getD t.toNat (0,0,false,0,0,0,0,0)).2.1.toNat (0,0,0,0)).2.1) <| ck (((p.getD (b1.2.1.getD (b1.1.getD t.toNat (0,0,false,0,0,0,0,0)).2.2.2.1.toNat (0,0,0,0,0,0)).2.2.1.toNat []).getD (b1.1.getD t.toNat (0,0,false,0,0,0,0,0)).2.1.toNat (0,0,0,0)).2.1<4) <| ck (t.toNat<(b1.1.set t.toNat ((b1.1.getD t.toNat (0,0,false,0,0,0,0,0)).1,((b1.1.getD t.toNat (0,0,false,0,0,0,0,0)).2.1+1),(b1.1.getD t.toNat (0,0,false,0,0,0,0,0)).2.2)).length) <| ck (kAt (.pair (.int .i64) (.pair (.int .i64) (.pair .bool (.pair (.int .i64) (.pair (.int .i64) (.pair (.int .i64) (.pair (.int .i64) (.int .i64)))))))) ((4+((p.getD (b1.2.1.getD (b1.1.getD t.toNat (0,0,false,0,0,0,0,0)).2.2.2.1.toNat (0,0,0,0,0,0)).2.2.1.toNat []).getD (b1.1.getD t.toNat (0,0,false,0,0,0,0,0)).2.1.toNat (0,0,0,0)).2.1.toNat*1))=some (some .i64)) <| linealref08_Play_Step_2_k2 t p_3 p_4 b1 (((b1.1.set t.toNat ((b1.1.getD t.toNat (0,0,false,0,0,0,0,0)).1,((b1.1.getD t.toNat (0,0,false,0,0,0,0,0)).2.1+1),(b1.1.getD t.toNat (0,0,false,0,0,0,0,0)).2.2)).set t.toNat (setInt (.pair (.int .i64) (.pair (.int .i64) (.pair .bool (.pair (.int .i64) (.pair (.int .i64) (.pair (.int .i64) (.pair (.int .i64) (.int .i64)))))))) ((b1.1.set t.toNat ((b1.1.getD t.toNat (0,0,false,0,0,0,0,0)).1,((b1.1.getD t.toNat (0,0,false,0,0,0,0,0)).2.1+1),(b1.1.getD t.toNat (0,0,false,0,0,0,0,0)).2.2)).getD t.toNat (0,0,false,0,0,0,0,0)) (4+((p.getD (b1.2.1.getD (b1.1.getD t.toNat (0,0,false,0,0,0,0,0)).2.2.2.1.toNat (0,0,0,0,0,0)).2.2.1.toNat []).getD (b1.1.getD t.toNat (0,0,false,0,0,0,0,0)).2.1.toNat (0,0,0,0)).2.1.toNat*1) p_7)),p_5,p_6,p_7,b1.2.1)
  else
  if (decide (((p.getD (b1.2.1.getD (b1.1.getD t.toNat (0,0,false,0,0,0,0,0)).2.2.2.1.toNat (0,0,0,0,0,0)).2.2.1.toNat []).getD (b1.1.getD t.toNat (0,0,false,0,0,0,0,0)).2.1.toNat (0,0,0,0)).1=2))=true then
  ck (0≤((p.getD (b1.2.1.getD (b1.1.getD t.toNat (0,0,false,0,0,0,0,0)).2.2.2.1.toNat (0,0,0,0,0,0)).2.2.1.toNat []).getD (b1.1.getD t.toNat (0,0,false,0,0,0,0,0)).2.1.toNat (0,0,0,0)).2.2.1) <| ck (((p.getD (b1.2.1.getD (b1.1.getD t.toNat (0,0,false,0,0,0,0,0)).2.2.2.1.toNat (0,0,0,0,0,0)).2.2.1.toNat []).getD (b1.1.getD t.toNat (0,0,false,0,0,0,0,0)).2.1.toNat (0,0,0,0)).2.2.1<4) <| ck (t.toNat<(b1.1.set t.toNat ((b1.1.getD t.toNat (0,0,false,0,0,0,0,0)).1,((b1.1.getD t.toNat (0,0,false,0,0,0,0,0)).2.1+1),(b1.1.getD t.toNat (0,0,false,0,0,0,0,0)).2.2)).length) <| ck (kAt (.pair (.int .i64) (.pair (.int .i64) (.pair .bool (.pair (.int .i64) (.pair (.int .i64) (.pair (.int .i64) (.pair (.int .i64) (.int .i64)))))))) ((4+((p.getD (b1.2.1.getD (b1.1.getD t.toNat (0,0,false,0,0,0,0,0)).2.2.2.1.toNat (0,0,0,0,0,0)).2.2.1.toNat []).getD (b1.1.getD t.toNat (0,0,false,0,0,0,0,0)).2.1.toNat (0,0,0,0)).2.2.1.toNat*1))=some (some .i64)) <| ck (0≤((p.getD (b1.2.1.getD (b1.1.getD t.toNat (0,0,false,0,0,0,0,0)).2.2.2.1.toNat (0,0,0,0,0,0)).2.2.1.toNat []).getD (b1.1.getD t.toNat (0,0,false,0,0,0,0,0)).2.1.toNat (0,0,0,0)).2.1) <| ck (((p.getD (b1.2.1.getD (b1.1.getD t.toNat (0,0,false,0,0,0,0,0)).2.2.2.1.toNat (0,0,0,0,0,0)).2.2.1.toNat []).getD (b1.1.getD t.toNat (0,0,false,0,0,0,0,0)).2.1.toNat (0,0,0,0)).2.1<3) <| if (decide (((p.getD (b1.2.1.getD (b1.1.getD t.toNat (0,0,false,0,0,0,0,0)).2.2.2.1.toNat (0,0,0,0,0,0)).2.2.1.toNat []).getD (b1.1.getD t.toNat (0,0,false,0,0,0,0,0)).2.1.toNat (0,0,0,0)).2.1=0))=true then
  linealref08_Play_Step_2_k2 t p_3 p_4 b1 ((b1.1.set t.toNat ((b1.1.getD t.toNat (0,0,false,0,0,0,0,0)).1,((b1.1.getD t.toNat (0,0,false,0,0,0,0,0)).2.1+1),(b1.1.getD t.toNat (0,0,false,0,0,0,0,0)).2.2)),(intAt (.pair (.int .i64) (.pair (.int .i64) (.pair .bool (.pair (.int .i64) (.pair (.int .i64) (.pair (.int .i64) (.pair (.int .i64) (.int .i64)))))))) ((b1.1.set t.toNat ((b1.1.getD t.toNat (0,0,false,0,0,0,0,0)).1,((b1.1.getD t.toNat (0,0,false,0,0,0,0,0)).2.1+1),(b1.1.getD t.toNat (0,0,false,0,0,0,0,0)).2.2)).getD t.toNat (0,0,false,0,0,0,0,0)) (4+((p.getD (b1.2.1.getD (b1.1.getD t.toNat (0,0,false,0,0,0,0,0)).2.2.2.1.toNat (0,0,0,0,0,0)).2.2.1.toNat []).getD (b1.1.getD t.toNat (0,0,false,0,0,0,0,0)).2.1.toNat (0,0,0,0)).2.2.1.toNat*1)),p_6,p_7,b1.2.1)
  else
  if (decide (((p.getD (b1.2.1.getD (b1.1.getD t.toNat (0,0,false,0,0,0,0,0)).2.2.2.1.toNat (0,0,0,0,0,0)).2.2.1.toNat []).getD (b1.1.getD t.toNat (0,0,false,0,0,0,0,0)).2.1.toNat (0,0,0,0)).2.1=1))=true then
  linealref08_Play_Step_2_k2 t p_3 p_4 b1 ((b1.1.set t.toNat ((b1.1.getD t.toNat (0,0,false,0,0,0,0,0)).1,((b1.1.getD t.toNat (0,0,false,0,0,0,0,0)).2.1+1),(b1.1.getD t.toNat (0,0,false,0,0,0,0,0)).2.2)),p_5,(intAt (.pair (.int .i64) (.pair (.int .i64) (.pair .bool (.pair (.int .i64) (.pair (.int .i64) (.pair (.int .i64) (.pair (.int .i64) (.int .i64)))))))) ((b1.1.set t.toNat ((b1.1.getD t.toNat (0,0,false,0,0,0,0,0)).1,((b1.1.getD t.toNat (0,0,false,0,0,0,0,0)).2.1+1),(b1.1.getD t.toNat (0,0,false,0,0,0,0,0)).2.2)).getD t.toNat (0,0,false,0,0,0,0,0)) (4+((p.getD (b1.2.1.getD (b1.1.getD t.toNat (0,0,false,0,0,0,0,0)).2.2.2.1.toNat (0,0,0,0,0,0)).2.2.1.toNat []).getD (b1.1.getD t.toNat (0,0,false,0,0,0,0,0)).2.1.toNat (0,0,0,0)).2.2.1.toNat*1)),p_7,b1.2.1)
  else
  linealref08_Play_Step_2_k2 t p_3 p_4 b1 ((b1.1.set t.toNat ((b1.1.getD t.toNat (0,0,false,0,0,0,0,0)).1,((b1.1.getD t.toNat (0,0,false,0,0,0,0,0)).2.1+1),(b1.1.getD t.toNat (0,0,false,0,0,0,0,0)).2.2)),p_5,p_6,(intAt (.pair (.int .i64) (.pair (.int .i64) (.pair .bool (.pair (.int .i64) (.pair (.int .i64) (.pair (.int .i64) (.pair (.int .i64) (.int .i64)))))))) ((b1.1.set t.toNat ((b1.1.getD t.toNat (0,0,false,0,0,0,0,0)).1,((b1.1.getD t.toNat (0,0,false,0,0,0,0,0)).2.1+1),(b1.1.getD t.toNat (0,0,false,0,0,0,0,0)).2.2)).getD t.toNat (0,0,false,0,0,0,0,0)) (4+((p.getD (b1.2.1.getD (b1.1.getD t.toNat (0,0,false,0,0,0,0,0)).2.2.2.1.toNat (0,0,0,0,0,0)).2.2.1.toNat []).getD (b1.1.getD t.toNat (0,0,false,0,0,0,0,0)).2.1.toNat (0,0,0,0)).2.2.1.toNat*1)),b1.2.1)
  else
  if (decide (((p.getD (b1.2.1.getD (b1.1.getD t.toNat (0,0,false,0,0,0,0,0)).2.2.2.1.toNat (0,0,0,0,0,0)).2.2.1.toNat []).getD (b1.1.getD t.toNat (0,0,false,0,0,0,0,0)).2.1.toNat (0,0,0,0)).1=3))=true then
  ck (0≤((p.getD (b1.2.1.getD (b1.1.getD t.toNat (0,0,false,0,0,0,0,0)).2.2.2.1.toNat (0,0,0,0,0,0)).2.2.1.toNat []).getD (b1.1.getD t.toNat (0,0,false,0,0,0,0,0)).2.1.toNat (0,0,0,0)).2.1) <| ck (((p.getD (b1.2.1.getD (b1.1.getD t.toNat (0,0,false,0,0,0,0,0)).2.2.2.1.toNat (0,0,0,0,0,0)).2.2.1.toNat []).getD (b1.1.getD t.toNat (0,0,false,0,0,0,0,0)).2.1.toNat (0,0,0,0)).2.1<3) <| if (decide (((p.getD (b1.2.1.getD (b1.1.getD t.toNat (0,0,false,0,0,0,0,0)).2.2.2.1.toNat (0,0,0,0,0,0)).2.2.1.toNat []).getD (b1.1.getD t.toNat (0,0,false,0,0,0,0,0)).2.1.toNat (0,0,0,0)).2.1=0))=true then
  ck (0≤((p.getD (b1.2.1.getD (b1.1.getD t.toNat (0,0,false,0,0,0,0,0)).2.2.2.1.toNat (0,0,0,0,0,0)).2.2.1.toNat []).getD (b1.1.getD t.toNat (0,0,false,0,0,0,0,0)).2.1.toNat (0,0,0,0)).2.2.1) <| ck (((p.getD (b1.2.1.getD (b1.1.getD t.toNat (0,0,false,0,0,0,0,0)).2.2.2.1.toNat (0,0,0,0,0,0)).2.2.1.toNat []).getD (b1.1.getD t.toNat (0,0,false,0,0,0,0,0)).2.1.toNat (0,0,0,0)).2.2.1<4) <| ck (t.toNat<(b1.1.set t.toNat ((b1.1.getD t.toNat (0,0,false,0,0,0,0,0)).1,((b1.1.getD t.toNat (0,0,false,0,0,0,0,0)).2.1+1),(b1.1.getD t.toNat (0,0,false,0,0,0,0,0)).2.2)).length) <| ck (kAt (.pair (.int .i64) (.pair (.int .i64) (.pair .bool (.pair (.int .i64) (.pair (.int .i64) (.pair (.int .i64) (.pair (.int .i64) (.int .i64)))))))) ((4+((p.getD (b1.2.1.getD (b1.1.getD t.toNat (0,0,false,0,0,0,0,0)).2.2.2.1.toNat (0,0,0,0,0,0)).2.2.1.toNat []).getD (b1.1.getD t.toNat (0,0,false,0,0,0,0,0)).2.1.toNat (0,0,0,0)).2.2.1.toNat*1))=some (some .i64)) <| if (decide (p_5=(intAt (.pair (.int .i64) (.pair (.int .i64) (.pair .bool (.pair (.int .i64) (.pair (.int .i64) (.pair (.int .i64) (.pair (.int .i64) (.int .i64)))))))) ((b1.1.set t.toNat ((b1.1.getD t.toNat (0,0,false,0,0,0,0,0)).1,((b1.1.getD t.toNat (0,0,false,0,0,0,0,0)).2.1+1),(b1.1.getD t.toNat (0,0,false,0,0,0,0,0)).2.2)).getD t.toNat (0,0,false,0,0,0,0,0)) (4+((p.getD (b1.2.1.getD (b1.1.getD t.toNat (0,0,false,0,0,0,0,0)).2.2.2.1.toNat (0,0,0,0,0,0)).2.2.1.toNat []).getD (b1.1.getD t.toNat (0,0,false,0,0,0,0,0)).2.1.toNat (0,0,0,0)).2.2.1.toNat*1))))=true then
  ck (0≤((p.getD (b1.2.1.getD (b1.1.getD t.toNat (0,0,false,0,0,0,0,0)).2.2.2.1.toNat (0,0,0,0,0,0)).2.2.1.toNat []).getD (b1.1.getD t.toNat (0,0,false,0,0,0,0,0)).2.1.toNat (0,0,0,0)).2.2.2) <| ck (((p.getD (b1.2.1.getD (b1.1.getD t.toNat (0,0,false,0,0,0,0,0)).2.2.2.1.toNat (0,0,0,0,0,0)).2.2.1.toNat []).getD (b1.1.getD t.toNat (0,0,false,0,0,0,0,0)).2.1.toNat (0,0,0,0)).2.2.2<4) <| ck (t.toNat<(b1.1.set t.toNat ((b1.1.getD t.toNat (0,0,false,0,0,0,0,0)).1,((b1.1.getD t.toNat (0,0,false,0,0,0,0,0)).2.1+1),(b1.1.getD t.toNat (0,0,false,0,0,0,0,0)).2.2)).length) <| ck (kAt (.pair (.int .i64) (.pair (.int .i64) (.pair .bool (.pair (.int .i64) (.pair (.int .i64) (.pair (.int .i64) (.pair (.int .i64) (.int .i64)))))))) ((4+((p.getD (b1.2.1.getD (b1.1.getD t.toNat (0,0,false,0,0,0,0,0)).2.2.2.1.toNat (0,0,0,0,0,0)).2.2.1.toNat []).getD (b1.1.getD t.toNat (0,0,false,0,0,0,0,0)).2.1.toNat (0,0,0,0)).2.2.2.toNat*1))=some (some .i64)) <| ck (t.toNat<(b1.1.set t.toNat ((b1.1.getD t.toNat (0,0,false,0,0,0,0,0)).1,((b1.1.getD t.toNat (0,0,false,0,0,0,0,0)).2.1+1),(b1.1.getD t.toNat (0,0,false,0,0,0,0,0)).2.2)).length) <| linealref08_Play_Step_2_k2 t p_3 p_4 b1 (((b1.1.set t.toNat ((b1.1.getD t.toNat (0,0,false,0,0,0,0,0)).1,((b1.1.getD t.toNat (0,0,false,0,0,0,0,0)).2.1+1),(b1.1.getD t.toNat (0,0,false,0,0,0,0,0)).2.2)).set t.toNat (((b1.1.set t.toNat ((b1.1.getD t.toNat (0,0,false,0,0,0,0,0)).1,((b1.1.getD t.toNat (0,0,false,0,0,0,0,0)).2.1+1),(b1.1.getD t.toNat (0,0,false,0,0,0,0,0)).2.2)).getD t.toNat (0,0,false,0,0,0,0,0)).1,((b1.1.set t.toNat ((b1.1.getD t.toNat (0,0,false,0,0,0,0,0)).1,((b1.1.getD t.toNat (0,0,false,0,0,0,0,0)).2.1+1),(b1.1.getD t.toNat (0,0,false,0,0,0,0,0)).2.2)).getD t.toNat (0,0,false,0,0,0,0,0)).2.1,((b1.1.set t.toNat ((b1.1.getD t.toNat (0,0,false,0,0,0,0,0)).1,((b1.1.getD t.toNat (0,0,false,0,0,0,0,0)).2.1+1),(b1.1.getD t.toNat (0,0,false,0,0,0,0,0)).2.2)).getD t.toNat (0,0,false,0,0,0,0,0)).2.2.1,((b1.1.set t.toNat ((b1.1.getD t.toNat (0,0,false,0,0,0,0,0)).1,((b1.1.getD t.toNat (0,0,false,0,0,0,0,0)).2.1+1),(b1.1.getD t.toNat (0,0,false,0,0,0,0,0)).2.2)).getD t.toNat (0,0,false,0,0,0,0,0)).2.2.2.1,((b1.1.set t.toNat ((b1.1.getD t.toNat (0,0,false,0,0,0,0,0)).1,((b1.1.getD t.toNat (0,0,false,0,0,0,0,0)).2.1+1),(b1.1.getD t.toNat (0,0,false,0,0,0,0,0)).2.2)).getD t.toNat (0,0,false,0,0,0,0,0)).2.2.2.2.1,((b1.1.set t.toNat ((b1.1.getD t.toNat (0,0,false,0,0,0,0,0)).1,((b1.1.getD t.toNat (0,0,false,0,0,0,0,0)).2.1+1),(b1.1.getD t.toNat (0,0,false,0,0,0,0,0)).2.2)).getD t.toNat (0,0,false,0,0,0,0,0)).2.2.2.2.2.1,((b1.1.set t.toNat ((b1.1.getD t.toNat (0,0,false,0,0,0,0,0)).1,((b1.1.getD t.toNat (0,0,false,0,0,0,0,0)).2.1+1),(b1.1.getD t.toNat (0,0,false,0,0,0,0,0)).2.2)).getD t.toNat (0,0,false,0,0,0,0,0)).2.2.2.2.2.2.1,1)),(intAt (.pair (.int .i64) (.pair (.int .i64) (.pair .bool (.pair (.int .i64) (.pair (.int .i64) (.pair (.int .i64) (.pair (.int .i64) (.int .i64)))))))) ((b1.1.set t.toNat ((b1.1.getD t.toNat (0,0,false,0,0,0,0,0)).1,((b1.1.getD t.toNat (0,0,false,0,0,0,0,0)).2.1+1),(b1.1.getD t.toNat (0,0,false,0,0,0,0,0)).2.2)).getD t.toNat (0,0,false,0,0,0,0,0)) (4+((p.getD (b1.2.1.getD (b1.1.getD t.toNat (0,0,false,0,0,0,0,0)).2.2.2.1.toNat (0,0,0,0,0,0)).2.2.1.toNat []).getD (b1.1.getD t.toNat (0,0,false,0,0,0,0,0)).2.1.toNat (0,0,0,0)).2.2.2.toNat*1)),p_6,p_7,b1.2.1)
  else
  ck (t.toNat<(b1.1.set t.toNat ((b1.1.getD t.toNat (0,0,false,0,0,0,0,0)).1,((b1.1.getD t.toNat (0,0,false,0,0,0,0,0)).2.1+1),(b1.1.getD t.toNat (0,0,false,0,0,0,0,0)).2.2)).length) <| linealref08_Play_Step_2_k2 t p_3 p_4 b1 (((b1.1.set t.toNat ((b1.1.getD t.toNat (0,0,false,0,0,0,0,0)).1,((b1.1.getD t.toNat (0,0,false,0,0,0,0,0)).2.1+1),(b1.1.getD t.toNat (0,0,false,0,0,0,0,0)).2.2)).set t.toNat (((b1.1.set t.toNat ((b1.1.getD t.toNat (0,0,false,0,0,0,0,0)).1,((b1.1.getD t.toNat (0,0,false,0,0,0,0,0)).2.1+1),(b1.1.getD t.toNat (0,0,false,0,0,0,0,0)).2.2)).getD t.toNat (0,0,false,0,0,0,0,0)).1,((b1.1.set t.toNat ((b1.1.getD t.toNat (0,0,false,0,0,0,0,0)).1,((b1.1.getD t.toNat (0,0,false,0,0,0,0,0)).2.1+1),(b1.1.getD t.toNat (0,0,false,0,0,0,0,0)).2.2)).getD t.toNat (0,0,false,0,0,0,0,0)).2.1,((b1.1.set t.toNat ((b1.1.getD t.toNat (0,0,false,0,0,0,0,0)).1,((b1.1.getD t.toNat (0,0,false,0,0,0,0,0)).2.1+1),(b1.1.getD t.toNat (0,0,false,0,0,0,0,0)).2.2)).getD t.toNat (0,0,false,0,0,0,0,0)).2.2.1,((b1.1.set t.toNat ((b1.1.getD t.toNat (0,0,false,0,0,0,0,0)).1,((b1.1.getD t.toNat (0,0,false,0,0,0,0,0)).2.1+1),(b1.1.getD t.toNat (0,0,false,0,0,0,0,0)).2.2)).getD t.toNat (0,0,false,0,0,0,0,0)).2.2.2.1,((b1.1.set t.toNat ((b1.1.getD t.toNat (0,0,false,0,0,0,0,0)).1,((b1.1.getD t.toNat (0,0,false,0,0,0,0,0)).2.1+1),(b1.1.getD t.toNat (0,0,false,0,0,0,0,0)).2.2)).getD t.toNat (0,0,false,0,0,0,0,0)).2.2.2.2.1,((b1.1.set t.toNat ((b1.1.getD t.toNat (0,0,false,0,0,0,0,0)).1,((b1.1.getD t.toNat (0,0,false,0,0,0,0,0)).2.1+1),(b1.1.getD t.toNat (0,0,false,0,0,0,0,0)).2.2)).getD t.toNat (0,0,false,0,0,0,0,0)).2.2.2.2.2.1,((b1.1.set t.toNat ((b1.1.getD t.toNat (0,0,false,0,0,0,0,0)).1,((b1.1.getD t.toNat (0,0,false,0,0,0,0,0)).2.1+1),(b1.1.getD t.toNat (0,0,false,0,0,0,0,0)).2.2)).getD t.toNat (0,0,false,0,0,0,0,0)).2.2.2.2.2.2.1,0)),p_5,p_6,p_7,b1.2.1)
  else
  if (decide (((p.getD (b1.2.1.getD (b1.1.getD t.toNat (0,0,false,0,0,0,0,0)).2.2.2.1.toNat (0,0,0,0,0,0)).2.2.1.toNat []).getD (b1.1.getD t.toNat (0,0,false,0,0,0,0,0)).2.1.toNat (0,0,0,0)).2.1=1))=true then
  ck (0≤((p.getD (b1.2.1.getD (b1.1.getD t.toNat (0,0,false,0,0,0,0,0)).2.2.2.1.toNat (0,0,0,0,0,0)).2.2.1.toNat []).getD (b1.1.getD t.toNat (0,0,false,0,0,0,0,0)).2.1.toNat (0,0,0,0)).2.2.1) <| ck (((p.getD (b1.2.1.getD (b1.1.getD t.toNat (0,0,false,0,0,0,0,0)).2.2.2.1.toNat (0,0,0,0,0,0)).2.2.1.toNat []).getD (b1.1.getD t.toNat (0,0,false,0,0,0,0,0)).2.1.toNat (0,0,0,0)).2.2.1<4) <| ck (t.toNat<(b1.1.set t.toNat ((b1.1.getD t.toNat (0,0,false,0,0,0,0,0)).1,((b1.1.getD t.toNat (0,0,false,0,0,0,0,0)).2.1+1),(b1.1.getD t.toNat (0,0,false,0,0,0,0,0)).2.2)).length) <| ck (kAt (.pair (.int .i64) (.pair (.int .i64) (.pair .bool (.pair (.int .i64) (.pair (.int .i64) (.pair (.int .i64) (.pair (.int .i64) (.int .i64)))))))) ((4+((p.getD (b1.2.1.getD (b1.1.getD t.toNat (0,0,false,0,0,0,0,0)).2.2.2.1.toNat (0,0,0,0,0,0)).2.2.1.toNat []).getD (b1.1.getD t.toNat (0,0,false,0,0,0,0,0)).2.1.toNat (0,0,0,0)).2.2.1.toNat*1))=some (some .i64)) <| if (decide (p_6=(intAt (.pair (.int .i64) (.pair (.int .i64) (.pair .bool (.pair (.int .i64) (.pair (.int .i64) (.pair (.int .i64) (.pair (.int .i64) (.int .i64)))))))) ((b1.1.set t.toNat ((b1.1.getD t.toNat (0,0,false,0,0,0,0,0)).1,((b1.1.getD t.toNat (0,0,false,0,0,0,0,0)).2.1+1),(b1.1.getD t.toNat (0,0,false,0,0,0,0,0)).2.2)).getD t.toNat (0,0,false,0,0,0,0,0)) (4+((p.getD (b1.2.1.getD (b1.1.getD t.toNat (0,0,false,0,0,0,0,0)).2.2.2.1.toNat (0,0,0,0,0,0)).2.2.1.toNat []).getD (b1.1.getD t.toNat (0,0,false,0,0,0,0,0)).2.1.toNat (0,0,0,0)).2.2.1.toNat*1))))=true then
  ck (0≤((p.getD (b1.2.1.getD (b1.1.getD t.toNat (0,0,false,0,0,0,0,0)).2.2.2.1.toNat (0,0,0,0,0,0)).2.2.1.toNat []).getD (b1.1.getD t.toNat (0,0,false,0,0,0,0,0)).2.1.toNat (0,0,0,0)).2.2.2) <| ck (((p.getD (b1.2.1.getD (b1.1.getD t.toNat (0,0,false,0,0,0,0,0)).2.2.2.1.toNat (0,0,0,0,0,0)).2.2.1.toNat []).getD (b1.1.getD t.toNat (0,0,false,0,0,0,0,0)).2.1.toNat (0,0,0,0)).2.2.2<4) <| ck (t.toNat<(b1.1.set t.toNat ((b1.1.getD t.toNat (0,0,false,0,0,0,0,0)).1,((b1.1.getD t.toNat (0,0,false,0,0,0,0,0)).2.1+1),(b1.1.getD t.toNat (0,0,false,0,0,0,0,0)).2.2)).length) <| ck (kAt (.pair (.int .i64) (.pair (.int .i64) (.pair .bool (.pair (.int .i64) (.pair (.int .i64) (.pair (.int .i64) (.pair (.int .i64) (.int .i64)))))))) ((4+((p.getD (b1.2.1.getD (b1.1.getD t.toNat (0,0,false,0,0,0,0,0)).2.2.2.1.toNat (0,0,0,0,0,0)).2.2.1.toNat []).getD (b1.1.getD t.toNat (0,0,false,0,0,0,0,0)).2.1.toNat (0,0,0,0)).2.2.2.toNat*1))=some (some .i64)) <| ck (t.toNat<(b1.1.set t.toNat ((b1.1.getD t.toNat (0,0,false,0,0,0,0,0)).1,((b1.1.getD t.toNat (0,0,false,0,0,0,0,0)).2.1+1),(b1.1.getD t.toNat (0,0,false,0,0,0,0,0)).2.2)).length) <| linealref08_Play_Step_2_k2 t p_3 p_4 b1 (((b1.1.set t.toNat ((b1.1.getD t.toNat (0,0,false,0,0,0,0,0)).1,((b1.1.getD t.toNat (0,0,false,0,0,0,0,0)).2.1+1),(b1.1.getD t.toNat (0,0,false,0,0,0,0,0)).2.2)).set t.toNat (((b1.1.set t.toNat ((b1.1.getD t.toNat (0,0,false,0,0,0,0,0)).1,((b1.1.getD t.toNat (0,0,false,0,0,0,0,0)).2.1+1),(b1.1.getD t.toNat (0,0,false,0,0,0,0,0)).2.2)).getD t.toNat (0,0,false,0,0,0,0,0)).1,((b1.1.set t.toNat ((b1.1.getD t.toNat (0,0,false,0,0,0,0,0)).1,((b1.1.getD t.toNat (0,0,false,0,0,0,0,0)).2.1+1),(b1.1.getD t.toNat (0,0,false,0,0,0,0,0)).2.2)).getD t.toNat (0,0,false,0,0,0,0,0)).2.1,((b1.1.set t.toNat ((b1.1.getD t.toNat (0,0,false,0,0,0,0,0)).1,((b1.1.getD t.toNat (0,0,false,0,0,0,0,0)).2.1+1),(b1.1.getD t.toNat (0,0,false,0,0,0,0,0)).2.2)).getD t.toNat (0,0,false,0,0,0,0,0)).2.2.1,((b1.1.set t.toNat ((b1.1.getD t.toNat (0,0,false,0,0,0,0,0)).1,((b1.1.getD t.toNat (0,0,false,0,0,0,0,0)).2.1+1),(b1.1.getD t.toNat (0,0,false,0,0,0,0,0)).2.2)).getD t.toNat (0,0,false,0,0,0,0,0)).2.2.2.1,((b1.1.set t.toNat ((b1.1.getD t.toNat (0,0,false,0,0,0,0,0)).1,((b1.1.getD t.toNat (0,0,false,0,0,0,0,0)).2.1+1),(b1.1.getD t.toNat (0,0,false,0,0,0,0,0)).2.2)).getD t.toNat (0,0,false,0,0,0,0,0)).2.2.2.2.1,((b1.1.set t.toNat ((b1.1.getD t.toNat (0,0,false,0,0,0,0,0)).1,((b1.1.getD t.toNat (0,0,false,0,0,0,0,0)).2.1+1),(b1.1.getD t.toNat (0,0,false,0,0,0,0,0)).2.2)).getD t.toNat (0,0,false,0,0,0,0,0)).2.2.2.2.2.1,((b1.1.set t.toNat ((b1.1.getD t.toNat (0,0,false,0,0,0,0,0)).1,((b1.1.getD t.toNat (0,0,false,0,0,0,0,0)).2.1+1),(b1.1.getD t.toNat (0,0,false,0,0,0,0,0)).2.2)).getD t.toNat (0,0,false,0,0,0,0,0)).2.2.2.2.2.2.1,1)),p_5,(intAt (.pair (.int .i64) (.pair (.int .i64) (.pair .bool (.pair (.int .i64) (.pair (.int .i64) (.pair (.int .i64) (.pair (.int .i64) (.int .i64)))))))) ((b1.1.set t.toNat ((b1.1.getD t.toNat (0,0,false,0,0,0,0,0)).1,((b1.1.getD t.toNat (0,0,false,0,0,0,0,0)).2.1+1),(b1.1.getD t.toNat (0,0,false,0,0,0,0,0)).2.2)).getD t.toNat (0,0,false,0,0,0,0,0)) (4+((p.getD (b1.2.1.getD (b1.1.getD t.toNat (0,0,false,0,0,0,0,0)).2.2.2.1.toNat (0,0,0,0,0,0)).2.2.1.toNat []).getD (b1.1.getD t.toNat (0,0,false,0,0,0,0,0)).2.1.toNat (0,0,0,0)).2.2.2.toNat*1)),p_7,b1.2.1)
  else
  ck (t.toNat<(b1.1.set t.toNat ((b1.1.getD t.toNat (0,0,false,0,0,0,0,0)).1,((b1.1.getD t.toNat (0,0,false,0,0,0,0,0)).2.1+1),(b1.1.getD t.toNat (0,0,false,0,0,0,0,0)).2.2)).length) <| linealref08_Play_Step_2_k2 t p_3 p_4 b1 (((b1.1.set t.toNat ((b1.1.getD t.toNat (0,0,false,0,0,0,0,0)).1,((b1.1.getD t.toNat (0,0,false,0,0,0,0,0)).2.1+1),(b1.1.getD t.toNat (0,0,false,0,0,0,0,0)).2.2)).set t.toNat (((b1.1.set t.toNat ((b1.1.getD t.toNat (0,0,false,0,0,0,0,0)).1,((b1.1.getD t.toNat (0,0,false,0,0,0,0,0)).2.1+1),(b1.1.getD t.toNat (0,0,false,0,0,0,0,0)).2.2)).getD t.toNat (0,0,false,0,0,0,0,0)).1,((b1.1.set t.toNat ((b1.1.getD t.toNat (0,0,false,0,0,0,0,0)).1,((b1.1.getD t.toNat (0,0,false,0,0,0,0,0)).2.1+1),(b1.1.getD t.toNat (0,0,false,0,0,0,0,0)).2.2)).getD t.toNat (0,0,false,0,0,0,0,0)).2.1,((b1.1.set t.toNat ((b1.1.getD t.toNat (0,0,false,0,0,0,0,0)).1,((b1.1.getD t.toNat (0,0,false,0,0,0,0,0)).2.1+1),(b1.1.getD t.toNat (0,0,false,0,0,0,0,0)).2.2)).getD t.toNat (0,0,false,0,0,0,0,0)).2.2.1,((b1.1.set t.toNat ((b1.1.getD t.toNat (0,0,false,0,0,0,0,0)).1,((b1.1.getD t.toNat (0,0,false,0,0,0,0,0)).2.1+1),(b1.1.getD t.toNat (0,0,false,0,0,0,0,0)).2.2)).getD t.toNat (0,0,false,0,0,0,0,0)).2.2.2.1,((b1.1.set t.toNat ((b1.1.getD t.toNat (0,0,false,0,0,0,0,0)).1,((b1.1.getD t.toNat (0,0,false,0,0,0,0,0)).2.1+1),(b1.1.getD t.toNat (0,0,false,0,0,0,0,0)).2.2)).getD t.toNat (0,0,false,0,0,0,0,0)).2.2.2.2.1,((b1.1.set t.toNat ((b1.1.getD t.toNat (0,0,false,0,0,0,0,0)).1,((b1.1.getD t.toNat (0,0,false,0,0,0,0,0)).2.1+1),(b1.1.getD t.toNat (0,0,false,0,0,0,0,0)).2.2)).getD t.toNat (0,0,false,0,0,0,0,0)).2.2.2.2.2.1,((b1.1.set t.toNat ((b1.1.getD t.toNat (0,0,false,0,0,0,0,0)).1,((b1.1.getD t.toNat (0,0,false,0,0,0,0,0)).2.1+1),(b1.1.getD t.toNat (0,0,false,0,0,0,0,0)).2.2)).getD t.toNat (0,0,false,0,0,0,0,0)).2.2.2.2.2.2.1,0)),p_5,p_6,p_7,b1.2.1)
  else
  ck (0≤((p.getD (b1.2.1.getD (b1.1.getD t.toNat (0,0,false,0,0,0,0,0)).2.2.2.1.toNat (0,0,0,0,0,0)).2.2.1.toNat []).getD (b1.1.getD t.toNat (0,0,false,0,0,0,0,0)).2.1.toNat (0,0,0,0)).2.2.1) <| ck (((p.getD (b1.2.1.getD (b1.1.getD t.toNat (0,0,false,0,0,0,0,0)).2.2.2.1.toNat (0,0,0,0,0,0)).2.2.1.toNat []).getD (b1.1.getD t.toNat (0,0,false,0,0,0,0,0)).2.1.toNat (0,0,0,0)).2.2.1<4) <| ck (t.toNat<(b1.1.set t.toNat ((b1.1.getD t.toNat (0,0,false,0,0,0,0,0)).1,((b1.1.getD t.toNat (0,0,false,0,0,0,0,0)).2.1+1),(b1.1.getD t.toNat (0,0,false,0,0,0,0,0)).2.2)).length) <| ck (kAt (.pair (.int .i64) (.pair (.int .i64) (.pair .bool (.pair (.int .i64) (.pair (.int .i64) (.pair (.int .i64) (.pair (.int .i64) (.int .i64)))))))) ((4+((p.getD (b1.2.1.getD (b1.1.getD t.toNat (0,0,false,0,0,0,0,0)).2.2.2.1.toNat (0,0,0,0,0,0)).2.2.1.toNat []).getD (b1.1.getD t.toNat (0,0,false,0,0,0,0,0)).2.1.toNat (0,0,0,0)).2.2.1.toNat*1))=some (some .i64)) <| if (decide (p_7=(intAt (.pair (.int .i64) (.pair (.int .i64) (.pair .bool (.pair (.int .i64) (.pair (.int .i64) (.pair (.int .i64) (.pair (.int .i64) (.int .i64)))))))) ((b1.1.set t.toNat ((b1.1.getD t.toNat (0,0,false,0,0,0,0,0)).1,((b1.1.getD t.toNat (0,0,false,0,0,0,0,0)).2.1+1),(b1.1.getD t.toNat (0,0,false,0,0,0,0,0)).2.2)).getD t.toNat (0,0,false,0,0,0,0,0)) (4+((p.getD (b1.2.1.getD (b1.1.getD t.toNat (0,0,false,0,0,0,0,0)).2.2.2.1.toNat (0,0,0,0,0,0)).2.2.1.toNat []).getD (b1.1.getD t.toNat (0,0,false,0,0,0,0,0)).2.1.toNat (0,0,0,0)).2.2.1.toNat*1))))=true then
  ck (0≤((p.getD (b1.2.1.getD (b1.1.getD t.toNat (0,0,false,0,0,0,0,0)).2.2.2.1.toNat (0,0,0,0,0,0)).2.2.1.toNat []).getD (b1.1.getD t.toNat (0,0,false,0,0,0,0,0)).2.1.toNat (0,0,0,0)).2.2.2) <| ck (((p.getD (b1.2.1.getD (b1.1.getD t.toNat (0,0,false,0,0,0,0,0)).2.2.2.1.toNat (0,0,0,0,0,0)).2.2.1.toNat []).getD (b1.1.getD t.toNat (0,0,false,0,0,0,0,0)).2.1.toNat (0,0,0,0)).2.2.2<4) <| ck (t.toNat<(b1.1.set t.toNat ((b1.1.getD t.toNat (0,0,false,0,0,0,0,0)).1,((b1.1.getD t.toNat (0,0,false,0,0,0,0,0)).2.1+1),(b1.1.getD t.toNat (0,0,false,0,0,0,0,0)).2.2)).length) <| ck (kAt (.pair (.int .i64) (.pair (.int .i64) (.pair .bool (.pair (.int .i64) (.pair (.int .i64) (.pair (.int .i64) (.pair (.int .i64) (.int .i64)))))))) ((4+((p.getD (b1.2.1.getD (b1.1.getD t.toNat (0,0,false,0,0,0,0,0)).2.2.2.1.toNat (0,0,0,0,0,0)).2.2.1.toNat []).getD (b1.1.getD t.toNat (0,0,false,0,0,0,0,0)).2.1.toNat (0,0,0,0)).2.2.2.toNat*1))=some (some .i64)) <| ck (t.toNat<(b1.1.set t.toNat ((b1.1.getD t.toNat (0,0,false,0,0,0,0,0)).1,((b1.1.getD t.toNat (0,0,false,0,0,0,0,0)).2.1+1),(b1.1.getD t.toNat (0,0,false,0,0,0,0,0)).2.2)).length) <| linealref08_Play_Step_2_k2 t p_3 p_4 b1 (((b1.1.set t.toNat ((b1.1.getD t.toNat (0,0,false,0,0,0,0,0)).1,((b1.1.getD t.toNat (0,0,false,0,0,0,0,0)).2.1+1),(b1.1.getD t.toNat (0,0,false,0,0,0,0,0)).2.2)).set t.toNat (((b1.1.set t.toNat ((b1.1.getD t.toNat (0,0,false,0,0,0,0,0)).1,((b1.1.getD t.toNat (0,0,false,0,0,0,0,0)).2.1+1),(b1.1.getD t.toNat (0,0,false,0,0,0,0,0)).2.2)).getD t.toNat (0,0,false,0,0,0,0,0)).1,((b1.1.set t.toNat ((b1.1.getD t.toNat (0,0,false,0,0,0,0,0)).1,((b1.1.getD t.toNat (0,0,false,0,0,0,0,0)).2.1+1),(b1.1.getD t.toNat (0,0,false,0,0,0,0,0)).2.2)).getD t.toNat (0,0,false,0,0,0,0,0)).2.1,((b1.1.set t.toNat ((b1.1.getD t.toNat (0,0,false,0,0,0,0,0)).1,((b1.1.getD t.toNat (0,0,false,0,0,0,0,0)).2.1+1),(b1.1.getD t.toNat (0,0,false,0,0,0,0,0)).2.2)).getD t.toNat (0,0,false,0,0,0,0,0)).2.2.1,((b1.1.set t.toNat ((b1.1.getD t.toNat (0,0,false,0,0,0,0,0)).1,((b1.1.getD t.toNat (0,0,false,0,0,0,0,0)).2.1+1),(b1.1.getD t.toNat (0,0,false,0,0,0,0,0)).2.2)).getD t.toNat (0,0,false,0,0,0,0,0)).2.2.2.1,((b1.1.set t.toNat ((b1.1.getD t.toNat (0,0,false,0,0,0,0,0)).1,((b1.1.getD t.toNat (0,0,false,0,0,0,0,0)).2.1+1),(b1.1.getD t.toNat (0,0,false,0,0,0,0,0)).2.2)).getD t.toNat (0,0,false,0,0,0,0,0)).2.2.2.2.1,((b1.1.set t.toNat ((b1.1.getD t.toNat (0,0,false,0,0,0,0,0)).1,((b1.1.getD t.toNat (0,0,false,0,0,0,0,0)).2.1+1),(b1.1.getD t.toNat (0,0,false,0,0,0,0,0)).2.2)).getD t.toNat (0,0,false,0,0,0,0,0)).2.2.2.2.2.1,((b1.1.set t.toNat ((b1.1.getD t.toNat (0,0,false,0,0,0,0,0)).1,((b1.1.getD t.toNat (0,0,false,0,0,0,0,0)).2.1+1),(b1.1.getD t.toNat (0,0,false,0,0,0,0,0)).2.2)).getD t.toNat (0,0,false,0,0,0,0,0)).2.2.2.2.2.2.1,1)),p_5,p_6,(intAt (.pair (.int .i64) (.pair (.int .i64) (.pair .bool (.pair (.int .i64) (.pair (.int .i64) (.pair (.int .i64) (.pair (.int .i64) (.int .i64)))))))) ((b1.1.set t.toNat ((b1.1.getD t.toNat (0,0,false,0,0,0,0,0)).1,((b1.1.getD t.toNat (0,0,false,0,0,0,0,0)).2.1+1),(b1.1.getD t.toNat (0,0,false,0,0,0,0,0)).2.2)).getD t.toNat (0,0,false,0,0,0,0,0)) (4+((p.getD (b1.2.1.getD (b1.1.getD t.toNat (0,0,false,0,0,0,0,0)).2.2.2.1.toNat (0,0,0,0,0,0)).2.2.1.toNat []).getD (b1.1.getD t.toNat (0,0,false,0,0,0,0,0)).2.1.toNat (0,0,0,0)).2.2.2.toNat*1)),b1.2.1)
  else
  ck (t.toNat<(b1.1.set t.toNat ((b1.1.getD t.toNat (0,0,false,0,0,0,0,0)).1,((b1.1.getD t.toNat (0,0,false,0,0,0,0,0)).2.1+1),(b1.1.getD t.toNat (0,0,false,0,0,0,0,0)).2.2)).length) <| linealref08_Play_Step_2_k2 t p_3 p_4 b1 (((b1.1.set t.toNat ((b1.1.getD t.toNat (0,0,false,0,0,0,0,0)).1,((b1.1.getD t.toNat (0,0,false,0,0,0,0,0)).2.1+1),(b1.1.getD t.toNat (0,0,false,0,0,0,0,0)).2.2)).set t.toNat (((b1.1.set t.toNat ((b1.1.getD t.toNat (0,0,false,0,0,0,0,0)).1,((b1.1.getD t.toNat (0,0,false,0,0,0,0,0)).2.1+1),(b1.1.getD t.toNat (0,0,false,0,0,0,0,0)).2.2)).getD t.toNat (0,0,false,0,0,0,0,0)).1,((b1.1.set t.toNat ((b1.1.getD t.toNat (0,0,false,0,0,0,0,0)).1,((b1.1.getD t.toNat (0,0,false,0,0,0,0,0)).2.1+1),(b1.1.getD t.toNat (0,0,false,0,0,0,0,0)).2.2)).getD t.toNat (0,0,false,0,0,0,0,0)).2.1,((b1.1.set t.toNat ((b1.1.getD t.toNat (0,0,false,0,0,0,0,0)).1,((b1.1.getD t.toNat (0,0,false,0,0,0,0,0)).2.1+1),(b1.1.getD t.toNat (0,0,false,0,0,0,0,0)).2.2)).getD t.toNat (0,0,false,0,0,0,0,0)).2.2.1,((b1.1.set t.toNat ((b1.1.getD t.toNat (0,0,false,0,0,0,0,0)).1,((b1.1.getD t.toNat (0,0,false,0,0,0,0,0)).2.1+1),(b1.1.getD t.toNat (0,0,false,0,0,0,0,0)).2.2)).getD t.toNat (0,0,false,0,0,0,0,0)).2.2.2.1,((b1.1.set t.toNat ((b1.1.getD t.toNat (0,0,false,0,0,0,0,0)).1,((b1.1.getD t.toNat (0,0,false,0,0,0,0,0)).2.1+1),(b1.1.getD t.toNat (0,0,false,0,0,0,0,0)).2.2)).getD t.toNat (0,0,false,0,0,0,0,0)).2.2.2.2.1,((b1.1.set t.toNat ((b1.1.getD t.toNat (0,0,false,0,0,0,0,0)).1,((b1.1.getD t.toNat (0,0,false,0,0,0,0,0)).2.1+1),(b1.1.getD t.toNat (0,0,false,0,0,0,0,0)).2.2)).getD t.toNat (0,0,false,0,0,0,0,0)).2.2.2.2.2.1,((b1.1.set t.toNat ((b1.1.getD t.toNat (0,0,false,0,0,0,0,0)).1,((b1.1.getD t.toNat (0,0,false,0,0,0,0,0)).2.1+1),(b1.1.getD t.toNat (0,0,false,0,0,0,0,0)).2.2)).getD t.toNat (0,0,false,0,0,0,0,0)).2.2.2.2.2.2.1,0)),p_5,p_6,p_7,b1.2.1)
  else
  if (decide (((p.getD (b1.2.1.getD (b1.1.getD t.toNat (0,0,false,0,0,0,0,0)).2.2.2.1.toNat (0,0,0,0,0,0)).2.2.1.toNat []).getD (b1.1.getD t.toNat (0,0,false,0,0,0,0,0)).2.1.toNat (0,0,0,0)).1=4))=true then
  ck (0≤((p.getD (b1.2.1.getD (b1.1.getD t.toNat (0,0,false,0,0,0,0,0)).2.2.2.1.toNat (0,0,0,0,0,0)).2.2.1.toNat []).getD (b1.1.getD t.toNat (0,0,false,0,0,0,0,0)).2.1.toNat (0,0,0,0)).2.1) <| ck (((p.getD (b1.2.1.getD (b1.1.getD t.toNat (0,0,false,0,0,0,0,0)).2.2.2.1.toNat (0,0,0,0,0,0)).2.2.1.toNat []).getD (b1.1.getD t.toNat (0,0,false,0,0,0,0,0)).2.1.toNat (0,0,0,0)).2.1<4) <| ck (t.toNat<(b1.1.set t.toNat ((b1.1.getD t.toNat (0,0,false,0,0,0,0,0)).1,((b1.1.getD t.toNat (0,0,false,0,0,0,0,0)).2.1+1),(b1.1.getD t.toNat (0,0,false,0,0,0,0,0)).2.2)).length) <| ck (kAt (.pair (.int .i64) (.pair (.int .i64) (.pair .bool (.pair (.int .i64) (.pair (.int .i64) (.pair (.int .i64) (.pair (.int .i64) (.int .i64)))))))) ((4+((p.getD (b1.2.1.getD (b1.1.getD t.toNat (0,0,false,0,0,0,0,0)).2.2.2.1.toNat (0,0,0,0,0,0)).2.2.1.toNat []).getD (b1.1.getD t.toNat (0,0,false,0,0,0,0,0)).2.1.toNat (0,0,0,0)).2.1.toNat*1))=some (some .i64)) <| linealref08_Play_Step_2_k2 t p_3 p_4 b1 (((b1.1.set t.toNat ((b1.1.getD t.toNat (0,0,false,0,0,0,0,0)).1,((b1.1.getD t.toNat (0,0,false,0,0,0,0,0)).2.1+1),(b1.1.getD t.toNat (0,0,false,0,0,0,0,0)).2.2)).set t.toNat (setInt (.pair (.int .i64) (.pair (.int .i64) (.pair .bool (.pair (.int .i64) (.pair (.int .i64) (.pair (.int .i64) (.pair (.int .i64) (.int .i64)))))))) ((b1.1.set t.toNat ((b1.1.getD t.toNat (0,0,false,0,0,0,0,0)).1,((b1.1.getD t.toNat (0,0,false,0,0,0,0,0)).2.1+1),(b1.1.getD t.toNat (0,0,false,0,0,0,0,0)).2.2)).getD t.toNat (0,0,false,0,0,0,0,0)) (4+((p.getD (b1.2.1.getD (b1.1.getD t.toNat (0,0,false,0,0,0,0,0)).2.2.2.1.toNat (0,0,0,0,0,0)).2.2.1.toNat []).getD (b1.1.getD t.toNat (0,0,false,0,0,0,0,0)).2.1.toNat (0,0,0,0)).2.1.toNat*1) ((p.getD (b1.2.1.getD (b1.1.getD t.toNat (0,0,false,0,0,0,0,0)).2.2.2.1.toNat (0,0,0,0,0,0)).2.2.1.toNat []).getD (b1.1.getD t.toNat (0,0,false,0,0,0,0,0)).2.1.toNat (0,0,0,0)).2.2.1)),p_5,p_6,p_7,b1.2.1)
  else
  if (decide (((p.getD (b1.2.1.getD (b1.1.getD t.toNat (0,0,false,0,0,0,0,0)).2.2.2.1.toNat (0,0,0,0,0,0)).2.2.1.toNat []).getD (b1.1.getD t.toNat (0,0,false,0,0,0,0,0)).2.1.toNat (0,0,0,0)).1=5))=true then
  ck (0≤((p.getD (b1.2.1.getD (b1.1.getD t.toNat (0,0,false,0,0,0,0,0)).2.2.2.1.toNat (0,0,0,0,0,0)).2.2.1.toNat []).getD (b1.1.getD t.toNat (0,0,false,0,0,0,0,0)).2.1.toNat (0,0,0,0)).2.2.1) <| ck (((p.getD (b1.2.1.getD (b1.1.getD t.toNat (0,0,false,0,0,0,0,0)).2.2.2.1.toNat (0,0,0,0,0,0)).2.2.1.toNat []).getD (b1.1.getD t.toNat (0,0,false,0,0,0,0,0)).2.1.toNat (0,0,0,0)).2.2.1<4) <| ck (t.toNat<(b1.1.set t.toNat ((b1.1.getD t.toNat (0,0,false,0,0,0,0,0)).1,((b1.1.getD t.toNat (0,0,false,0,0,0,0,0)).2.1+1),(b1.1.getD t.toNat (0,0,false,0,0,0,0,0)).2.2)).length) <| ck (kAt (.pair (.int .i64) (.pair (.int .i64) (.pair .bool (.pair (.int .i64) (.pair (.int .i64) (.pair (.int .i64) (.pair (.int .i64) (.int .i64)))))))) ((4+((p.getD (b1.2.1.getD (b1.1.getD t.toNat (0,0,false,0,0,0,0,0)).2.2.2.1.toNat (0,0,0,0,0,0)).2.2.1.toNat []).getD (b1.1.getD t.toNat (0,0,false,0,0,0,0,0)).2.1.toNat (0,0,0,0)).2.2.1.toNat*1))=some (some .i64)) <| ck (0≤((p.getD (b1.2.1.getD (b1.1.getD t.toNat (0,0,false,0,0,0,0,0)).2.2.2.1.toNat (0,0,0,0,0,0)).2.2.1.toNat []).getD (b1.1.getD t.toNat (0,0,false,0,0,0,0,0)).2.1.toNat (0,0,0,0)).2.2.2) <| ck (((p.getD (b1.2.1.getD (b1.1.getD t.toNat (0,0,false,0,0,0,0,0)).2.2.2.1.toNat (0,0,0,0,0,0)).2.2.1.toNat []).getD (b1.1.getD t.toNat (0,0,false,0,0,0,0,0)).2.1.toNat (0,0,0,0)).2.2.2<4) <| ck (t.toNat<(b1.1.set t.toNat ((b1.1.getD t.toNat (0,0,false,0,0,0,0,0)).1,((b1.1.getD t.toNat (0,0,false,0,0,0,0,0)).2.1+1),(b1.1.getD t.toNat (0,0,false,0,0,0,0,0)).2.2)).length) <| ck (kAt (.pair (.int .i64) (.pair (.int .i64) (.pair .bool (.pair (.int .i64) (.pair (.int .i64) (.pair (.int .i64) (.pair (.int .i64) (.int .i64)))))))) ((4+((p.getD (b1.2.1.getD (b1.1.getD t.toNat (0,0,false,0,0,0,0,0)).2.2.2.1.toNat (0,0,0,0,0,0)).2.2.1.toNat []).getD (b1.1.getD t.toNat (0,0,false,0,0,0,0,0)).2.1.toNat (0,0,0,0)).2.2.2.toNat*1))=some (some .i64)) <| ck (InK .i64 ((intAt (.pair (.int .i64) (.pair (.int .i64) (.pair .bool (.pair (.int .i64) (.pair (.int .i64) (.pair (.int .i64) (.pair (.int .i64) (.int .i64)))))))) ((b1.1.set t.toNat ((b1.1.getD t.toNat (0,0,false,0,0,0,0,0)).1,((b1.1.getD t.toNat (0,0,false,0,0,0,0,0)).2.1+1),(b1.1.getD t.toNat (0,0,false,0,0,0,0,0)).2.2)).getD t.toNat (0,0,false,0,0,0,0,0)) (4+((p.getD (b1.2.1.getD (b1.1.getD t.toNat (0,0,false,0,0,0,0,0)).2.2.2.1.toNat (0,0,0,0,0,0)).2.2.1.toNat []).getD (b1.1.getD t.toNat (0,0,false,0,0,0,0,0)).2.1.toNat (0,0,0,0)).2.2.1.toNat*1))+(intAt (.pair (.int .i64) (.pair (.int .i64) (.pair .bool (.pair (.int .i64) (.pair (.int .i64) (.pair (.int .i64) (.pair (.int .i64) (.int .i64)))))))) ((b1.1.set t.toNat ((b1.1.getD t.toNat (0,0,false,0,0,0,0,0)).1,((b1.1.getD t.toNat (0,0,false,0,0,0,0,0)).2.1+1),(b1.1.getD t.toNat (0,0,false,0,0,0,0,0)).2.2)).getD t.toNat (0,0,false,0,0,0,0,0)) (4+((p.getD (b1.2.1.getD (b1.1.getD t.toNat (0,0,false,0,0,0,0,0)).2.2.2.1.toNat (0,0,0,0,0,0)).2.2.1.toNat []).getD (b1.1.getD t.toNat (0,0,false,0,0,0,0,0)).2.1.toNat (0,0,0,0)).2.2.2.toNat*1)))) <| ck (0≤((intAt (.pair (.int .i64) (.pair (.int .i64) (.pair .bool (.pair (.int .i64) (.pair (.int .i64) (.pair (.int .i64) (.pair (.int .i64) (.int .i64)))))))) ((b1.1.set t.toNat ((b1.1.getD t.toNat (0,0,false,0,0,0,0,0)).1,((b1.1.getD t.toNat (0,0,false,0,0,0,0,0)).2.1+1),(b1.1.getD t.toNat (0,0,false,0,0,0,0,0)).2.2)).getD t.toNat (0,0,false,0,0,0,0,0)) (4+((p.getD (b1.2.1.getD (b1.1.getD t.toNat (0,0,false,0,0,0,0,0)).2.2.2.1.toNat (0,0,0,0,0,0)).2.2.1.toNat []).getD (b1.1.getD t.toNat (0,0,false,0,0,0,0,0)).2.1.toNat (0,0,0,0)).2.2.1.toNat*1))+(intAt (.pair (.int .i64) (.pair (.int .i64) (.pair .bool (.pair (.int .i64) (.pair (.int .i64) (.pair (.int .i64) (.pair (.int .i64) (.int .i64)))))))) ((b1.1.set t.toNat ((b1.1.getD t.toNat (0,0,false,0,0,0,0,0)).1,((b1.1.getD t.toNat (0,0,false,0,0,0,0,0)).2.1+1),(b1.1.getD t.toNat (0,0,false,0,0,0,0,0)).2.2)).getD t.toNat (0,0,false,0,0,0,0,0)) (4+((p.getD (b1.2.1.getD (b1.1.getD t.toNat (0,0,false,0,0,0,0,0)).2.2.2.1.toNat (0,0,0,0,0,0)).2.2.1.toNat []).getD (b1.1.getD t.toNat (0,0,false,0,0,0,0,0)).2.1.toNat (0,0,0,0)).2.2.2.toNat*1)))) <| ck (0≤((p.getD (b1.2.1.getD (b1.1.getD t.toNat (0,0,false,0,0,0,0,0)).2.2.2.1.toNat (0,0,0,0,0,0)).2.2.1.toNat []).getD (b1.1.getD t.toNat (0,0,false,0,0,0,0,0)).2.1.toNat (0,0,0,0)).2.1) <| ck (((p.getD (b1.2.1.getD (b1.1.getD t.toNat (0,0,false,0,0,0,0,0)).2.2.2.1.toNat (0,0,0,0,0,0)).2.2.1.toNat []).getD (b1.1.getD t.toNat (0,0,false,0,0,0,0,0)).2.1.toNat (0,0,0,0)).2.1<4) <| ck (t.toNat<(b1.1.set t.toNat ((b1.1.getD t.toNat (0,0,false,0,0,0,0,0)).1,((b1.1.getD t.toNat (0,0,false,0,0,0,0,0)).2.1+1),(b1.1.getD t.toNat (0,0,false,0,0,0,0,0)).2.2)).length) <| ck (kAt (.pair (.int .i64) (.pair (.int .i64) (.pair .bool (.pair (.int .i64) (.pair (.int .i64) (.pair (.int .i64) (.pair (.int .i64) (.int .i64)))))))) ((4+((p.getD (b1.2.1.getD (b1.1.getD t.toNat (0,0,false,0,0,0,0,0)).2.2.2.1.toNat (0,0,0,0,0,0)).2.2.1.toNat []).getD (b1.1.getD t.toNat (0,0,false,0,0,0,0,0)).2.1.toNat (0,0,0,0)).2.1.toNat*1))=some (some .i64)) <| linealref08_Play_Step_2_k2 t p_3 p_4 b1 (((b1.1.set t.toNat ((b1.1.getD t.toNat (0,0,false,0,0,0,0,0)).1,((b1.1.getD t.toNat (0,0,false,0,0,0,0,0)).2.1+1),(b1.1.getD t.toNat (0,0,false,0,0,0,0,0)).2.2)).set t.toNat (setInt (.pair (.int .i64) (.pair (.int .i64) (.pair .bool (.pair (.int .i64) (.pair (.int .i64) (.pair (.int .i64) (.pair (.int .i64) (.int .i64)))))))) ((b1.1.set t.toNat ((b1.1.getD t.toNat (0,0,false,0,0,0,0,0)).1,((b1.1.getD t.toNat (0,0,false,0,0,0,0,0)).2.1+1),(b1.1.getD t.toNat (0,0,false,0,0,0,0,0)).2.2)).getD t.toNat (0,0,false,0,0,0,0,0)) (4+((p.getD (b1.2.1.getD (b1.1.getD t.toNat (0,0,false,0,0,0,0,0)).2.2.2.1.toNat (0,0,0,0,0,0)).2.2.1.toNat []).getD (b1.1.getD t.toNat (0,0,false,0,0,0,0,0)).2.1.toNat (0,0,0,0)).2.1.toNat*1) (((intAt (.pair (.int .i64) (.pair (.int .i64) (.pair .bool (.pair (.int .i64) (.pair (.int .i64) (.pair (.int .i64) (.pair (.int .i64) (.int .i64)))))))) ((b1.1.set t.toNat ((b1.1.getD t.toNat (0,0,false,0,0,0,0,0)).1,((b1.1.getD t.toNat (0,0,false,0,0,0,0,0)).2.1+1),(b1.1.getD t.toNat (0,0,false,0,0,0,0,0)).2.2)).getD t.toNat (0,0,false,0,0,0,0,0)) (4+((p.getD (b1.2.1.getD (b1.1.getD t.toNat (0,0,false,0,0,0,0,0)).2.2.2.1.toNat (0,0,0,0,0,0)).2.2.1.toNat []).getD (b1.1.getD t.toNat (0,0,false,0,0,0,0,0)).2.1.toNat (0,0,0,0)).2.2.1.toNat*1))+(intAt (.pair (.int .i64) (.pair (.int .i64) (.pair .bool (.pair (.int .i64) (.pair (.int .i64) (.pair (.int .i64) (.pair (.int .i64) (.int .i64)))))))) ((b1.1.set t.toNat ((b1.1.getD t.toNat (0,0,false,0,0,0,0,0)).1,((b1.1.getD t.toNat (0,0,false,0,0,0,0,0)).2.1+1),(b1.1.getD t.toNat (0,0,false,0,0,0,0,0)).2.2)).getD t.toNat (0,0,false,0,0,0,0,0)) (4+((p.getD (b1.2.1.getD (b1.1.getD t.toNat (0,0,false,0,0,0,0,0)).2.2.2.1.toNat (0,0,0,0,0,0)).2.2.1.toNat []).getD (b1.1.getD t.toNat (0,0,false,0,0,0,0,0)).2.1.toNat (0,0,0,0)).2.2.2.toNat*1))) % 10))),p_5,p_6,p_7,b1.2.1)
  else
  if (decide (((p.getD (b1.2.1.getD (b1.1.getD t.toNat (0,0,false,0,0,0,0,0)).2.2.2.1.toNat (0,0,0,0,0,0)).2.2.1.toNat []).getD (b1.1.getD t.toNat (0,0,false,0,0,0,0,0)).2.1.toNat (0,0,0,0)).1=6))=true then
  ck (0≤((p.getD (b1.2.1.getD (b1.1.getD t.toNat (0,0,false,0,0,0,0,0)).2.2.2.1.toNat (0,0,0,0,0,0)).2.2.1.toNat []).getD (b1.1.getD t.toNat (0,0,false,0,0,0,0,0)).2.1.toNat (0,0,0,0)).2.1) <| ck (((p.getD (b1.2.1.getD (b1.1.getD t.toNat (0,0,false,0,0,0,0,0)).2.2.2.1.toNat (0,0,0,0,0,0)).2.2.1.toNat []).getD (b1.1.getD t.toNat (0,0,false,0,0,0,0,0)).2.1.toNat (0,0,0,0)).2.1<4) <| ck (t.toNat<(b1.1.set t.toNat ((b1.1.getD t.toNat (0,0,false,0,0,0,0,0)).1,((b1.1.getD t.toNat (0,0,false,0,0,0,0,0)).2.1+1),(b1.1.getD t.toNat (0,0,false,0,0,0,0,0)).2.2)).length) <| ck (kAt (.pair (.int .i64) (.pair (.int .i64) (.pair .bool (.pair (.int .i64) (.pair (.int .i64) (.pair (.int .i64) (.pair (.int .i64) (.int .i64)))))))) ((4+((p.getD (b1.2.1.getD (b1.1.getD t.toNat (0,0,false,0,0,0,0,0)).2.2.2.1.toNat (0,0,0,0,0,0)).2.2.1.toNat []).getD (b1.1.getD t.toNat (0,0,false,0,0,0,0,0)).2.1.toNat (0,0,0,0)).2.1.toNat*1))=some (some .i64)) <| if (decide ((intAt (.pair (.int .i64) (.pair (.int .i64) (.pair .bool (.pair (.int .i64) (.pair (.int .i64) (.pair (.int .i64) (.pair (.int .i64) (.int .i64)))))))) ((b1.1.set t.toNat ((b1.1.getD t.toNat (0,0,false,0,0,0,0,0)).1,((b1.1.getD t.toNat (0,0,false,0,0,0,0,0)).2.1+1),(b1.1.getD t.toNat (0,0,false,0,0,0,0,0)).2.2)).getD t.toNat (0,0,false,0,0,0,0,0)) (4+((p.getD (b1.2.1.getD (b1.1.getD t.toNat (0,0,false,0,0,0,0,0)).2.2.2.1.toNat (0,0,0,0,0,0)).2.2.1.toNat []).getD (b1.1.getD t.toNat (0,0,false,0,0,0,0,0)).2.1.toNat (0,0,0,0)).2.1.toNat*1))=0))=true then
  ck (t.toNat<(b1.1.set t.toNat ((b1.1.getD t.toNat (0,0,false,0,0,0,0,0)).1,((b1.1.getD t.toNat (0,0,false,0,0,0,0,0)).2.1+1),(b1.1.getD t.toNat (0,0,false,0,0,0,0,0)).2.2)).length) <| linealref08_Play_Step_2_k2 t p_3 p_4 b1 (((b1.1.set t.toNat ((b1.1.getD t.toNat (0,0,false,0,0,0,0,0)).1,((b1.1.getD t.toNat (0,0,false,0,0,0,0,0)).2.1+1),(b1.1.getD t.toNat (0,0,false,0,0,0,0,0)).2.2)).set t.toNat (((b1.1.set t.toNat ((b1.1.getD t.toNat (0,0,false,0,0,0,0,0)).1,((b1.1.getD t.toNat (0,0,false,0,0,0,0,0)).2.1+1),(b1.1.getD t.toNat (0,0,false,0,0,0,0,0)).2.2)).getD t.toNat (0,0,false,0,0,0,0,0)).1,((p.getD (b1.2.1.getD (b1.1.getD t.toNat (0,0,false,0,0,0,0,0)).2.2.2.1.toNat (0,0,0,0,0,0)).2.2.1.toNat []).getD (b1.1.getD t.toNat (0,0,false,0,0,0,0,0)).2.1.toNat (0,0,0,0)).2.2.1,((b1.1.set t.toNat ((b1.1.getD t.toNat (0,0,false,0,0,0,0,0)).1,((b1.1.getD t.toNat (0,0,false,0,0,0,0,0)).2.1+1),(b1.1.getD t.toNat (0,0,false,0,0,0,0,0)).2.2)).getD t.toNat (0,0,false,0,0,0,0,0)).2.2)),p_5,p_6,p_7,b1.2.1)
  else
  linealref08_Play_Step_2_k2 t p_3 p_4 b1 ((b1.1.set t.toNat ((b1.1.getD t.toNat (0,0,false,0,0,0,0,0)).1,((b1.1.getD t.toNat (0,0,false,0,0,0,0,0)).2.1+1),(b1.1.getD t.toNat (0,0,false,0,0,0,0,0)).2.2)),p_5,p_6,p_7,b1.2.1)
  else
  if (decide (((p.getD (b1.2.1.getD (b1.1.getD t.toNat (0,0,false,0,0,0,0,0)).2.2.2.1.toNat (0,0,0,0,0,0)).2.2.1.toNat []).getD (b1.1.getD t.toNat (0,0,false,0,0,0,0,0)).2.1.toNat (0,0,0,0)).1=7))=true then
  ck (t.toNat<(b1.1.set t.toNat ((b1.1.getD t.toNat (0,0,false,0,0,0,0,0)).1,((b1.1.getD t.toNat (0,0,false,0,0,0,0,0)).2.1+1),(b1.1.getD t.toNat (0,0,false,0,0,0,0,0)).2.2)).length) <| ck (InK .i64 (2*p_4)) <| ck (InK .i64 ((2*p_4)+2)) <| ck (0≤((b1.1.set t.toNat ((b1.1.getD t.toNat (0,0,false,0,0,0,0,0)).1,((b1.1.getD t.toNat (0,0,false,0,0,0,0,0)).2.1+1),(b1.1.getD t.toNat (0,0,false,0,0,0,0,0)).2.2)).getD t.toNat (0,0,false,0,0,0,0,0)).2.2.2.1) <| ck (((b1.1.set t.toNat ((b1.1.getD t.toNat (0,0,false,0,0,0,0,0)).1,((b1.1.getD t.toNat (0,0,false,0,0,0,0,0)).2.1+1),(b1.1.getD t.toNat (0,0,false,0,0,0,0,0)).2.2)).getD t.toNat (0,0,false,0,0,0,0,0)).2.2.2.1<(b1.2.1.length:Int)) <| ck (((b1.1.set t.toNat ((b1.1.getD t.toNat (0,0,false,0,0,0,0,0)).1,((b1.1.getD t.toNat (0,0,false,0,0,0,0,0)).2.1+1),(b1.1.getD t.toNat (0,0,false,0,0,0,0,0)).2.2)).getD t.toNat (0,0,false,0,0,0,0,0)).2.2.2.1.toNat<b1.2.1.length) <| ck (t.toNat<(b1.1.set t.toNat ((b1.1.getD t.toNat (0,0,false,0,0,0,0,0)).1,((b1.1.getD t.toNat (0,0,false,0,0,0,0,0)).2.1+1),(b1.1.getD t.toNat (0,0,false,0,0,0,0,0)).2.2)).length) <| ck (0≤((p.getD (b1.2.1.getD (b1.1.getD t.toNat (0,0,false,0,0,0,0,0)).2.2.2.1.toNat (0,0,0,0,0,0)).2.2.1.toNat []).getD (b1.1.getD t.toNat (0,0,false,0,0,0,0,0)).2.1.toNat (0,0,0,0)).2.1) <| ck (((p.getD (b1.2.1.getD (b1.1.getD t.toNat (0,0,false,0,0,0,0,0)).2.2.2.1.toNat (0,0,0,0,0,0)).2.2.1.toNat []).getD (b1.1.getD t.toNat (0,0,false,0,0,0,0,0)).2.1.toNat (0,0,0,0)).2.1<4) <| ck (t.toNat<(b1.1.set t.toNat ((b1.1.getD t.toNat (0,0,false,0,0,0,0,0)).1,((b1.1.getD t.toNat (0,0,false,0,0,0,0,0)).2.1+1),(b1.1.getD t.toNat (0,0,false,0,0,0,0,0)).2.2)).length) <| ck (kAt (.pair (.int .i64) (.pair (.int .i64) (.pair .bool (.pair (.int .i64) (.pair (.int .i64) (.pair (.int .i64) (.pair (.int .i64) (.int .i64)))))))) ((4+((p.getD (b1.2.1.getD (b1.1.getD t.toNat (0,0,false,0,0,0,0,0)).2.2.2.1.toNat (0,0,0,0,0,0)).2.2.1.toNat []).getD (b1.1.getD t.toNat (0,0,false,0,0,0,0,0)).2.1.toNat (0,0,0,0)).2.1.toNat*1))=some (some .i64)) <| ck (0≤((b1.1.set t.toNat ((b1.1.getD t.toNat (0,0,false,0,0,0,0,0)).1,((b1.1.getD t.toNat (0,0,false,0,0,0,0,0)).2.1+1),(b1.1.getD t.toNat (0,0,false,0,0,0,0,0)).2.2)).getD t.toNat (0,0,false,0,0,0,0,0)).2.2.2.1) <| ck (((b1.1.set t.toNat ((b1.1.getD t.toNat (0,0,false,0,0,0,0,0)).1,((b1.1.getD t.toNat (0,0,false,0,0,0,0,0)).2.1+1),(b1.1.getD t.toNat (0,0,false,0,0,0,0,0)).2.2)).getD t.toNat (0,0,false,0,0,0,0,0)).2.2.2.1<((b1.2.1.set ((b1.1.set t.toNat ((b1.1.getD t.toNat (0,0,false,0,0,0,0,0)).1,((b1.1.getD t.toNat (0,0,false,0,0,0,0,0)).2.1+1),(b1.1.getD t.toNat (0,0,false,0,0,0,0,0)).2.2)).getD t.toNat (0,0,false,0,0,0,0,0)).2.2.2.1.toNat ((b1.2.1.getD ((b1.1.set t.toNat ((b1.1.getD t.toNat (0,0,false,0,0,0,0,0)).1,((b1.1.getD t.toNat (0,0,false,0,0,0,0,0)).2.1+1),(b1.1.getD t.toNat (0,0,false,0,0,0,0,0)).2.2)).getD t.toNat (0,0,false,0,0,0,0,0)).2.2.2.1.toNat (0,0,0,0,0,0)).1,(b1.2.1.getD ((b1.1.set t.toNat ((b1.1.getD t.toNat (0,0,false,0,0,0,0,0)).1,((b1.1.getD t.toNat (0,0,false,0,0,0,0,0)).2.1+1),(b1.1.getD t.toNat (0,0,false,0,0,0,0,0)).2.2)).getD t.toNat (0,0,false,0,0,0,0,0)).2.2.2.1.toNat (0,0,0,0,0,0)).2.1,(b1.2.1.getD ((b1.1.set t.toNat ((b1.1.getD t.toNat (0,0,false,0,0,0,0,0)).1,((b1.1.getD t.toNat (0,0,false,0,0,0,0,0)).2.1+1),(b1.1.getD t.toNat (0,0,false,0,0,0,0,0)).2.2)).getD t.toNat (0,0,false,0,0,0,0,0)).2.2.2.1.toNat (0,0,0,0,0,0)).2.2.1,(b1.2.1.getD ((b1.1.set t.toNat ((b1.1.getD t.toNat (0,0,false,0,0,0,0,0)).1,((b1.1.getD t.toNat (0,0,false,0,0,0,0,0)).2.1+1),(b1.1.getD t.toNat (0,0,false,0,0,0,0,0)).2.2)).getD t.toNat (0,0,false,0,0,0,0,0)).2.2.2.1.toNat (0,0,0,0,0,0)).2.2.2.1,(b1.2.1.getD ((b1.1.set t.toNat ((b1.1.getD t.toNat (0,0,false,0,0,0,0,0)).1,((b1.1.getD t.toNat (0,0,false,0,0,0,0,0)).2.1+1),(b1.1.getD t.toNat (0,0,false,0,0,0,0,0)).2.2)).getD t.toNat (0,0,false,0,0,0,0,0)).2.2.2.1.toNat (0,0,0,0,0,0)).2.2.2.2.1,((2*p_4)+2))).length:Int)) <| ck (((b1.1.set t.toNat ((b1.1.getD t.toNat (0,0,false,0,0,0,0,0)).1,((b1.1.getD t.toNat (0,0,false,0,0,0,0,0)).2.1+1),(b1.1.getD t.toNat (0,0,false,0,0,0,0,0)).2.2)).getD t.toNat (0,0,false,0,0,0,0,0)).2.2.2.1.toNat<(b1.2.1.set ((b1.1.set t.toNat ((b1.1.getD t.toNat (0,0,false,0,0,0,0,0)).1,((b1.1.getD t.toNat (0,0,false,0,0,0,0,0)).2.1+1),(b1.1.getD t.toNat (0,0,false,0,0,0,0,0)).2.2)).getD t.toNat (0,0,false,0,0,0,0,0)).2.2.2.1.toNat ((b1.2.1.getD ((b1.1.set t.toNat ((b1.1.getD t.toNat (0,0,false,0,0,0,0,0)).1,((b1.1.getD t.toNat (0,0,false,0,0,0,0,0)).2.1+1),(b1.1.getD t.toNat (0,0,false,0,0,0,0,0)).2.2)).getD t.toNat (0,0,false,0,0,0,0,0)).2.2.2.1.toNat (0,0,0,0,0,0)).1,(b1.2.1.getD ((b1.1.set t.toNat ((b1.1.getD t.toNat (0,0,false,0,0,0,0,0)).1,((b1.1.getD t.toNat (0,0,false,0,0,0,0,0)).2.1+1),(b1.1.getD t.toNat (0,0,false,0,0,0,0,0)).2.2)).getD t.toNat (0,0,false,0,0,0,0,0)).2.2.2.1.toNat (0,0,0,0,0,0)).2.1,(b1.2.1.getD ((b1.1.set t.toNat ((b1.1.getD t.toNat (0,0,false,0,0,0,0,0)).1,((b1.1.getD t.toNat (0,0,false,0,0,0,0,0)).2.1+1),(b1.1.getD t.toNat (0,0,false,0,0,0,0,0)).2.2)).getD t.toNat (0,0,false,0,0,0,0,0)).2.2.2.1.toNat (0,0,0,0,0,0)).2.2.1,(b1.2.1.getD ((b1.1.set t.toNat ((b1.1.getD t.toNat (0,0,false,0,0,0,0,0)).1,((b1.1.getD t.toNat (0,0,false,0,0,0,0,0)).2.1+1),(b1.1.getD t.toNat (0,0,false,0,0,0,0,0)).2.2)).getD t.toNat (0,0,false,0,0,0,0,0)).2.2.2.1.toNat (0,0,0,0,0,0)).2.2.2.1,(b1.2.1.getD ((b1.1.set t.toNat ((b1.1.getD t.toNat (0,0,false,0,0,0,0,0)).1,((b1.1.getD t.toNat (0,0,false,0,0,0,0,0)).2.1+1),(b1.1.getD t.toNat (0,0,false,0,0,0,0,0)).2.2)).getD t.toNat (0,0,false,0,0,0,0,0)).2.2.2.1.toNat (0,0,0,0,0,0)).2.2.2.2.1,((2*p_4)+2))).length) <| ck (t.toNat<(b1.1.set t.toNat ((b1.1.getD t.toNat (0,0,false,0,0,0,0,0)).1,((b1.1.getD t.toNat (0,0,false,0,0,0,0,0)).2.1+1),(b1.1.getD t.toNat (0,0,false,0,0,0,0,0)).2.2)).length) <| linealref08_Play_Step_2_k2 t p_3 p_4 b1 (((b1.1.set t.toNat ((b1.1.getD t.toNat (0,0,false,0,0,0,0,0)).1,((b1.1.getD t.toNat (0,0,false,0,0,0,0,0)).2.1+1),(b1.1.getD t.toNat (0,0,false,0,0,0,0,0)).2.2)).set t.toNat (((b1.1.set t.toNat ((b1.1.getD t.toNat (0,0,false,0,0,0,0,0)).1,((b1.1.getD t.toNat (0,0,false,0,0,0,0,0)).2.1+1),(b1.1.getD t.toNat (0,0,false,0,0,0,0,0)).2.2)).getD t.toNat (0,0,false,0,0,0,0,0)).1,((b1.1.set t.toNat ((b1.1.getD t.toNat (0,0,false,0,0,0,0,0)).1,((b1.1.getD t.toNat (0,0,false,0,0,0,0,0)).2.1+1),(b1.1.getD t.toNat (0,0,false,0,0,0,0,0)).2.2)).getD t.toNat (0,0,false,0,0,0,0,0)).2.1,false,((b1.1.set t.toNat ((b1.1.getD t.toNat (0,0,false,0,0,0,0,0)).1,((b1.1.getD t.toNat (0,0,false,0,0,0,0,0)).2.1+1),(b1.1.getD t.toNat (0,0,false,0,0,0,0,0)).2.2)).getD t.toNat (0,0,false,0,0,0,0,0)).2.2.2)),p_5,p_6,p_7,((b1.2.1.set ((b1.1.set t.toNat ((b1.1.getD t.toNat (0,0,false,0,0,0,0,0)).1,((b1.1.getD t.toNat (0,0,false,0,0,0,0,0)).2.1+1),(b1.1.getD t.toNat (0,0,false,0,0,0,0,0)).2.2)).getD t.toNat (0,0,false,0,0,0,0,0)).2.2.2.1.toNat ((b1.2.1.getD ((b1.1.set t.toNat ((b1.1.getD t.toNat (0,0,false,0,0,0,0,0)).1,((b1.1.getD t.toNat (0,0,false,0,0,0,0,0)).2.1+1),(b1.1.getD t.toNat (0,0,false,0,0,0,0,0)).2.2)).getD t.toNat (0,0,false,0,0,0,0,0)).2.2.2.1.toNat (0,0,0,0,0,0)).1,(b1.2.1.getD ((b1.1.set t.toNat ((b1.1.getD t.toNat (0,0,false,0,0,0,0,0)).1,((b1.1.getD t.toNat (0,0,false,0,0,0,0,0)).2.1+1),(b1.1.getD t.toNat (0,0,false,0,0,0,0,0)).2.2)).getD t.toNat (0,0,false,0,0,0,0,0)).2.2.2.1.toNat (0,0,0,0,0,0)).2.1,(b1.2.1.getD ((b1.1.set t.toNat ((b1.1.getD t.toNat (0,0,false,0,0,0,0,0)).1,((b1.1.getD t.toNat (0,0,false,0,0,0,0,0)).2.1+1),(b1.1.getD t.toNat (0,0,false,0,0,0,0,0)).2.2)).getD t.toNat (0,0,false,0,0,0,0,0)).2.2.2.1.toNat (0,0,0,0,0,0)).2.2.1,(b1.2.1.getD ((b1.1.set t.toNat ((b1.1.getD t.toNat (0,0,false,0,0,0,0,0)).1,((b1.1.getD t.toNat (0,0,false,0,0,0,0,0)).2.1+1),(b1.1.getD t.toNat (0,0,false,0,0,0,0,0)).2.2)).getD t.toNat (0,0,false,0,0,0,0,0)).2.2.2.1.toNat (0,0,0,0,0,0)).2.2.2.1,(b1.2.1.getD ((b1.1.set t.toNat ((b1.1.getD t.toNat (0,0,false,0,0,0,0,0)).1,((b1.1.getD t.toNat (0,0,false,0,0,0,0,0)).2.1+1),(b1.1.getD t.toNat (0,0,false,0,0,0,0,0)).2.2)).getD t.toNat (0,0,false,0,0,0,0,0)).2.2.2.1.toNat (0,0,0,0,0,0)).2.2.2.2.1,((2*p_4)+2))).set ((b1.1.set t.toNat ((b1.1.getD t.toNat (0,0,false,0,0,0,0,0)).1,((b1.1.getD t.toNat (0,0,false,0,0,0,0,0)).2.1+1),(b1.1.getD t.toNat (0,0,false,0,0,0,0,0)).2.2)).getD t.toNat (0,0,false,0,0,0,0,0)).2.2.2.1.toNat (((b1.2.1.set ((b1.1.set t.toNat ((b1.1.getD t.toNat (0,0,false,0,0,0,0,0)).1,((b1.1.getD t.toNat (0,0,false,0,0,0,0,0)).2.1+1),(b1.1.getD t.toNat (0,0,false,0,0,0,0,0)).2.2)).getD t.toNat (0,0,false,0,0,0,0,0)).2.2.2.1.toNat ((b1.2.1.getD ((b1.1.set t.toNat ((b1.1.getD t.toNat (0,0,false,0,0,0,0,0)).1,((b1.1.getD t.toNat (0,0,false,0,0,0,0,0)).2.1+1),(b1.1.getD t.toNat (0,0,false,0,0,0,0,0)).2.2)).getD t.toNat (0,0,false,0,0,0,0,0)).2.2.2.1.toNat (0,0,0,0,0,0)).1,(b1.2.1.getD ((b1.1.set t.toNat ((b1.1.getD t.toNat (0,0,false,0,0,0,0,0)).1,((b1.1.getD t.toNat (0,0,false,0,0,0,0,0)).2.1+1),(b1.1.getD t.toNat (0,0,false,0,0,0,0,0)).2.2)).getD t.toNat (0,0,false,0,0,0,0,0)).2.2.2.1.toNat (0,0,0,0,0,0)).2.1,(b1.2.1.getD ((b1.1.set t.toNat ((b1.1.getD t.toNat (0,0,false,0,0,0,0,0)).1,((b1.1.getD t.toNat (0,0,false,0,0,0,0,0)).2.1+1),(b1.1.getD t.toNat (0,0,false,0,0,0,0,0)).2.2)).getD t.toNat (0,0,false,0,0,0,0,0)).2.2.2.1.toNat (0,0,0,0,0,0)).2.2.1,(b1.2.1.getD ((b1.1.set t.toNat ((b1.1.getD t.toNat (0,0,false,0,0,0,0,0)).1,((b1.1.getD t.toNat (0,0,false,0,0,0,0,0)).2.1+1),(b1.1.getD t.toNat (0,0,false,0,0,0,0,0)).2.2)).getD t.toNat (0,0,false,0,0,0,0,0)).2.2.2.1.toNat (0,0,0,0,0,0)).2.2.2.1,(b1.2.1.getD ((b1.1.set t.toNat ((b1.1.getD t.toNat (0,0,false,0,0,0,0,0)).1,((b1.1.getD t.toNat (0,0,false,0,0,0,0,0)).2.1+1),(b1.1.getD t.toNat (0,0,false,0,0,0,0,0)).2.2)).getD t.toNat (0,0,false,0,0,0,0,0)).2.2.2.1.toNat (0,0,0,0,0,0)).2.2.2.2.1,((2*p_4)+2))).getD ((b1.1.set t.toNat ((b1.1.getD t.toNat (0,0,false,0,0,0,0,0)).1,((b1.1.getD t.toNat (0,0,false,0,0,0,0,0)).2.1+1),(b1.1.getD t.toNat (0,0,false,0,0,0,0,0)).2.2)).getD t.toNat (0,0,false,0,0,0,0,0)).2.2.2.1.toNat (0,0,0,0,0,0)).1,((b1.2.1.set ((b1.1.set t.toNat ((b1.1.getD t.toNat (0,0,false,0,0,0,0,0)).1,((b1.1.getD t.toNat (0,0,false,0,0,0,0,0)).2.1+1),(b1.1.getD t.toNat (0,0,false,0,0,0,0,0)).2.2)).getD t.toNat (0,0,false,0,0,0,0,0)).2.2.2.1.toNat ((b1.2.1.getD ((b1.1.set t.toNat ((b1.1.getD t.toNat (0,0,false,0,0,0,0,0)).1,((b1.1.getD t.toNat (0,0,false,0,0,0,0,0)).2.1+1),(b1.1.getD t.toNat (0,0,false,0,0,0,0,0)).2.2)).getD t.toNat (0,0,false,0,0,0,0,0)).2.2.2.1.toNat (0,0,0,0,0,0)).1,(b1.2.1.getD ((b1.1.set t.toNat ((b1.1.getD t.toNat (0,0,false,0,0,0,0,0)).1,((b1.1.getD t.toNat (0,0,false,0,0,0,0,0)).2.1+1),(b1.1.getD t.toNat (0,0,false,0,0,0,0,0)).2.2)).getD t.toNat (0,0,false,0,0,0,0,0)).2.2.2.1.toNat (0,0,0,0,0,0)).2.1,(b1.2.1.getD ((b1.1.set t.toNat ((b1.1.getD t.toNat (0,0,false,0,0,0,0,0)).1,((b1.1.getD t.toNat (0,0,false,0,0,0,0,0)).2.1+1),(b1.1.getD t.toNat (0,0,false,0,0,0,0,0)).2.2)).getD t.toNat (0,0,false,0,0,0,0,0)).2.2.2.1.toNat (0,0,0,0,0,0)).2.2.1,(b1.2.1.getD ((b1.1.set t.toNat ((b1.1.getD t.toNat (0,0,false,0,0,0,0,0)).1,((b1.1.getD t.toNat (0,0,false,0,0,0,0,0)).2.1+1),(b1.1.getD t.toNat (0,0,false,0,0,0,0,0)).2.2)).getD t.toNat (0,0,false,0,0,0,0,0)).2.2.2.1.toNat (0,0,0,0,0,0)).2.2.2.1,(b1.2.1.getD ((b1.1.set t.toNat ((b1.1.getD t.toNat (0,0,false,0,0,0,0,0)).1,((b1.1.getD t.toNat (0,0,false,0,0,0,0,0)).2.1+1),(b1.1.getD t.toNat (0,0,false,0,0,0,0,0)).2.2)).getD t.toNat (0,0,false,0,0,0,0,0)).2.2.2.1.toNat (0,0,0,0,0,0)).2.2.2.2.1,((2*p_4)+2))).getD ((b1.1.set t.toNat ((b1.1.getD t.toNat (0,0,false,0,0,0,0,0)).1,((b1.1.getD t.toNat (0,0,false,0,0,0,0,0)).2.1+1),(b1.1.getD t.toNat (0,0,false,0,0,0,0,0)).2.2)).getD t.toNat (0,0,false,0,0,0,0,0)).2.2.2.1.toNat (0,0,0,0,0,0)).2.1,((b1.2.1.set ((b1.1.set t.toNat ((b1.1.getD t.toNat (0,0,false,0,0,0,0,0)).1,((b1.1.getD t.toNat (0,0,false,0,0,0,0,0)).2.1+1),(b1.1.getD t.toNat (0,0,false,0,0,0,0,0)).2.2)).getD t.toNat (0,0,false,0,0,0,0,0)).2.2.2.1.toNat ((b1.2.1.getD ((b1.1.set t.toNat ((b1.1.getD t.toNat (0,0,false,0,0,0,0,0)).1,((b1.1.getD t.toNat (0,0,false,0,0,0,0,0)).2.1+1),(b1.1.getD t.toNat (0,0,false,0,0,0,0,0)).2.2)).getD t.toNat (0,0,false,0,0,0,0,0)).2.2.2.1.toNat (0,0,0,0,0,0)).1,(b1.2.1.getD ((b1.1.set t.toNat ((b1.1.getD t.toNat (0,0,false,0,0,0,0,0)).1,((b1.1.getD t.toNat (0,0,false,0,0,0,0,0)).2.1+1),(b1.1.getD t.toNat (0,0,false,0,0,0,0,0)).2.2)).getD t.toNat (0,0,false,0,0,0,0,0)).2.2.2.1.toNat (0,0,0,0,0,0)).2.1,(b1.2.1.getD ((b1.1.set t.toNat ((b1.1.getD t.toNat (0,0,false,0,0,0,0,0)).1,((b1.1.getD t.toNat (0,0,false,0,0,0,0,0)).2.1+1),(b1.1.getD t.toNat (0,0,false,0,0,0,0,0)).2.2)).getD t.toNat (0,0,false,0,0,0,0,0)).2.2.2.1.toNat (0,0,0,0,0,0)).2.2.1,(b1.2.1.getD ((b1.1.set t.toNat ((b1.1.getD t.toNat (0,0,false,0,0,0,0,0)).1,((b1.1.getD t.toNat (0,0,false,0,0,0,0,0)).2.1+1),(b1.1.getD t.toNat (0,0,false,0,0,0,0,0)).2.2)).getD t.toNat (0,0,false,0,0,0,0,0)).2.2.2.1.toNat (0,0,0,0,0,0)).2.2.2.1,(b1.2.1.getD ((b1.1.set t.toNat ((b1.1.getD t.toNat (0,0,false,0,0,0,0,0)).1,((b1.1.getD t.toNat (0,0,false,0,0,0,0,0)).2.1+1),(b1.1.getD t.toNat (0,0,false,0,0,0,0,0)).2.2)).getD t.toNat (0,0,false,0,0,0,0,0)).2.2.2.1.toNat (0,0,0,0,0,0)).2.2.2.2.1,((2*p_4)+2))).getD ((b1.1.set t.toNat ((b1.1.getD t.toNat (0,0,false,0,0,0,0,0)).1,((b1.1.getD t.toNat (0,0,false,0,0,0,0,0)).2.1+1),(b1.1.getD t.toNat (0,0,false,0,0,0,0,0)).2.2)).getD t.toNat (0,0,false,0,0,0,0,0)).2.2.2.1.toNat (0,0,0,0,0,0)).2.2.1,(intAt (.pair (.int .i64) (.pair (.int .i64) (.pair .bool (.pair (.int .i64) (.pair (.int .i64) (.pair (.int .i64) (.pair (.int .i64) (.int .i64)))))))) ((b1.1.set t.toNat ((b1.1.getD t.toNat (0,0,false,0,0,0,0,0)).1,((b1.1.getD t.toNat (0,0,false,0,0,0,0,0)).2.1+1),(b1.1.getD t.toNat (0,0,false,0,0,0,0,0)).2.2)).getD t.toNat (0,0,false,0,0,0,0,0)) (4+((p.getD (b1.2.1.getD (b1.1.getD t.toNat (0,0,false,0,0,0,0,0)).2.2.2.1.toNat (0,0,0,0,0,0)).2.2.1.toNat []).getD (b1.1.getD t.toNat (0,0,false,0,0,0,0,0)).2.1.toNat (0,0,0,0)).2.1.toNat*1)),((b1.2.1.set ((b1.1.set t.toNat ((b1.1.getD t.toNat (0,0,false,0,0,0,0,0)).1,((b1.1.getD t.toNat (0,0,false,0,0,0,0,0)).2.1+1),(b1.1.getD t.toNat (0,0,false,0,0,0,0,0)).2.2)).getD t.toNat (0,0,false,0,0,0,0,0)).2.2.2.1.toNat ((b1.2.1.getD ((b1.1.set t.toNat ((b1.1.getD t.toNat (0,0,false,0,0,0,0,0)).1,((b1.1.getD t.toNat (0,0,false,0,0,0,0,0)).2.1+1),(b1.1.getD t.toNat (0,0,false,0,0,0,0,0)).2.2)).getD t.toNat (0,0,false,0,0,0,0,0)).2.2.2.1.toNat (0,0,0,0,0,0)).1,(b1.2.1.getD ((b1.1.set t.toNat ((b1.1.getD t.toNat (0,0,false,0,0,0,0,0)).1,((b1.1.getD t.toNat (0,0,false,0,0,0,0,0)).2.1+1),(b1.1.getD t.toNat (0,0,false,0,0,0,0,0)).2.2)).getD t.toNat (0,0,false,0,0,0,0,0)).2.2.2.1.toNat (0,0,0,0,0,0)).2.1,(b1.2.1.getD ((b1.1.set t.toNat ((b1.1.getD t.toNat (0,0,false,0,0,0,0,0)).1,((b1.1.getD t.toNat (0,0,false,0,0,0,0,0)).2.1+1),(b1.1.getD t.toNat (0,0,false,0,0,0,0,0)).2.2)).getD t.toNat (0,0,false,0,0,0,0,0)).2.2.2.1.toNat (0,0,0,0,0,0)).2.2.1,(b1.2.1.getD ((b1.1.set t.toNat ((b1.1.getD t.toNat (0,0,false,0,0,0,0,0)).1,((b1.1.getD t.toNat (0,0,false,0,0,0,0,0)).2.1+1),(b1.1.getD t.toNat (0,0,false,0,0,0,0,0)).2.2)).getD t.toNat (0,0,false,0,0,0,0,0)).2.2.2.1.toNat (0,0,0,0,0,0)).2.2.2.1,(b1.2.1.getD ((b1.1.set t.toNat ((b1.1.getD t.toNat (0,0,false,0,0,0,0,0)).1,((b1.1.getD t.toNat (0,0,false,0,0,0,0,0)).2.1+1),(b1.1.getD t.toNat (0,0,false,0,0,0,0,0)).2.2)).getD t.toNat (0,0,false,0,0,0,0,0)).2.2.2.1.toNat (0,0,0,0,0,0)).2.2.2.2.1,((2*p_4)+2))).getD ((b1.1.set t.toNat ((b1.1.getD t.toNat (0,0,false,0,0,0,0,0)).1,((b1.1.getD t.toNat (0,0,false,0,0,0,0,0)).2.1+1),(b1.1.getD t.toNat (0,0,false,0,0,0,0,0)).2.2)).getD t.toNat (0,0,false,0,0,0,0,0)).2.2.2.1.toNat (0,0,0,0,0,0)).2.2.2.2)))
  else
  linealref08_Play_Step_2_k2 t p_3 p_4 b1 ((b1.1.set t.toNat ((b1.1.getD t.toNat (0,0,false,0,0,0,0,0)).1,((b1.1.getD t.toNat (0,0,false,0,0,0,0,0)).2.1+1),(b1.1.getD t.toNat (0,0,false,0,0,0,0,0)).2.2)),p_5,p_6,p_7,b1.2.1)
noncomputable def linealref08_Play_Step_2 (t:Int) (p:List (List (Int×Int×Int×Int))) (p_2:List (List Int)) (p_3:List Int) (p_4:Int) (p_5:Int) (p_6:Int) (p_7:Int) (p_8:List (Int×Int×Bool×Int×Int×Int×Int×Int)) (p_9:ZH) (p_10:List Int):Option ((List (Int×Int×Bool×Int×Int×Int×Int×Int))×Int×Int×Int×ZH×(List Int)) :=
  ck (0≤t) <| ck (t<(p_8.length:Int)) <| ck (InK .i64 (p_4+1)) <| if (!(p_8.getD t.toNat (0,0,false,0,0,0,0,0)).2.2.1)=true then
  ck (InK .i64 ((p_8.getD t.toNat (0,0,false,0,0,0,0,0)).1+1)) <| ck (0≤t) <| ck (t<(p_2.length:Int)) <| ck (InK .i64 (((p_8.set t.toNat (((p_8.getD t.toNat (0,0,false,0,0,0,0,0)).1+1),0,true,(p_9.length:Int),0,1,0,0)).getD t.toNat (0,0,false,0,0,0,0,0)).1 - 1)) <| ck (0≤(((p_8.set t.toNat (((p_8.getD t.toNat (0,0,false,0,0,0,0,0)).1+1),0,true,(p_9.length:Int),0,1,0,0)).getD t.toNat (0,0,false,0,0,0,0,0)).1 - 1)) <| ck ((((p_8.set t.toNat (((p_8.getD t.toNat (0,0,false,0,0,0,0,0)).1+1),0,true,(p_9.length:Int),0,1,0,0)).getD t.toNat (0,0,false,0,0,0,0,0)).1 - 1)<((p_2.getD t.toNat []).length:Int)) <| ck (InK .i64 (2*p_4)) <| ck (InK .i64 ((2*p_4)+1)) <| ck ((p_9.length+1)*48≤140737488355328) <| ck ((p_10.length+1)*8≤140737488355328) <| linealref08_Play_Step_2_k1 t p p_3 p_4 p_5 p_6 p_7 ((p_8.set t.toNat (((p_8.getD t.toNat (0,0,false,0,0,0,0,0)).1+1),0,true,(p_9.length:Int),0,1,0,0)),(p_9++[(t,0,((p_2.getD t.toNat []).getD (((p_8.set t.toNat (((p_8.getD t.toNat (0,0,false,0,0,0,0,0)).1+1),0,true,(p_9.length:Int),0,1,0,0)).getD t.toNat (0,0,false,0,0,0,0,0)).1 - 1).toNat 0),0,((2*p_4)+1),0)]),(p_10++[(-1)]))
  else
  linealref08_Play_Step_2_k1 t p p_3 p_4 p_5 p_6 p_7 (p_8,p_9,p_10)
/- lineal/linealref08.played -/
noncomputable def linealref08_played_k1 (b1:(List (Int×Int×Bool×Int×Int×Int×Int×Int))×Int×Int×Int×Int×ZH×(List Int)):Option (Sum Unit ((List (Int×Int×Bool×Int×Int×Int×Int×Int))×Int×Int×Int×Int×ZH×(List Int))) :=
  some (Sum.inr b1)
noncomputable def linealref08_played_b1 (c:List (List (Int×Int×Int×Int))) (use:List (List Int)) (schedule:List Int) (marks:List Int) (st1:(List (Int×Int×Bool×Int×Int×Int×Int×Int))×Int×Int×Int×Int×ZH×(List Int)×Int):Option (Step ((List (Int×Int×Bool×Int×Int×Int×Int×Int))×Int×Int×Int×Int×ZH×(List Int)×Int) (Sum Unit ((List (Int×Int×Bool×Int×Int×Int×Int×Int))×Int×Int×Int×Int×ZH×(List Int)))) :=
  if (decide (st1.2.2.2.2.2.2.2<(schedule.length:Int)))=true then
  ck (0≤st1.2.2.2.2.2.2.2) <| ck (st1.2.2.2.2.2.2.2<(schedule.length:Int)) <| ck (InK .i64 ((use.length:Int) - 1)) <| (linealref08_within 0 (schedule.getD st1.2.2.2.2.2.2.2.toNat 0) ((use.length:Int) - 1)).bind fun v0_2 =>
  if (!v0_2)=true then
  some (.done (Sum.inl ()))
  else
  ck (0≤st1.2.2.2.2.2.2.2) <| ck (st1.2.2.2.2.2.2.2<(schedule.length:Int)) <| (linealref08_Play_HasLine_2 (schedule.getD st1.2.2.2.2.2.2.2.toNat 0) c use marks st1.2.1 st1.2.2.1 st1.2.2.2.1 st1.2.2.2.2.1 st1.1 st1.2.2.2.2.2.1 st1.2.2.2.2.2.2.1).bind fun v0_3 =>
  if (!v0_3)=true then
  some (.done (Sum.inl ()))
  else
  ck (0≤st1.2.2.2.2.2.2.2) <| ck (st1.2.2.2.2.2.2.2<(schedule.length:Int)) <| (linealref08_Play_Step_2 (schedule.getD st1.2.2.2.2.2.2.2.toNat 0) c use marks st1.2.1 st1.2.2.1 st1.2.2.2.1 st1.2.2.2.2.1 st1.1 st1.2.2.2.2.2.1 st1.2.2.2.2.2.2.1).bind fun v0_4 =>
  ck (InK .i64 (st1.2.2.2.2.2.2.2+1)) <| some (.next (v0_4.1,(st1.2.1+1),v0_4.2.1,v0_4.2.2.1,v0_4.2.2.2.1,v0_4.2.2.2.2.1,v0_4.2.2.2.2.2,(st1.2.2.2.2.2.2.2+1)))
  else
  some (.done (Sum.inr (st1.1,st1.2.1,st1.2.2.1,st1.2.2.2.1,st1.2.2.2.2.1,st1.2.2.2.2.2.1,st1.2.2.2.2.2.2.1)))
noncomputable def linealref08_played (c:List (List (Int×Int×Int×Int))) (use:List (List Int)) (schedule:List Int) (marks:List Int):Option (Sum Unit ((List (Int×Int×Bool×Int×Int×Int×Int×Int))×Int×Int×Int×Int×ZH×(List Int))) :=
  if (decide (12<(schedule.length:Int)))=true then
  some (Sum.inl ())
  else
  (linealref08_Begin c use marks).bind fun v0 =>
  (whileO (linealref08_played_b1 c use schedule marks) ((List.replicate use.length ((0,0,false,0,0,0,0,0):Int×Int×Bool×Int×Int×Int×Int×Int)),0,0,0,0,[],[],0)).bind fun x=>match x with
  | .inl _=>(some (Sum.inl ()))
  | .inr r1=>(linealref08_played_k1 r1)
/- lineal/linealref08.run -/
noncomputable def linealref08_run (c:List (List (Int×Int×Int×Int))) (use:List (List Int)) (schedule:List Int):Option (Sum Int ((List (Int×Int×Bool×Int×Int×Int×Int×Int))×Int×Int×Int×Int×ZH×(List Int))) :=
  (linealref08_asked c use).bind fun v0 =>
  if (!(decide (v0=0)))=true then
  some (Sum.inl v0)
  else
  (linealref08_played c use schedule []).bind fun v0_2=>match v0_2 with
  | .inl v0_3=>(some (Sum.inl 2))
  | .inr v0_4=>(some (Sum.inr v0_4))
/- lineal/linealref08.Run -/
noncomputable def linealref08_Run (c:List (List (Int×Int×Int×Int))) (use:List (List Int)) (schedule:List Int):Option (ZH×Int) :=
  (linealref08_run c use schedule).bind fun v0=>match v0 with
  | .inl v0_2=>(if (!(decide (v0_2=0)))=true then
  some ([],v0_2)
  else
  none)
  | .inr v0_3=>(some (v0_3.2.2.2.2.2.1,0))
/- lineal/linealref02.Same -/
noncomputable def linealref02_Same_k1:Option Bool :=
  some true
noncomputable def linealref02_Same_b1 (a:ZH) (b:ZH) (st1:Int):Option (Step Int (Sum Unit Unit)) :=
  if (decide (st1<(a.length:Int)))=true then
  ck (0≤st1) <| ck (st1<(a.length:Int)) <| ck (0≤st1) <| ck (st1<(b.length:Int)) <| ck (InK .i64 (a.getD st1.toNat (0,0,0,0,0,0)).1) <| ck (InK .i64 (a.getD st1.toNat (0,0,0,0,0,0)).2.1) <| ck (InK .i64 (a.getD st1.toNat (0,0,0,0,0,0)).2.2.1) <| ck (InK .i64 (a.getD st1.toNat (0,0,0,0,0,0)).2.2.2.1) <| ck (InK .i64 (a.getD st1.toNat (0,0,0,0,0,0)).2.2.2.2.1) <| ck (InK .i64 (a.getD st1.toNat (0,0,0,0,0,0)).2.2.2.2.2) <| ck (InK .i64 (b.getD st1.toNat (0,0,0,0,0,0)).1) <| ck (InK .i64 (b.getD st1.toNat (0,0,0,0,0,0)).2.1) <| ck (InK .i64 (b.getD st1.toNat (0,0,0,0,0,0)).2.2.1) <| ck (InK .i64 (b.getD st1.toNat (0,0,0,0,0,0)).2.2.2.1) <| ck (InK .i64 (b.getD st1.toNat (0,0,0,0,0,0)).2.2.2.2.1) <| ck (InK .i64 (b.getD st1.toNat (0,0,0,0,0,0)).2.2.2.2.2) <| if (!(decide ((a.getD st1.toNat (0,0,0,0,0,0))=(b.getD st1.toNat (0,0,0,0,0,0)))))=true then
  some (.done (Sum.inl ()))
  else
  ck (InK .i64 (st1+1)) <| some (.next (st1+1))
  else
  some (.done (Sum.inr ()))
noncomputable def linealref02_Same (a:ZH) (b:ZH):Option Bool :=
  if (!(decide ((a.length:Int)=(b.length:Int))))=true then
  some false
  else
  (whileO (linealref02_Same_b1 a b) 0).bind fun x=>match x with
  | .inl _=>(some false)
  | .inr _=>(linealref02_Same_k1)
/- slices.Clone[[]int,int] -/
/- lineal/code.Cells -/
/- lineal/linealref08.Cells -/
/- (lineal/code.run).left -/
noncomputable def code_run_left_k1 (b1:(List Int)):Option ((List Int)) :=
  some b1
noncomputable def code_run_left_b1 (r0:((List (List (Int×Int×Int×Int)))×(List (List Int)))×(List Int)×(El T80)×(Int×Int×Int)×(El T85)×(El T86)×Int) (st1:(List Int)×Int):Option (Step ((List Int)×Int) ((List Int))) :=
  if (decide (st1.2<(r0.1.2.length:Int)))=true then
  (code_run_hasLine r0 st1.2).bind fun v0 =>
  if v0=true then
  ck ((st1.1.length+1)*8≤140737488355328) <| ck (InK .i64 (st1.2+1)) <| some (.next ((st1.1++[st1.2]),(st1.2+1)))
  else
  ck (InK .i64 (st1.2+1)) <| some (.next (st1.1,(st1.2+1)))
  else
  some (.done st1.1)
noncomputable def code_run_left (r0:((List (List (Int×Int×Int×Int)))×(List (List Int)))×(List Int)×(El T80)×(Int×Int×Int)×(El T85)×(El T86)×Int):Option ((List Int)) :=
  (whileO (code_run_left_b1 r0) ([],0)).bind fun r1 =>
  code_run_left_k1 r1
/- lineal/code.Left -/
noncomputable def code_Left (c:List (List (Int×Int×Int×Int))) (use:List (List Int)) (schedule:List Int):Option ((List Int)×Int) :=
  (code_played c use schedule).bind fun v0 =>
  if (!(decide (v0.2.2.2.2.2.2.2.2.2.2=0)))=true then
  some ([],v0.2.2.2.2.2.2.2.2.2.2)
  else
  (code_run_left ((v0.1,v0.2.1),v0.2.2.1,v0.2.2.2.1,(v0.2.2.2.2.1,v0.2.2.2.2.2.1,v0.2.2.2.2.2.2.1),v0.2.2.2.2.2.2.2.1,v0.2.2.2.2.2.2.2.2.1,v0.2.2.2.2.2.2.2.2.2.1)).bind fun v0_2 =>
  some (v0_2,0)
/- lineal/linealref08.Left -/
noncomputable def linealref08_Left_k1:Option ((List Int)×Int) :=
  some ([],0)
noncomputable def linealref08_Left_b1 (use:List (List Int)) (st1:Unit):Option (Step Unit Unit) :=
  if (decide (0<(use.length:Int)))=true then
  none
  else
  some (.done ())
noncomputable def linealref08_Left_k2 (b2:(List Int)):Option ((List Int)×Int) :=
  some (b2,0)
noncomputable def linealref08_Left_b2 (c:List (List (Int×Int×Int×Int))) (use:List (List Int)) (v0_3:(List (Int×Int×Bool×Int×Int×Int×Int×Int))×Int×Int×Int×Int×ZH×(List Int)) (st2:(List Int)×Int):Option (Step ((List Int)×Int) ((List Int))) :=
  if (decide (st2.2<(use.length:Int)))=true then
  (linealref08_Play_HasLine_2 st2.2 c use [] v0_3.2.1 v0_3.2.2.1 v0_3.2.2.2.1 v0_3.2.2.2.2.1 v0_3.1 v0_3.2.2.2.2.2.1 v0_3.2.2.2.2.2.2).bind fun v0_4 =>
  if v0_4=true then
  ck ((st2.1.length+1)*8≤140737488355328) <| ck (InK .i64 (st2.2+1)) <| some (.next ((st2.1++[st2.2]),(st2.2+1)))
  else
  ck (InK .i64 (st2.2+1)) <| some (.next (st2.1,(st2.2+1)))
  else
  some (.done st2.1)
noncomputable def linealref08_Left (c:List (List (Int×Int×Int×Int))) (use:List (List Int)) (schedule:List Int):Option ((List Int)×Int) :=
  (linealref08_run c use schedule).bind fun v0=>match v0 with
  | .inl v0_2=>(if (!(decide (v0_2=0)))=true then
  some ([],v0_2)
  else
  (whileO (linealref08_Left_b1 use) ()).bind fun _ =>
  linealref08_Left_k1)
  | .inr v0_3=>((whileO (linealref08_Left_b2 c use v0_3) ([],0)).bind fun r2 =>
  linealref08_Left_k2 r2)
/- lineal/linealref08.SameInts -/
/- lineal/lineallaw08.CodeRuns -/
/- lineal/linealref01.isTable -/
noncomputable def linealref01_isTable_k1:Option Bool :=
  some true
noncomputable def linealref01_isTable_k2 (st1:Int):Option (Step Int (Sum Unit Unit)) :=
  ck (InK .i64 (st1+1)) <| some (.next (st1+1))
noncomputable def linealref01_isTable_b2 (l:List (List Int)) (limit:Int) (st1:Int) (st2:Int):Option (Step Int (Sum Unit Unit)) :=
  if (decide (st2<((l.getD st1.toNat []).length:Int)))=true then
  ck (0≤st2) <| ck (st2<((l.getD st1.toNat []).length:Int)) <| if (decide (((l.getD st1.toNat []).getD st2.toNat 0)<0))=true then
  some (.done (Sum.inl ()))
  else
  if (decide (limit≤((l.getD st1.toNat []).getD st2.toNat 0)))=true then
  some (.done (Sum.inl ()))
  else
  ck (InK .i64 (st2+1)) <| some (.next (st2+1))
  else
  some (.done (Sum.inr ()))
noncomputable def linealref01_isTable_b1 (s:Int×Int×(List (List Int))×(List (List Int))) (l:List (List Int)) (limit:Int) (st1:Int):Option (Step Int (Sum Unit Unit)) :=
  if (decide (st1<(l.length:Int)))=true then
  ck (0≤st1) <| ck (st1<(l.length:Int)) <| if (!(decide (((l.getD st1.toNat []).length:Int)=s.2.1)))=true then
  some (.done (Sum.inl ()))
  else
  (whileO (linealref01_isTable_b2 l limit st1) 0).bind fun x=>match x with
  | .inl _=>(some (.done (Sum.inl ())))
  | .inr _=>(linealref01_isTable_k2 st1)
  else
  some (.done (Sum.inr ()))
noncomputable def linealref01_isTable (s:Int×Int×(List (List Int))×(List (List Int))) (l:List (List Int)) (limit:Int):Option Bool :=
  if (!(decide ((l.length:Int)=s.1)))=true then
  some false
  else
  (whileO (linealref01_isTable_b1 s l limit) 0).bind fun x=>match x with
  | .inl _=>(some false)
  | .inr _=>(linealref01_isTable_k1)
/- lineal/linealref01.Valid -/
noncomputable def linealref01_Valid (s:Int×Int×(List (List Int))×(List (List Int))):Option Bool :=
  if (decide (1≤s.1))=true then
  if (decide (s.1≤8))=true then
  if (decide (1≤s.2.1))=true then
  if (decide (s.2.1≤4))=true then
  (linealref01_isTable s s.2.2.1 s.1).bind fun v0 =>
  if v0=true then
  (linealref01_isTable s s.2.2.2 6).bind fun v0_2 =>
  some v0_2
  else
  some false
  else
  some false
  else
  some false
  else
  some false
  else
  some false
/- lineal/lineallaw08.IsCase -/
noncomputable def lineallaw08_IsCase (x0:(Int×Int×(List (List Int))×(List (List Int)))×(List (List (Int×Int×Int×Int)))×(List (List Int))):Option Bool :=
  (lineallaw08_Large x0).bind fun v0 =>
  if (!v0)=true then
  (linealref08_Valid x0.2.1).bind fun v0_2 =>
  if v0_2=true then
  (linealref01_Valid x0.1).bind fun v0_3 =>
  if v0_3=true then
  if (decide (x0.1.2.1=(x0.2.1.length:Int)))=true then
  (linealref08_IsUse x0.2.1 x0.2.2).bind fun v0_4 =>
  some v0_4
  else
  some false
  else
  some false
  else
  some false
  else
  some false
/- lineal/lineallaw08.schedule -/
noncomputable def lineallaw08_schedule_k1 (x0:(Int×Int×(List (List Int))×(List (List Int)))×(List (List (Int×Int×Int×Int)))×(List (List Int))) (b2_2:(List Int)):Option ((List Int)×Bool×Bool) :=
  (code_Left x0.2.1 x0.2.2 b2_2).bind fun v0_2 =>
  some (b2_2,(decide ((v0_2.1.length:Int)=0)),(decide (v0_2.2=0)))
noncomputable def lineallaw08_schedule_k2 (x0:(Int×Int×(List (List Int))×(List (List Int)))×(List (List (Int×Int×Int×Int)))×(List (List Int))) (st1:(List Int)×Int) (b2:Int):Option (Step ((List Int)×Int) (Sum ((List Int)×Bool×Bool) ((List Int)))) :=
  if (decide (b2<0))=true then
  some (.done (Sum.inl ([],false,false)))
  else
  if (decide ((x0.2.2.length:Int)≤b2))=true then
  some (.done (Sum.inl ([],false,false)))
  else
  ck ((st1.1.length+1)*8≤140737488355328) <| ck (InK .i64 (st1.2+1)) <| some (.next ((st1.1++[b2]),(st1.2+1)))
noncomputable def lineallaw08_schedule_b1 (x0:(Int×Int×(List (List Int))×(List (List Int)))×(List (List (Int×Int×Int×Int)))×(List (List Int))) (picks:List Int) (steps:Int) (st1:(List Int)×Int):Option (Step ((List Int)×Int) (Sum ((List Int)×Bool×Bool) ((List Int)))) :=
  if (decide (st1.2<steps))=true then
  (code_Left x0.2.1 x0.2.2 st1.1).bind fun v0 =>
  if (!(decide (v0.2=0)))=true then
  some (.done (Sum.inl ([],false,false)))
  else
  if (decide ((v0.1.length:Int)=0))=true then
  some (.done (Sum.inl (st1.1,true,true)))
  else
  ck (0<(v0.1.length:Int)) <| if (decide (st1.2<(picks.length:Int)))=true then
  ck (0≤st1.2) <| ck (st1.2<(picks.length:Int)) <| ck (InK .i64 (picks.getD st1.2.toNat 0)) <| ck (0≤(picks.getD st1.2.toNat 0)) <| ck (0<(v0.1.length:Int)) <| ck (0≤((picks.getD st1.2.toNat 0) % (v0.1.length:Int))) <| ck (((picks.getD st1.2.toNat 0) % (v0.1.length:Int))<(v0.1.length:Int)) <| lineallaw08_schedule_k2 x0 st1 (v0.1.getD ((picks.getD st1.2.toNat 0) % (v0.1.length:Int)).toNat 0)
  else
  lineallaw08_schedule_k2 x0 st1 (v0.1.getD 0 0)
  else
  some (.done (Sum.inr st1.1))
noncomputable def lineallaw08_schedule (x0:(Int×Int×(List (List Int))×(List (List Int)))×(List (List (Int×Int×Int×Int)))×(List (List Int))) (picks:List Int) (steps:Int):Option ((List Int)×Bool×Bool) :=
  (whileO (lineallaw08_schedule_b1 x0 picks steps) ([],0)).bind fun x=>match x with
  | .inl r1=>(some r1)
  | .inr r1_2=>(lineallaw08_schedule_k1 x0 r1_2)
/- lineal/history.within -/
noncomputable def history_within (n:Int) (least:Int) (most:Int):Option Bool :=
  if (decide (least≤n))=true then
  some (decide (n≤most))
  else
  some false
/- lineal/history.isCall -/
noncomputable def history_isCall_k2 (c:Int×Int×Int×Int×Int×Int) (b1:Bool) (b2:Bool):Option Bool :=
  (history_within c.1 0 3).bind fun v0 =>
  if v0=true then
  (history_within c.2.1 0 1).bind fun v0_2 =>
  if v0_2=true then
  (history_within c.2.2.1 0 3).bind fun v0_3 =>
  if v0_3=true then
  (history_within c.2.2.2.1 0 9).bind fun v0_4 =>
  if v0_4=true then
  (history_within c.2.2.2.2.1 1 100).bind fun v0_5 =>
  if v0_5=true then
  if b1=true then
  some true
  else
  some b2
  else
  some false
  else
  some false
  else
  some false
  else
  some false
  else
  some false
noncomputable def history_isCall_k1 (c:Int×Int×Int×Int×Int×Int) (b1:Bool):Option Bool :=
  if (decide (c.2.2.2.2.1<c.2.2.2.2.2))=true then
  history_isCall_k2 c b1 (decide (c.2.2.2.2.2≤100))
  else
  history_isCall_k2 c b1 false
noncomputable def history_isCall (c:Int×Int×Int×Int×Int×Int):Option Bool :=
  if (decide (c.2.2.2.2.2=0))=true then
  history_isCall_k1 c (decide (c.2.2.2.1=0))
  else
  history_isCall_k1 c false
/- lineal/history.before -/
noncomputable def history_before (a:Int×Int×Int×Int×Int×Int) (b:Int×Int×Int×Int×Int×Int):Option Bool :=
  if (!(decide (a.2.2.2.2.2=0)))=true then
  some (decide (a.2.2.2.2.2<b.2.2.2.2.1))
  else
  some false
/- lineal/history.apart -/
noncomputable def history_apart_k1 (a:Int×Int×Int×Int×Int×Int) (b:Int×Int×Int×Int×Int×Int):Option Bool :=
  if (!(decide (a.1=b.1)))=true then
  some true
  else
  (history_before a b).bind fun v0 =>
  if v0=true then
  some true
  else
  (history_before b a).bind fun v0_2 =>
  some v0_2
noncomputable def history_apart (a:Int×Int×Int×Int×Int×Int) (b:Int×Int×Int×Int×Int×Int):Option Bool :=
  if (decide (a.2.2.2.2.1=b.2.2.2.2.1))=true then
  some false
  else
  if (decide (a.2.2.2.2.1=b.2.2.2.2.2))=true then
  some false
  else
  if (decide (a.2.2.2.2.2=b.2.2.2.2.1))=true then
  some false
  else
  if (decide (a.2.2.2.2.2=b.2.2.2.2.2))=true then
  if (!(decide (a.2.2.2.2.2=0)))=true then
  some false
  else
  history_apart_k1 a b
  else
  history_apart_k1 a b
/- lineal/history.Valid -/
noncomputable def history_Valid_k1:Option Bool :=
  some true
noncomputable def history_Valid_k2 (st1:Int):Option (Step Int (Sum Unit Unit)) :=
  ck (InK .i64 (st1+1)) <| some (.next (st1+1))
noncomputable def history_Valid_b2 (h0:ZH) (st1:Int) (st2:Int):Option (Step Int (Sum Unit Unit)) :=
  if (decide (st2<((h0.take st1.toNat).length:Int)))=true then
  ck (0≤st2) <| ck (st2<((h0.take st1.toNat).length:Int)) <| (history_apart (h0.getD st1.toNat (0,0,0,0,0,0)) ((h0.take st1.toNat).getD st2.toNat (0,0,0,0,0,0))).bind fun v0_2 =>
  if (!v0_2)=true then
  some (.done (Sum.inl ()))
  else
  ck (InK .i64 (st2+1)) <| some (.next (st2+1))
  else
  some (.done (Sum.inr ()))
noncomputable def history_Valid_b1 (h0:ZH) (st1:Int):Option (Step Int (Sum Unit Unit)) :=
  if (decide (st1<(h0.length:Int)))=true then
  ck (0≤st1) <| ck (st1<(h0.length:Int)) <| (history_isCall (h0.getD st1.toNat (0,0,0,0,0,0))).bind fun v0 =>
  if (!v0)=true then
  some (.done (Sum.inl ()))
  else
  ck (0≤st1) <| ck (st1≤(h0.length:Int)) <| (whileO (history_Valid_b2 h0 st1) 0).bind fun x=>match x with
  | .inl _=>(some (.done (Sum.inl ())))
  | .inr _=>(history_Valid_k2 st1)
  else
  some (.done (Sum.inr ()))
noncomputable def history_Valid (h0:ZH):Option Bool :=
  if (decide (8<(h0.length:Int)))=true then
  some false
  else
  (whileO (history_Valid_b1 h0) 0).bind fun x=>match x with
  | .inl _=>(some false)
  | .inr _=>(history_Valid_k1)
/- lineal/history.check -/
noncomputable def history_check (h0:ZH) (arguments:Bool):Option Int :=
  (history_Valid h0).bind fun v0 =>
  if (!v0)=true then
  some 20
  else
  if (!arguments)=true then
  some 2
  else
  some 0
/- lineal/history.Until$1$1 -/
noncomputable def history_Until_1_1 (c:Int×Int×Int×Int×Int×Int) (a1:Int):Option Unit :=
  some ()
/- lineal/history.those -/
noncomputable def history_those_k1 (b1:ZH):Option (ZH) :=
  some b1
noncomputable def history_those_b1 (h0:ZH) (c0:Int) (st1:ZH×Int):Option (Step (ZH×Int) (ZH)) :=
  if (decide (st1.2<(h0.length:Int)))=true then
  ck (0≤st1.2) <| ck (st1.2<(h0.length:Int)) <| (history_Until_1_1 (h0.getD st1.2.toNat (0,0,0,0,0,0)) c0).bind fun v0 =>
  if (decide ((h0.getD st1.2.toNat (0,0,0,0,0,0)).2.2.2.2.1≤c0))=true then
  ck ((st1.1.length+1)*48≤140737488355328) <| ck (InK .i64 (st1.2+1)) <| some (.next ((st1.1++[(h0.getD st1.2.toNat (0,0,0,0,0,0))]),(st1.2+1)))
  else
  ck (InK .i64 (st1.2+1)) <| some (.next (st1.1,(st1.2+1)))
  else
  some (.done st1.1)
noncomputable def history_those (h0:ZH) (c0:Int):Option (ZH) :=
  (whileO (history_those_b1 h0 c0) ([],0)).bind fun r1 =>
  history_those_k1 r1
/- lineal/history.Until$1 -/
noncomputable def history_Until_1_k1 (b1:ZH):Option (ZH) :=
  some b1
noncomputable def history_Until_1_b1 (a1:Int) (v0:ZH) (st1:ZH×Int):Option (Step (ZH×Int) (ZH)) :=
  if (decide (st1.2<(v0.length:Int)))=true then
  ck (0≤st1.2) <| ck (st1.2<(st1.1.length:Int)) <| if (decide (a1<(st1.1.getD st1.2.toNat (0,0,0,0,0,0)).2.2.2.2.2))=true then
  ck (0≤st1.2) <| ck (st1.2<(st1.1.length:Int)) <| ck (0≤st1.2) <| ck (st1.2<((st1.1.set st1.2.toNat ((st1.1.getD st1.2.toNat (0,0,0,0,0,0)).1,(st1.1.getD st1.2.toNat (0,0,0,0,0,0)).2.1,(st1.1.getD st1.2.toNat (0,0,0,0,0,0)).2.2.1,(st1.1.getD st1.2.toNat (0,0,0,0,0,0)).2.2.2.1,(st1.1.getD st1.2.toNat (0,0,0,0,0,0)).2.2.2.2.1,0)).length:Int)) <| ck (InK .i64 (st1.2+1)) <| some (.next (((st1.1.set st1.2.toNat ((st1.1.getD st1.2.toNat (0,0,0,0,0,0)).1,(st1.1.getD st1.2.toNat (0,0,0,0,0,0)).2.1,(st1.1.getD st1.2.toNat (0,0,0,0,0,0)).2.2.1,(st1.1.getD st1.2.toNat (0,0,0,0,0,0)).2.2.2.1,(st1.1.getD st1.2.toNat (0,0,0,0,0,0)).2.2.2.2.1,0)).set st1.2.toNat (((st1.1.set st1.2.toNat ((st1.1.getD st1.2.toNat (0,0,0,0,0,0)).1,(st1.1.getD st1.2.toNat (0,0,0,0,0,0)).2.1,(st1.1.getD st1.2.toNat (0,0,0,0,0,0)).2.2.1,(st1.1.getD st1.2.toNat (0,0,0,0,0,0)).2.2.2.1,(st1.1.getD st1.2.toNat (0,0,0,0,0,0)).2.2.2.2.1,0)).getD st1.2.toNat (0,0,0,0,0,0)).1,((st1.1.set st1.2.toNat ((st1.1.getD st1.2.toNat (0,0,0,0,0,0)).1,(st1.1.getD st1.2.toNat (0,0,0,0,0,0)).2.1,(st1.1.getD st1.2.toNat (0,0,0,0,0,0)).2.2.1,(st1.1.getD st1.2.toNat (0,0,0,0,0,0)).2.2.2.1,(st1.1.getD st1.2.toNat (0,0,0,0,0,0)).2.2.2.2.1,0)).getD st1.2.toNat (0,0,0,0,0,0)).2.1,((st1.1.set st1.2.toNat ((st1.1.getD st1.2.toNat (0,0,0,0,0,0)).1,(st1.1.getD st1.2.toNat (0,0,0,0,0,0)).2.1,(st1.1.getD st1.2.toNat (0,0,0,0,0,0)).2.2.1,(st1.1.getD st1.2.toNat (0,0,0,0,0,0)).2.2.2.1,(st1.1.getD st1.2.toNat (0,0,0,0,0,0)).2.2.2.2.1,0)).getD st1.2.toNat (0,0,0,0,0,0)).2.2.1,0,((st1.1.set st1.2.toNat ((st1.1.getD st1.2.toNat (0,0,0,0,0,0)).1,(st1.1.getD st1.2.toNat (0,0,0,0,0,0)).2.1,(st1.1.getD st1.2.toNat (0,0,0,0,0,0)).2.2.1,(st1.1.getD st1.2.toNat (0,0,0,0,0,0)).2.2.2.1,(st1.1.getD st1.2.toNat (0,0,0,0,0,0)).2.2.2.2.1,0)).getD st1.2.toNat (0,0,0,0,0,0)).2.2.2.2)),(st1.2+1)))
  else
  ck (InK .i64 (st1.2+1)) <| some (.next (st1.1,(st1.2+1)))
  else
  some (.done st1.1)
noncomputable def history_Until_1 (a0:ZH) (a1:Int):Option (ZH) :=
  (history_those a0 a1).bind fun v0 =>
  (whileO (history_Until_1_b1 a1 v0) (v0,0)).bind fun r1 =>
  history_Until_1_k1 r1
/- lineal/history.told[[]lineal/api.Call] -/
noncomputable def history_told (err:Int) (c0:ZH) (c1:Int):Option (ZH×Int) :=
  if (!(decide (err=0)))=true then
  some ([],err)
  else
  (history_Until_1 c0 c1).bind fun v0 =>
  some (v0,0)
/- lineal/history.Until -/
noncomputable def history_Until (h0:ZH) (moment:Int):Option (ZH×Int) :=
  (history_within moment 0 100).bind fun v0 =>
  (history_check h0 v0).bind fun v0_2 =>
  (history_told v0_2 h0 moment).bind fun v0_3 =>
  some v0_3
/- lineal/history.By$1$1 -/
noncomputable def history_By_1_1 (c:Int×Int×Int×Int×Int×Int) (a1:Int):Option Unit :=
  some ()
/- lineal/history.those -/
noncomputable def history_those_2_k1 (b1:ZH):Option (ZH) :=
  some b1
noncomputable def history_those_2_b1 (h0:ZH) (c0:Int) (st1:ZH×Int):Option (Step (ZH×Int) (ZH)) :=
  if (decide (st1.2<(h0.length:Int)))=true then
  ck (0≤st1.2) <| ck (st1.2<(h0.length:Int)) <| (history_By_1_1 (h0.getD st1.2.toNat (0,0,0,0,0,0)) c0).bind fun v0 =>
  if (decide ((h0.getD st1.2.toNat (0,0,0,0,0,0)).1=c0))=true then
  ck ((st1.1.length+1)*48≤140737488355328) <| ck (InK .i64 (st1.2+1)) <| some (.next ((st1.1++[(h0.getD st1.2.toNat (0,0,0,0,0,0))]),(st1.2+1)))
  else
  ck (InK .i64 (st1.2+1)) <| some (.next (st1.1,(st1.2+1)))
  else
  some (.done st1.1)
noncomputable def history_those_2 (h0:ZH) (c0:Int):Option (ZH) :=
  (whileO (history_those_2_b1 h0 c0) ([],0)).bind fun r1 =>
  history_those_2_k1 r1
/- lineal/history.By$1 -/
noncomputable def history_By_1 (a0:ZH) (a1:Int):Option (ZH) :=
  (history_those_2 a0 a1).bind fun v0 =>
  some v0
/- lineal/history.told[[]lineal/api.Call] -/
noncomputable def history_told_2 (err:Int) (c0:ZH) (c1:Int):Option (ZH×Int) :=
  if (!(decide (err=0)))=true then
  some ([],err)
  else
  (history_By_1 c0 c1).bind fun v0 =>
  some (v0,0)
/- lineal/history.By -/
noncomputable def history_By (h0:ZH) (thread:Int):Option (ZH×Int) :=
  (history_within thread 0 3).bind fun v0 =>
  (history_check h0 v0).bind fun v0_2 =>
  (history_told_2 v0_2 h0 thread).bind fun v0_3 =>
  some v0_3
/- lineal/lineallaw08.CodeBegins -/
noncomputable def lineallaw08_CodeBegins_k1:Option Bool :=
  (lineallaw08_Sane).bind fun v0_10 =>
  some v0_10
noncomputable def lineallaw08_CodeBegins_k2 (st1:Bool×Int) (b3_2:Bool):Option (Step (Bool×Int) (Sum Unit Unit)) :=
  ck (InK .i64 (st1.2+1)) <| some (.next (b3_2,(st1.2+1)))
noncomputable def lineallaw08_CodeBegins_b2 (x0:(Int×Int×(List (List Int))×(List (List Int)))×(List (List (Int×Int×Int×Int)))×(List (List Int))) (st1:Bool×Int) (v0_9:ZH×Int) (st2:Bool×Int):Option (Step (Bool×Int) (Sum Unit Bool)) :=
  if (decide (st2.2<(v0_9.1.length:Int)))=true then
  ck (0≤st2.2) <| ck (st2.2<(v0_9.1.length:Int)) <| ck (0≤st1.2) <| ck (st1.2<(x0.2.2.length:Int)) <| ck (0≤st2.2) <| ck (st2.2<((x0.2.2.getD st1.2.toNat []).length:Int)) <| if (!(decide ((v0_9.1.getD st2.2.toNat (0,0,0,0,0,0)).2.2.1=((x0.2.2.getD st1.2.toNat []).getD st2.2.toNat 0))))=true then
  some (.done (Sum.inl ()))
  else
  ck (0≤st2.2) <| ck (st2.2<(v0_9.1.length:Int)) <| if (decide ((v0_9.1.getD st2.2.toNat (0,0,0,0,0,0)).2.2.2.2.2=0))=true then
  if st2.1=true then
  some (.done (Sum.inl ()))
  else
  ck (InK .i64 ((v0_9.1.length:Int) - 1)) <| if (!(decide (st2.2=((v0_9.1.length:Int) - 1))))=true then
  some (.done (Sum.inl ()))
  else
  ck (InK .i64 (st2.2+1)) <| some (.next (false,(st2.2+1)))
  else
  ck (InK .i64 (st2.2+1)) <| some (.next (st2.1,(st2.2+1)))
  else
  some (.done (Sum.inr st2.1))
noncomputable def lineallaw08_CodeBegins_k3 (x0:(Int×Int×(List (List Int))×(List (List Int)))×(List (List (Int×Int×Int×Int)))×(List (List Int))) (st1:Bool×Int) (v0_9:ZH×Int) (b3:Bool):Option (Step (Bool×Int) (Sum Unit Unit)) :=
  (whileO (lineallaw08_CodeBegins_b2 x0 st1 v0_9) (b3,0)).bind fun x=>match x with
  | .inl _=>(some (.done (Sum.inl ())))
  | .inr r2=>(lineallaw08_CodeBegins_k2 st1 r2)
noncomputable def lineallaw08_CodeBegins_b1 (x0:(Int×Int×(List (List Int))×(List (List Int)))×(List (List (Int×Int×Int×Int)))×(List (List Int))) (v0_5:ZH×Int) (st1:Bool×Int):Option (Step (Bool×Int) (Sum Unit Unit)) :=
  if (decide (st1.2<(x0.2.2.length:Int)))=true then
  (history_By v0_5.1 st1.2).bind fun v0_9 =>
  if (!(decide (v0_9.2=0)))=true then
  some (.done (Sum.inl ()))
  else
  ck (0≤st1.2) <| ck (st1.2<(x0.2.2.length:Int)) <| if (decide (((x0.2.2.getD st1.2.toNat []).length:Int)<(v0_9.1.length:Int)))=true then
  some (.done (Sum.inl ()))
  else
  if st1.1=true then
  ck (0≤st1.2) <| ck (st1.2<(x0.2.2.length:Int)) <| if (!(decide ((v0_9.1.length:Int)=((x0.2.2.getD st1.2.toNat []).length:Int))))=true then
  some (.done (Sum.inl ()))
  else
  lineallaw08_CodeBegins_k3 x0 st1 v0_9 true
  else
  lineallaw08_CodeBegins_k3 x0 st1 v0_9 false
  else
  some (.done (Sum.inr ()))
noncomputable def lineallaw08_CodeBegins (x0:(Int×Int×(List (List Int))×(List (List Int)))×(List (List (Int×Int×Int×Int)))×(List (List Int))) (picks:List Int) (part:Int):Option Bool :=
  (lineallaw08_IsCase x0).bind fun v0 =>
  if (!v0)=true then
  (lineallaw08_Sane).bind fun v0_2 =>
  some v0_2
  else
  if (decide (60<(picks.length:Int)))=true then
  (lineallaw08_Sane).bind fun v0_3 =>
  some v0_3
  else
  (lineallaw08_schedule x0 picks 12).bind fun v0_4 =>
  if (!v0_4.2.2)=true then
  some false
  else
  (code_Run x0.2.1 x0.2.2 v0_4.1).bind fun v0_5 =>
  ck (InK .i64 part) <| ck (InK .i64 ((v0_4.1.length:Int)+1)) <| ck (0≤part) <| ck (0<((v0_4.1.length:Int)+1)) <| ck (0≤(part % ((v0_4.1.length:Int)+1))) <| ck ((part % ((v0_4.1.length:Int)+1))≤(v0_4.1.length:Int)) <| (code_Run x0.2.1 x0.2.2 (v0_4.1.take (part % ((v0_4.1.length:Int)+1)).toNat)).bind fun v0_6 =>
  ck (InK .i64 (2*(part % ((v0_4.1.length:Int)+1)))) <| (history_Until v0_5.1 (2*(part % ((v0_4.1.length:Int)+1)))).bind fun v0_7 =>
  if (!(decide (v0_5.2=0)))=true then
  some false
  else
  if (!(decide (v0_6.2=0)))=true then
  some false
  else
  if (!(decide (v0_7.2=0)))=true then
  some false
  else
  (linealref02_Same v0_6.1 v0_7.1).bind fun v0_8 =>
  if (!v0_8)=true then
  some false
  else
  (whileO (lineallaw08_CodeBegins_b1 x0 v0_5) (v0_4.2.1,0)).bind fun x=>match x with
  | .inl _=>(some false)
  | .inr _=>(lineallaw08_CodeBegins_k1)
/- (lineal/spec.machine).isState -/
/- lineal/spec.all -/
/- (lineal/spec.machine).isTable -/
/- lineal/spec.isAnswer -/
/- lineal/spec.all -/
/- (lineal/spec.machine).isTable -/
/- lineal/spec.Valid -/
/- lineal/code.checkSpec -/
/- lineal/spec.checked -/
/- (lineal/spec.machine).isCall -/
/- lineal/spec.all -/
/- (lineal/spec.machine).isWord -/
/- (lineal/spec.machine).run -/
/- lineal/spec.Run -/
/- (lineal/code.program).runs -/
/- (lineal/code.run).isOver -/
/- slices.Equal[[]int,int] -/
/- slices.Backward[[]int,int] -/
/- slices.Backward[[]int,int]$1 -/
/- (lineal/code.program).runs$1 -/
/- lineal/code.Follows -/
/- lineal/linealref08.isSpec -/
/- (*lineal/linealref08.Play).Over -/
/- (*lineal/linealref08.Play).Over -/
/- lineal/linealref08.Follows -/
/- slices.Clone[[]lineal/api.Line,lineal/api.Line] -/
/- lineal/code.exchanged$1 -/
/- lineal/code.exchanged -/
/- lineal/code.Swapped -/
/- lineal/linealref08.other -/
/- lineal/linealref08.Swapped -/
/- lineal/linealref08.SameCode -/
/- lineal/lineallaw08.CodeFollows -/
/- lineal/code.runsOf -/
/- cmp.isNaN[int] -/
/- cmp.Compare[int] -/
/- cmp.Or[int] -/
/- lineal/code.compareCalls -/
/- slices.CompareFunc[[]lineal/api.Call,[]lineal/api.Call,lineal/api.Call,lineal/api.Call] -/
/- lineal/code.compareHistories -/
/- slices.insertionSortCmpFunc[[]lineal/api.Call] -/
/- slices.pdqsortCmpFunc[[]lineal/api.Call] -/
/- slices.SortFunc[[][]lineal/api.Call,[]lineal/api.Call] -/
/- slices.Equal[[]lineal/api.Call,lineal/api.Call] -/
/- slices.CompactFunc[[][]lineal/api.Call,[]lineal/api.Call] -/
/- lineal/code.Histories -/
/- lineal/linealref08.SameHistories -/
/- lineal/code.Schedules -/
/- lineal/lineallaw08.CodeTurns -/
/- lineal/history.checkSpecs -/
/- lineal/history.fits -/
/- lineal/history.checkFor -/
/- lineal/history.newSearch -/
/- (lineal/history.place).has -/
/- (lineal/history.search).full -/
/- (lineal/history.search).steps -/
/- lineal/history.inTime -/
/- (lineal/history.search).ready -/
/- (*lineal/history.states).answer -/
/- (*lineal/history.states).allow -/
/- (lineal/history.search).steps$1 -/
/- (lineal/history.search).count -/
/- lineal/history.Linear$1 -/
/- lineal/history.told[bool] -/
/- lineal/history.told[bool] -/
/- lineal/history.Linear -/
/- (lineal/code.run).breaks -/
/- lineal/code.Break -/
/- lineal/code.Sound -/
/- lineal/code.Breaks -/
/- lineal/lineallaw08.CodeEither -/
end Go.Proofs.Ytenchhmcjmjlbaa
