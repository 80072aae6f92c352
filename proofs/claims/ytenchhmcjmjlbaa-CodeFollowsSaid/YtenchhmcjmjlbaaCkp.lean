import Derived.Test.YtenchhmcjmjlbaaTyk
import Derived.Test.YtenchhmcjmjlbaaTbk
namespace Go.Proofs.Ytenchhmcjmjlbaa
open Go.RowKit
set_option linter.unusedSimpArgs false
set_option linter.unusedVariables false
set_option linter.constructorNameAsVariable false
abbrev ZS:Type:=List (Int×Int×(List (List Int))×(List (List Int)))
abbrev ZH:Type:=List (Int×Int×Int×Int×Int×Int)
abbrev ZM:Type:=List (((Int×Int)×Int)×Int)
abbrev Y0:Ty:=(.pair .i (.pair .i (.pair .i (.pair .i (.pair .i .i)))))
attribute [go_sem] Y0
abbrev Y1:Ty:=(.pair .i (.pair .bool (.pair .i (.pair .i (.pair .i (.pair .i (.pair .i .i)))))))
attribute [go_sem] Y1
abbrev Y2:Ty:=(.pair .i (.pair .i (.pair .bool (.pair .i (.pair .i (.pair .i (.pair .i .i)))))))
attribute [go_sem] Y2
abbrev Y3:Ty:=(.pair .i (.pair .i (.pair (.sl (.sl .i)) (.sl (.sl .i)))))
attribute [go_sem] Y3
abbrev Y4:Ty:=(.pair .i (.pair .i (.pair .i .i)))
attribute [go_sem] Y4
abbrev Y5:Ty:=(.pair (.pair (.sl (.sl (.pair .i (.pair .i (.pair .i .i))))) (.sl (.sl .i))) (.pair (.sl .i) (.pair T80 (.pair (.pair .i (.pair .i .i)) (.pair T85 (.pair T86 .i))))))
attribute [go_sem] Y5
abbrev Y6:Ty:=(.pair (.pair .i .i) (.int .u64))
attribute [go_sem] Y6
/- lineal/lineallaw02.Large -/
noncomputable def P9 (specs:ZS):Option Bool :=
  some (decide (5<(specs.length:Int)))
noncomputable def L1 (st1:Int):Option (Step Int (Sum Unit Unit)) :=
  ck (InK .i64 (st1+1)) <| some (.next (st1+1))
noncomputable def y8 (specs:ZS) (st1:Int) (st3:Int):Option (Step Int (Sum Unit Unit)) :=
  if (decide (st3<((specs.getD st1.toNat (0,0,[],[])).2.2.2.length:Int)))=true then
  ck (0≤st3) <| ck (st3<((specs.getD st1.toNat (0,0,[],[])).2.2.2.length:Int)) <| if (decide (20<(((specs.getD st1.toNat (0,0,[],[])).2.2.2.getD st3.toNat []).length:Int)))=true then
  some (.done (Sum.inl ()))
  else
  ck (InK .i64 (st3+1)) <| some (.next (st3+1))
  else
  some (.done (Sum.inr ()))
noncomputable def K9 (specs:ZS) (st1:Int):Option (Step Int (Sum Unit Unit)) :=
  (i7 (y8 specs st1) 0).bind fun x=>match x with
  | .inl _=>(some (.done (Sum.inl ())))
  | .inr _=>(L1 st1)
noncomputable def y9 (specs:ZS) (st1:Int) (st2:Int):Option (Step Int (Sum Unit Unit)) :=
  if (decide (st2<((specs.getD st1.toNat (0,0,[],[])).2.2.1.length:Int)))=true then
  ck (0≤st2) <| ck (st2<((specs.getD st1.toNat (0,0,[],[])).2.2.1.length:Int)) <| if (decide (20<(((specs.getD st1.toNat (0,0,[],[])).2.2.1.getD st2.toNat []).length:Int)))=true then
  some (.done (Sum.inl ()))
  else
  ck (InK .i64 (st2+1)) <| some (.next (st2+1))
  else
  some (.done (Sum.inr ()))
noncomputable def z5 (specs:ZS) (st1:Int):Option (Step Int (Sum Unit Unit)) :=
  if (decide (st1<(specs.length:Int)))=true then
  ck (0≤st1) <| ck (st1<(specs.length:Int)) <| if (decide (20<((specs.getD st1.toNat (0,0,[],[])).2.2.1.length:Int)))=true then
  some (.done (Sum.inl ()))
  else
  if (decide (20<((specs.getD st1.toNat (0,0,[],[])).2.2.2.length:Int)))=true then
  some (.done (Sum.inl ()))
  else
  (i7 (y9 specs st1) 0).bind fun x=>match x with
  | .inl _=>(some (.done (Sum.inl ())))
  | .inr _=>(K9 specs st1)
  else
  some (.done (Sum.inr ()))
noncomputable def L2 (specs:ZS):Option Bool :=
  (i7 (z5 specs) 0).bind fun x=>match x with
  | .inl _=>(some true)
  | .inr _=>(P9 specs)
/- lineal/lineallaw08.Large -/
noncomputable def K6 (x0:(Int×Int×(List (List Int))×(List (List Int)))×(List (List (Int×Int×Int×Int)))×(List (List Int))):Option Bool :=
  (L2 [x0.1]).bind fun v0 =>
  if v0=true then
  some true
  else
  if (decide (10<(x0.2.1.length:Int)))=true then
  some true
  else
  some (decide (10<(x0.2.2.length:Int)))
noncomputable def y6 (x0:(Int×Int×(List (List Int))×(List (List Int)))×(List (List (Int×Int×Int×Int)))×(List (List Int))) (st2:Int):Option (Step Int (Sum Unit Unit)) :=
  if (decide (st2<(x0.2.2.length:Int)))=true then
  ck (0≤st2) <| ck (st2<(x0.2.2.length:Int)) <| if (decide (20<((x0.2.2.getD st2.toNat []).length:Int)))=true then
  some (.done (Sum.inl ()))
  else
  ck (InK .i64 (st2+1)) <| some (.next (st2+1))
  else
  some (.done (Sum.inr ()))
noncomputable def K7 (x0:(Int×Int×(List (List Int))×(List (List Int)))×(List (List (Int×Int×Int×Int)))×(List (List Int))):Option Bool :=
  (i7 (y6 x0) 0).bind fun x=>match x with
  | .inl _=>(some true)
  | .inr _=>(K6 x0)
noncomputable def y7 (x0:(Int×Int×(List (List Int))×(List (List Int)))×(List (List (Int×Int×Int×Int)))×(List (List Int))) (st1:Int):Option (Step Int (Sum Unit Unit)) :=
  if (decide (st1<(x0.2.1.length:Int)))=true then
  ck (0≤st1) <| ck (st1<(x0.2.1.length:Int)) <| if (decide (30<((x0.2.1.getD st1.toNat []).length:Int)))=true then
  some (.done (Sum.inl ()))
  else
  ck (InK .i64 (st1+1)) <| some (.next (st1+1))
  else
  some (.done (Sum.inr ()))
noncomputable def K8 (x0:(Int×Int×(List (List Int))×(List (List Int)))×(List (List (Int×Int×Int×Int)))×(List (List Int))):Option Bool :=
  (i7 (y7 x0) 0).bind fun x=>match x with
  | .inl _=>(some true)
  | .inr _=>(K7 x0)
/- lineal/code.bare -/
noncomputable def a1C (l:Int×Int×Int×Int):Option (Int×Int) :=
  if (decide (l.1=3))=true then
  if (decide (l.1=3))=true then
  some l.2.2
  else
  if (decide (l.1=7))=true then
  some (0,0)
  else
  some (l.2.2.1,0)
  else
  if (decide (l.1=5))=true then
  some l.2.2
  else
  if (decide (l.1=7))=true then
  some (0,0)
  else
  some (l.2.2.1,0)
/- lineal/code.isBelow -/
noncomputable def D4 (number:Int) (end0:Int):Option Bool :=
  if (decide (0≤number))=true then
  some (decide (number<end0))
  else
  some false
/- lineal/code.isRegister -/
noncomputable def o6 (register:Int):Option Bool :=
  (D4 register 4).bind fun v0 =>
  some v0
/- lineal/code.isCell -/
noncomputable def L5 (cell:Int):Option Bool :=
  (D4 cell 3).bind fun v0 =>
  some v0
/- lineal/code.isLine -/
noncomputable def Z8 (l:Int×Int×Int×Int) (lines:Int):Option Bool :=
  (a1C l).bind fun v0 =>
  ck (InK .i64 l.1) <| ck (InK .i64 l.2.1) <| ck (InK .i64 l.2.2.1) <| ck (InK .i64 l.2.2.2) <| ck (InK .i64 l.1) <| ck (InK .i64 l.2.1) <| ck (InK .i64 v0.1) <| ck (InK .i64 v0.2) <| if (!(decide (l=(l.1,l.2.1,v0))))=true then
  some false
  else
  if (decide (l.1=1))=true then
  (o6 l.2.1).bind fun v0_2 =>
  if v0_2=true then
  (L5 l.2.2.1).bind fun v0_3 =>
  some v0_3
  else
  some false
  else
  if (decide (l.1=2))=true then
  (L5 l.2.1).bind fun v0_4 =>
  if v0_4=true then
  (o6 l.2.2.1).bind fun v0_5 =>
  some v0_5
  else
  some false
  else
  if (decide (l.1=3))=true then
  (L5 l.2.1).bind fun v0_6 =>
  if v0_6=true then
  (o6 l.2.2.1).bind fun v0_7 =>
  if v0_7=true then
  (o6 l.2.2.2).bind fun v0_8 =>
  some v0_8
  else
  some false
  else
  some false
  else
  if (decide (l.1=4))=true then
  (o6 l.2.1).bind fun v0_9 =>
  if v0_9=true then
  (D4 l.2.2.1 10).bind fun v0_10 =>
  some v0_10
  else
  some false
  else
  if (decide (l.1=5))=true then
  (o6 l.2.1).bind fun v0_11 =>
  if v0_11=true then
  (o6 l.2.2.1).bind fun v0_12 =>
  if v0_12=true then
  (o6 l.2.2.2).bind fun v0_13 =>
  some v0_13
  else
  some false
  else
  some false
  else
  if (decide (l.1=6))=true then
  (o6 l.2.1).bind fun v0_14 =>
  if v0_14=true then
  (D4 l.2.2.1 lines).bind fun v0_15 =>
  some v0_15
  else
  some false
  else
  if (decide (l.1=7))=true then
  (o6 l.2.1).bind fun v0_16 =>
  some v0_16
  else
  some false
/- lineal/code.isCall$1 -/
noncomputable def X8 (l:Int×Int×Int×Int) (a1:Int):Option Bool :=
  (Z8 l a1).bind fun v0 =>
  some (!v0)
/- slices.IndexFunc[[]lineal/api.Line,lineal/api.Line] -/
noncomputable def O7:Option Int :=
  some (-1)
noncomputable def u9 (s:List (Int×Int×Int×Int)) (c0:Int) (st1:Int):Option (Step Int (Sum Int Unit)) :=
  if (decide (st1<(s.length:Int)))=true then
  ck (0≤st1) <| ck (st1<(s.length:Int)) <| (X8 (s.getD st1.toNat (0,0,0,0)) c0).bind fun v0 =>
  if v0=true then
  some (.done (Sum.inl st1))
  else
  ck (InK .i64 (st1+1)) <| some (.next (st1+1))
  else
  some (.done (Sum.inr ()))
noncomputable def U2 (s:List (Int×Int×Int×Int)) (c0:Int):Option Int :=
  (i7 (u9 s c0) 0).bind fun x=>match x with
  | .inl r1=>(some r1)
  | .inr _=>(O7)
/- slices.ContainsFunc[[]lineal/api.Line,lineal/api.Line] -/
noncomputable def I6 (s:List (Int×Int×Int×Int)) (c0:Int):Option Bool :=
  (U2 s c0).bind fun v0 =>
  some (decide (0≤v0))
/- lineal/code.isCall -/
noncomputable def Z9 (lines:List (Int×Int×Int×Int)):Option Bool :=
  if (decide ((lines.length:Int)<1))=true then
  some false
  else
  if (decide (8<(lines.length:Int)))=true then
  some false
  else
  ck (InK .i64 ((lines.length:Int) - 1)) <| ck (0≤((lines.length:Int) - 1)) <| ck (((lines.length:Int) - 1)<(lines.length:Int)) <| if (!(decide ((lines.getD ((lines.length:Int) - 1).toNat (0,0,0,0)).1=7)))=true then
  some false
  else
  (I6 lines (lines.length:Int)).bind fun v0 =>
  some (!v0)
/- lineal/code.Valid$1 -/
noncomputable def a0t (lines:List (Int×Int×Int×Int)):Option Bool :=
  (Z9 lines).bind fun v0 =>
  some (!v0)
/- slices.IndexFunc[[][]lineal/api.Line,[]lineal/api.Line] -/
noncomputable def R7:Option Int :=
  some (-1)
noncomputable def A9 (s:List (List (Int×Int×Int×Int))) (st1:Int):Option (Step Int (Sum Int Unit)) :=
  if (decide (st1<(s.length:Int)))=true then
  ck (0≤st1) <| ck (st1<(s.length:Int)) <| (a0t (s.getD st1.toNat [])).bind fun v0 =>
  if v0=true then
  some (.done (Sum.inl st1))
  else
  ck (InK .i64 (st1+1)) <| some (.next (st1+1))
  else
  some (.done (Sum.inr ()))
noncomputable def W9 (s:List (List (Int×Int×Int×Int))):Option Int :=
  (i7 (A9 s) 0).bind fun x=>match x with
  | .inl r1=>(some r1)
  | .inr _=>(R7)
/- slices.ContainsFunc[[][]lineal/api.Line,[]lineal/api.Line] -/
noncomputable def M2 (s:List (List (Int×Int×Int×Int))):Option Bool :=
  (W9 s).bind fun v0 =>
  some (decide (0≤v0))
/- lineal/code.Valid -/
noncomputable def U6 (c:List (List (Int×Int×Int×Int))):Option Bool :=
  if (decide (1≤(c.length:Int)))=true then
  if (decide ((c.length:Int)≤4))=true then
  (M2 c).bind fun v0 =>
  some (!v0)
  else
  some false
  else
  some false
/- lineal/code.isWord$1 -/
noncomputable def T0 (op0:Int) (a1:List (List (Int×Int×Int×Int))):Option Bool :=
  (D4 op0 (a1.length:Int)).bind fun v0 =>
  some (!v0)
/- slices.IndexFunc[[]int,int] -/
noncomputable def O5:Option Int :=
  some (-1)
noncomputable def o8 (s:List Int) (c0:List (List (Int×Int×Int×Int))) (st1:Int):Option (Step Int (Sum Int Unit)) :=
  if (decide (st1<(s.length:Int)))=true then
  ck (0≤st1) <| ck (st1<(s.length:Int)) <| (T0 (s.getD st1.toNat 0) c0).bind fun v0 =>
  if v0=true then
  some (.done (Sum.inl st1))
  else
  ck (InK .i64 (st1+1)) <| some (.next (st1+1))
  else
  some (.done (Sum.inr ()))
noncomputable def U0 (s:List Int) (c0:List (List (Int×Int×Int×Int))):Option Int :=
  (i7 (o8 s c0) 0).bind fun x=>match x with
  | .inl r1=>(some r1)
  | .inr _=>(O5)
/- slices.ContainsFunc[[]int,int] -/
noncomputable def C2 (s:List Int) (c0:List (List (Int×Int×Int×Int))):Option Bool :=
  (U0 s c0).bind fun v0 =>
  some (decide (0≤v0))
/- lineal/code.isWord -/
noncomputable def N6 (c:List (List (Int×Int×Int×Int))) (word:List Int):Option Bool :=
  if (decide ((word.length:Int)≤3))=true then
  (C2 word c).bind fun v0 =>
  some (!v0)
  else
  some false
/- lineal/code.isUse$1 -/
noncomputable def a0s (word:List Int) (a1:List (List (Int×Int×Int×Int))):Option Bool :=
  (N6 a1 word).bind fun v0 =>
  some (!v0)
/- slices.IndexFunc[[][]int,[]int] -/
noncomputable def O6:Option Int :=
  some (-1)
noncomputable def u7 (s:List (List Int)) (c0:List (List (Int×Int×Int×Int))) (st1:Int):Option (Step Int (Sum Int Unit)) :=
  if (decide (st1<(s.length:Int)))=true then
  ck (0≤st1) <| ck (st1<(s.length:Int)) <| (a0s (s.getD st1.toNat []) c0).bind fun v0 =>
  if v0=true then
  some (.done (Sum.inl st1))
  else
  ck (InK .i64 (st1+1)) <| some (.next (st1+1))
  else
  some (.done (Sum.inr ()))
noncomputable def U1 (s:List (List Int)) (c0:List (List (Int×Int×Int×Int))):Option Int :=
  (i7 (u7 s c0) 0).bind fun x=>match x with
  | .inl r1=>(some r1)
  | .inr _=>(O6)
/- slices.ContainsFunc[[][]int,[]int] -/
noncomputable def I5 (s:List (List Int)) (c0:List (List (Int×Int×Int×Int))):Option Bool :=
  (U1 s c0).bind fun v0 =>
  some (decide (0≤v0))
/- lineal/code.isUse -/
noncomputable def a0N (c:List (List (Int×Int×Int×Int))) (use:List (List Int)):Option Bool :=
  if (decide (1≤(use.length:Int)))=true then
  if (decide ((use.length:Int)≤2))=true then
  (I5 use c).bind fun v0 =>
  some (!v0)
  else
  some false
  else
  some false
/- lineal/code.ValidUse -/
noncomputable def X9 (c:List (List (Int×Int×Int×Int))) (use:List (List Int)):Option (Bool×Int) :=
  (U6 c).bind fun v0 =>
  if (!v0)=true then
  some (false,80)
  else
  (a0N c use).bind fun v0_2 =>
  some (v0_2,0)
/- lineal/code.checkUse -/
noncomputable def T1 (c:List (List (Int×Int×Int×Int))) (use:List (List Int)):Option Int :=
  (X9 c use).bind fun v0 =>
  if (decide (v0.2=0))=true then
  if (!v0.1)=true then
  some 81
  else
  some v0.2
  else
  some v0.2
/- (lineal/code.run).hasLine -/
noncomputable def z6 (r0:((List (List (Int×Int×Int×Int)))×(List (List Int)))×(List Int)×(El T80)×(Int×Int×Int)×(El T85)×(El T86)×Int) (thread:Int):Option Bool :=
  (D4 thread (r0.1.2.length:Int)).bind fun v0 =>
  if v0=true then
  ck (0≤thread) <| ck (thread<2) <| ck (kAt T85 ((thread.toNat*8))=some (some .i64)) <| ck (0≤thread) <| ck (thread<(r0.1.2.length:Int)) <| some (decide ((b7 T85 r0.2.2.2.2.1 (thread.toNat*8))<((r0.1.2.getD thread.toNat []).length:Int)))
  else
  some false
/- (*lineal/code.worker).do -/
noncomputable def Q5 (w:Nat) (l:Int×Int×Int×Int) (w_2:List (List (Int×Int×Int×Int))) (w_3:List (List Int)) (w_4:(El T80)) (w_5:Int) (w_6:Int) (w_7:Int) (w_8:(El T85)) (w_9:(El T86)) (w_10:Int) (w_11:List Int):Option (Int×Int×Int×(El T85)) :=
  if (decide (l.1=1))=true then
  ck (0≤l.2.2.1) <| ck (l.2.2.1<3) <| if (decide (l.2.2.1=0))=true then
  ck (0≤l.2.1) <| ck (l.2.1<4) <| ck (kAt T85 (((w+4)+l.2.1.toNat*1))=some (some .i64)) <| some (w_5,w_6,w_7,(f9 T85 w_8 ((w+4)+l.2.1.toNat*1) w_5))
  else
  if (decide (l.2.2.1=1))=true then
  ck (0≤l.2.1) <| ck (l.2.1<4) <| ck (kAt T85 (((w+4)+l.2.1.toNat*1))=some (some .i64)) <| some (w_5,w_6,w_7,(f9 T85 w_8 ((w+4)+l.2.1.toNat*1) w_6))
  else
  ck (0≤l.2.1) <| ck (l.2.1<4) <| ck (kAt T85 (((w+4)+l.2.1.toNat*1))=some (some .i64)) <| some (w_5,w_6,w_7,(f9 T85 w_8 ((w+4)+l.2.1.toNat*1) w_7))
  else
  if (decide (l.1=2))=true then
  ck (0≤l.2.2.1) <| ck (l.2.2.1<4) <| ck (kAt T85 (((w+4)+l.2.2.1.toNat*1))=some (some .i64)) <| ck (0≤l.2.1) <| ck (l.2.1<3) <| if (decide (l.2.1=0))=true then
  some ((b7 T85 w_8 ((w+4)+l.2.2.1.toNat*1)),w_6,w_7,w_8)
  else
  if (decide (l.2.1=1))=true then
  some (w_5,(b7 T85 w_8 ((w+4)+l.2.2.1.toNat*1)),w_7,w_8)
  else
  some (w_5,w_6,(b7 T85 w_8 ((w+4)+l.2.2.1.toNat*1)),w_8)
  else
  if (decide (l.1=3))=true then
  ck (0≤l.2.1) <| ck (l.2.1<3) <| if (decide (l.2.1=0))=true then
  ck (0≤l.2.2.1) <| ck (l.2.2.1<4) <| ck (kAt T85 (((w+4)+l.2.2.1.toNat*1))=some (some .i64)) <| if (decide (w_5=(b7 T85 w_8 ((w+4)+l.2.2.1.toNat*1))))=true then
  ck (0≤l.2.2.2) <| ck (l.2.2.2<4) <| ck (kAt T85 (((w+4)+l.2.2.2.toNat*1))=some (some .i64)) <| ck (kAt T85 (((w+4)+3))=some (some .i64)) <| some ((b7 T85 w_8 ((w+4)+l.2.2.2.toNat*1)),w_6,w_7,(f9 T85 w_8 ((w+4)+3) 1))
  else
  ck (kAt T85 (((w+4)+3))=some (some .i64)) <| some (w_5,w_6,w_7,(f9 T85 w_8 ((w+4)+3) 0))
  else
  if (decide (l.2.1=1))=true then
  ck (0≤l.2.2.1) <| ck (l.2.2.1<4) <| ck (kAt T85 (((w+4)+l.2.2.1.toNat*1))=some (some .i64)) <| if (decide (w_6=(b7 T85 w_8 ((w+4)+l.2.2.1.toNat*1))))=true then
  ck (0≤l.2.2.2) <| ck (l.2.2.2<4) <| ck (kAt T85 (((w+4)+l.2.2.2.toNat*1))=some (some .i64)) <| ck (kAt T85 (((w+4)+3))=some (some .i64)) <| some (w_5,(b7 T85 w_8 ((w+4)+l.2.2.2.toNat*1)),w_7,(f9 T85 w_8 ((w+4)+3) 1))
  else
  ck (kAt T85 (((w+4)+3))=some (some .i64)) <| some (w_5,w_6,w_7,(f9 T85 w_8 ((w+4)+3) 0))
  else
  ck (0≤l.2.2.1) <| ck (l.2.2.1<4) <| ck (kAt T85 (((w+4)+l.2.2.1.toNat*1))=some (some .i64)) <| if (decide (w_7=(b7 T85 w_8 ((w+4)+l.2.2.1.toNat*1))))=true then
  ck (0≤l.2.2.2) <| ck (l.2.2.2<4) <| ck (kAt T85 (((w+4)+l.2.2.2.toNat*1))=some (some .i64)) <| ck (kAt T85 (((w+4)+3))=some (some .i64)) <| some (w_5,w_6,(b7 T85 w_8 ((w+4)+l.2.2.2.toNat*1)),(f9 T85 w_8 ((w+4)+3) 1))
  else
  ck (kAt T85 (((w+4)+3))=some (some .i64)) <| some (w_5,w_6,w_7,(f9 T85 w_8 ((w+4)+3) 0))
  else
  if (decide (l.1=4))=true then
  ck (0≤l.2.1) <| ck (l.2.1<4) <| ck (kAt T85 (((w+4)+l.2.1.toNat*1))=some (some .i64)) <| some (w_5,w_6,w_7,(f9 T85 w_8 ((w+4)+l.2.1.toNat*1) l.2.2.1))
  else
  if (decide (l.1=5))=true then
  ck (0≤l.2.2.1) <| ck (l.2.2.1<4) <| ck (kAt T85 (((w+4)+l.2.2.1.toNat*1))=some (some .i64)) <| ck (0≤l.2.2.2) <| ck (l.2.2.2<4) <| ck (kAt T85 (((w+4)+l.2.2.2.toNat*1))=some (some .i64)) <| ck (InK .i64 ((b7 T85 w_8 ((w+4)+l.2.2.1.toNat*1))+(b7 T85 w_8 ((w+4)+l.2.2.2.toNat*1)))) <| ck (0≤((b7 T85 w_8 ((w+4)+l.2.2.1.toNat*1))+(b7 T85 w_8 ((w+4)+l.2.2.2.toNat*1)))) <| ck (0≤l.2.1) <| ck (l.2.1<4) <| ck (kAt T85 (((w+4)+l.2.1.toNat*1))=some (some .i64)) <| some (w_5,w_6,w_7,(f9 T85 w_8 ((w+4)+l.2.1.toNat*1) (((b7 T85 w_8 ((w+4)+l.2.2.1.toNat*1))+(b7 T85 w_8 ((w+4)+l.2.2.2.toNat*1))) % 10)))
  else
  if (decide (l.1=6))=true then
  ck (0≤l.2.1) <| ck (l.2.1<4) <| ck (kAt T85 (((w+4)+l.2.1.toNat*1))=some (some .i64)) <| if (decide ((b7 T85 w_8 ((w+4)+l.2.1.toNat*1))=0))=true then
  ck (kAt T85 ((w+3))=some (some .i64)) <| some (w_5,w_6,w_7,(f9 T85 w_8 (w+3) l.2.2.1))
  else
  some (w_5,w_6,w_7,w_8)
  else
  some (w_5,w_6,w_7,w_8)
/- (lineal/code.run).step -/
noncomputable def C9 (r0:((List (List (Int×Int×Int×Int)))×(List (List Int)))×(List Int)×(El T80)×(Int×Int×Int)×(El T85)×(El T86)×Int) (thread:Int) (b1:(El T85)×(El T86)×Int):Option ((El T80)×Int×Int×Int×(El T85)×(El T86)×Int) :=
  ck (kAt T85 (((thread.toNat*8)+2))=some (some .i64)) <| ck (0≤(b7 T85 b1.1 ((thread.toNat*8)+2))) <| ck ((b7 T85 b1.1 ((thread.toNat*8)+2))<6) <| ck (0≤(b7 T86 b1.2.1 (((b7 T85 b1.1 ((thread.toNat*8)+2)).toNat*6)+2))) <| ck ((b7 T86 b1.2.1 (((b7 T85 b1.1 ((thread.toNat*8)+2)).toNat*6)+2))<(r0.1.1.length:Int)) <| ck (kAt T85 (((thread.toNat*8)+3))=some (some .i64)) <| ck (0≤(b7 T85 b1.1 ((thread.toNat*8)+3))) <| ck ((b7 T85 b1.1 ((thread.toNat*8)+3))<((r0.1.1.getD (b7 T86 b1.2.1 (((b7 T85 b1.1 ((thread.toNat*8)+2)).toNat*6)+2)).toNat []).length:Int)) <| ck (kAt T85 (((thread.toNat*8)+2))=some (some .i64)) <| ck (kAt T85 (((thread.toNat*8)+3))=some (some .i64)) <| ck ((r0.2.1.length:Int)<12) <| ck (kAt T85 (((thread.toNat*8)+3))=some (some .i64)) <| ck (InK .i64 ((b7 T85 b1.1 ((thread.toNat*8)+3))+1)) <| ck (kAt T85 (((thread.toNat*8)+3))=some (some .i64)) <| if (decide (((r0.1.1.getD (b7 T86 b1.2.1 (((b7 T85 b1.1 ((thread.toNat*8)+2)).toNat*6)+2)).toNat []).getD (b7 T85 b1.1 ((thread.toNat*8)+3)).toNat (0,0,0,0)).1=7))=true then
  ck (0≤((r0.1.1.getD (b7 T86 b1.2.1 (((b7 T85 b1.1 ((thread.toNat*8)+2)).toNat*6)+2)).toNat []).getD (b7 T85 b1.1 ((thread.toNat*8)+3)).toNat (0,0,0,0)).2.1) <| ck (((r0.1.1.getD (b7 T86 b1.2.1 (((b7 T85 b1.1 ((thread.toNat*8)+2)).toNat*6)+2)).toNat []).getD (b7 T85 b1.1 ((thread.toNat*8)+3)).toNat (0,0,0,0)).2.1<4) <| ck (kAt T85 ((((thread.toNat*8)+4)+((r0.1.1.getD (b7 T86 b1.2.1 (((b7 T85 b1.1 ((thread.toNat*8)+2)).toNat*6)+2)).toNat []).getD (b7 T85 b1.1 ((thread.toNat*8)+3)).toNat (0,0,0,0)).2.1.toNat*1))=some (some .i64)) <| ck (InK .i64 (2*(r0.2.1.length:Int))) <| ck (InK .i64 ((2*(r0.2.1.length:Int))+2)) <| ck (kAt T85 (((thread.toNat*8)+1))=some none) <| ck (kAt T85 ((thread.toNat*8))=some (some .i64)) <| ck (InK .i64 ((b7 T85 (p8 T85 (f9 T85 b1.1 ((thread.toNat*8)+3) ((b7 T85 b1.1 ((thread.toNat*8)+3))+1)) ((thread.toNat*8)+1) false) (thread.toNat*8))+1)) <| ck (kAt T85 ((thread.toNat*8))=some (some .i64)) <| some ((D3 T80 (.pair .i .i) r0.2.2.1 (r0.2.1.length*2) ((b7 T85 b1.1 ((thread.toNat*8)+2)),(b7 T85 b1.1 ((thread.toNat*8)+3)))),r0.2.2.2.1.1,r0.2.2.2.1.2.1,r0.2.2.2.1.2.2,(f9 T85 (p8 T85 (f9 T85 b1.1 ((thread.toNat*8)+3) ((b7 T85 b1.1 ((thread.toNat*8)+3))+1)) ((thread.toNat*8)+1) false) (thread.toNat*8) ((b7 T85 (p8 T85 (f9 T85 b1.1 ((thread.toNat*8)+3) ((b7 T85 b1.1 ((thread.toNat*8)+3))+1)) ((thread.toNat*8)+1) false) (thread.toNat*8))+1)),(f9 T86 (f9 T86 b1.2.1 (((b7 T85 b1.1 ((thread.toNat*8)+2)).toNat*6)+3) (b7 T85 (f9 T85 b1.1 ((thread.toNat*8)+3) ((b7 T85 b1.1 ((thread.toNat*8)+3))+1)) (((thread.toNat*8)+4)+((r0.1.1.getD (b7 T86 b1.2.1 (((b7 T85 b1.1 ((thread.toNat*8)+2)).toNat*6)+2)).toNat []).getD (b7 T85 b1.1 ((thread.toNat*8)+3)).toNat (0,0,0,0)).2.1.toNat*1))) (((b7 T85 b1.1 ((thread.toNat*8)+2)).toNat*6)+5) ((2*(r0.2.1.length:Int))+2)),b1.2.2)
  else
  (Q5 (thread.toNat*8) ((r0.1.1.getD (b7 T86 b1.2.1 (((b7 T85 b1.1 ((thread.toNat*8)+2)).toNat*6)+2)).toNat []).getD (b7 T85 b1.1 ((thread.toNat*8)+3)).toNat (0,0,0,0)) r0.1.1 r0.1.2 (D3 T80 (.pair .i .i) r0.2.2.1 (r0.2.1.length*2) ((b7 T85 b1.1 ((thread.toNat*8)+2)),(b7 T85 b1.1 ((thread.toNat*8)+3)))) r0.2.2.2.1.1 r0.2.2.2.1.2.1 r0.2.2.2.1.2.2 (f9 T85 b1.1 ((thread.toNat*8)+3) ((b7 T85 b1.1 ((thread.toNat*8)+3))+1)) b1.2.1 b1.2.2 ((r0.2.1.take r0.2.1.length)++[thread])).bind fun v0 =>
  some ((D3 T80 (.pair .i .i) r0.2.2.1 (r0.2.1.length*2) ((b7 T85 b1.1 ((thread.toNat*8)+2)),(b7 T85 b1.1 ((thread.toNat*8)+3)))),v0.1,v0.2.1,v0.2.2.1,v0.2.2.2,b1.2)
noncomputable def L8 (r0:((List (List (Int×Int×Int×Int)))×(List (List Int)))×(List Int)×(El T80)×(Int×Int×Int)×(El T85)×(El T86)×Int) (thread:Int):Option ((El T80)×Int×Int×Int×(El T85)×(El T86)×Int) :=
  ck (((r0.2.1.take r0.2.1.length).length+1)*8≤140737488355328) <| ck (0≤thread) <| ck (thread<2) <| ck (kAt T85 (((thread.toNat*8)+1))=some none) <| if (!(n7 T85 r0.2.2.2.2.1 ((thread.toNat*8)+1)))=true then
  ck (0≤thread) <| ck (thread<(r0.1.2.length:Int)) <| ck (kAt T85 ((thread.toNat*8))=some (some .i64)) <| ck (0≤(b7 T85 r0.2.2.2.2.1 (thread.toNat*8))) <| ck ((b7 T85 r0.2.2.2.2.1 (thread.toNat*8))<((r0.1.2.getD thread.toNat []).length:Int)) <| ck (InK .i64 (2*(r0.2.1.length:Int))) <| ck (InK .i64 ((2*(r0.2.1.length:Int))+1)) <| ck (0≤r0.2.2.2.2.2.2) <| ck (r0.2.2.2.2.2.2<6) <| ck (kAt T85 ((thread.toNat*8))=some (some .i64)) <| ck (M9 T85 (Y1) ((thread.toNat*8))=true) <| ck (InK .i64 (r0.2.2.2.2.2.2+1)) <| C9 r0 thread ((D3 T85 Y1 r0.2.2.2.2.1 (thread.toNat*8) ((b7 T85 r0.2.2.2.2.1 (thread.toNat*8)),true,r0.2.2.2.2.2.2,0,0,1,0,0)),(D3 T86 Y0 r0.2.2.2.2.2.1 (r0.2.2.2.2.2.2.toNat*6) (thread,0,((r0.1.2.getD thread.toNat []).getD (b7 T85 r0.2.2.2.2.1 (thread.toNat*8)).toNat 0),0,((2*(r0.2.1.length:Int))+1),0)),(r0.2.2.2.2.2.2+1))
  else
  C9 r0 thread r0.2.2.2.2
/- (lineal/code.program).play -/
noncomputable def Q6 (p:(List (List (Int×Int×Int×Int)))×(List (List Int))) (b1:(List Int)×(El T80)×Int×Int×Int×(El T85)×(El T86)×Int):Option ((List (List (Int×Int×Int×Int)))×(List (List Int))×(List Int)×(El T80)×Int×Int×Int×(El T85)×(El T86)×Int×Bool) :=
  some (p.1,p.2,b1.1,b1.2.1,b1.2.2.1,b1.2.2.2.1,b1.2.2.2.2.1,b1.2.2.2.2.2.1,b1.2.2.2.2.2.2.1,b1.2.2.2.2.2.2.2,true)
noncomputable def m4 (p:(List (List (Int×Int×Int×Int)))×(List (List Int))) (schedule:List Int) (st1:(List Int)×(El T80)×Int×Int×Int×(El T85)×(El T86)×Int×Int):Option (Step ((List Int)×(El T80)×Int×Int×Int×(El T85)×(El T86)×Int×Int) (Sum Unit ((List Int)×(El T80)×Int×Int×Int×(El T85)×(El T86)×Int))) :=
  if (decide (st1.2.2.2.2.2.2.2.2<(schedule.length:Int)))=true then
  ck (0≤st1.2.2.2.2.2.2.2.2) <| ck (st1.2.2.2.2.2.2.2.2<(schedule.length:Int)) <| (z6 (p,st1.1,st1.2.1,(st1.2.2.1,st1.2.2.2.1,st1.2.2.2.2.1),st1.2.2.2.2.2.1,st1.2.2.2.2.2.2.1,st1.2.2.2.2.2.2.2.1) (schedule.getD st1.2.2.2.2.2.2.2.2.toNat 0)).bind fun v0 =>
  if (!v0)=true then
  some (.done (Sum.inl ()))
  else
  (L8 (p,st1.1,st1.2.1,(st1.2.2.1,st1.2.2.2.1,st1.2.2.2.2.1),st1.2.2.2.2.2.1,st1.2.2.2.2.2.2.1,st1.2.2.2.2.2.2.2.1) (schedule.getD st1.2.2.2.2.2.2.2.2.toNat 0)).bind fun v0_2 =>
  ck (InK .i64 (st1.2.2.2.2.2.2.2.2+1)) <| some (.next (((st1.1.take st1.1.length)++[(schedule.getD st1.2.2.2.2.2.2.2.2.toNat 0)]),v0_2.1,v0_2.2.1,v0_2.2.2.1,v0_2.2.2.2.1,v0_2.2.2.2.2.1,v0_2.2.2.2.2.2.1,v0_2.2.2.2.2.2.2,(st1.2.2.2.2.2.2.2.2+1)))
  else
  some (.done (Sum.inr (st1.1,st1.2.1,st1.2.2.1,st1.2.2.2.1,st1.2.2.2.2.1,st1.2.2.2.2.2.1,st1.2.2.2.2.2.2.1,st1.2.2.2.2.2.2.2.1)))
noncomputable def A7 (p:(List (List (Int×Int×Int×Int)))×(List (List Int))) (schedule:List Int):Option ((List (List (Int×Int×Int×Int)))×(List (List Int))×(List Int)×(El T80)×Int×Int×Int×(El T85)×(El T86)×Int×Bool) :=
  if (decide (12<(schedule.length:Int)))=true then
  some ([],[],[],(Ty.dflt T80),0,0,0,(Ty.dflt T85),(Ty.dflt T86),0,false)
  else
  (i7 (m4 p schedule) ([],(Ty.dflt T80),0,0,0,(Ty.dflt T85),(Ty.dflt T86),0,0)).bind fun x=>match x with
  | .inl _=>(some ([],[],[],(Ty.dflt T80),0,0,0,(Ty.dflt T85),(Ty.dflt T86),0,false))
  | .inr r1=>(Q6 p r1)
/- lineal/code.played -/
noncomputable def Q7 (c:List (List (Int×Int×Int×Int))) (use:List (List Int)) (schedule:List Int):Option ((List (List (Int×Int×Int×Int)))×(List (List Int))×(List Int)×(El T80)×Int×Int×Int×(El T85)×(El T86)×Int×Int) :=
  (T1 c use).bind fun v0 =>
  if (!(decide (v0=0)))=true then
  some ([],[],[],(Ty.dflt T80),0,0,0,(Ty.dflt T85),(Ty.dflt T86),0,v0)
  else
  (A7 (c,use) schedule).bind fun v0_2 =>
  if (!v0_2.2.2.2.2.2.2.2.2.2.2)=true then
  some ([],[],[],(Ty.dflt T80),0,0,0,(Ty.dflt T85),(Ty.dflt T86),0,2)
  else
  some (v0_2.1,v0_2.2.1,v0_2.2.2.1,v0_2.2.2.2.1,v0_2.2.2.2.2.1,v0_2.2.2.2.2.2.1,v0_2.2.2.2.2.2.2.1,v0_2.2.2.2.2.2.2.2.1,v0_2.2.2.2.2.2.2.2.2.1,v0_2.2.2.2.2.2.2.2.2.2.1,0)
/- slices.Clone[[]lineal/api.Call,lineal/api.Call] -/
noncomputable def a0q (s:ZH):Option (ZH) :=
  ck (s.length*48≤140737488355328) <| some s
/- (lineal/code.run).history -/
noncomputable def G8 (r0:((List (List (Int×Int×Int×Int)))×(List (List Int)))×(List Int)×(El T80)×(Int×Int×Int)×(El T85)×(El T86)×Int):Option (ZH) :=
  ck (0≤r0.2.2.2.2.2.2) <| ck (r0.2.2.2.2.2.2≤6) <| (a0q ((a2f Y0 6 r0.2.2.2.2.2.1).take r0.2.2.2.2.2.2.toNat)).bind fun v0 =>
  some v0
/- lineal/code.Run -/
noncomputable def a2Q (c:List (List (Int×Int×Int×Int))) (use:List (List Int)) (schedule:List Int):Option (ZH×Int) :=
  (Q7 c use schedule).bind fun v0 =>
  if (!(decide (v0.2.2.2.2.2.2.2.2.2.2=0)))=true then
  some ([],v0.2.2.2.2.2.2.2.2.2.2)
  else
  (G8 ((v0.1,v0.2.1),v0.2.2.1,v0.2.2.2.1,(v0.2.2.2.2.1,v0.2.2.2.2.2.1,v0.2.2.2.2.2.2.1),v0.2.2.2.2.2.2.2.1,v0.2.2.2.2.2.2.2.2.1,v0.2.2.2.2.2.2.2.2.2.1)).bind fun v0_2 =>
  some (v0_2,0)
/- lineal/lineallaw08.Sane -/
noncomputable def C8:Option Bool :=
  (a2Q [[(1,0,0,0),(5,2,0,1),(2,0,2,0),(7,0,0,0)]] [[0],[0]] [0,0,1,1,0,0,1,1]).bind fun v0 =>
  if (decide (v0.2=0))=true then
  if (decide ((v0.1.length:Int)=2))=true then
  ck (0<(v0.1.length:Int)) <| ck (InK .i64 (v0.1.getD 0 (0,0,0,0,0,0)).1) <| ck (InK .i64 (v0.1.getD 0 (0,0,0,0,0,0)).2.1) <| ck (InK .i64 (v0.1.getD 0 (0,0,0,0,0,0)).2.2.1) <| ck (InK .i64 (v0.1.getD 0 (0,0,0,0,0,0)).2.2.2.1) <| ck (InK .i64 (v0.1.getD 0 (0,0,0,0,0,0)).2.2.2.2.1) <| ck (InK .i64 (v0.1.getD 0 (0,0,0,0,0,0)).2.2.2.2.2) <| ck (InK .i64 0) <| ck (InK .i64 0) <| ck (InK .i64 0) <| ck (InK .i64 0) <| ck (InK .i64 1) <| ck (InK .i64 12) <| if (decide ((v0.1.getD 0 (0,0,0,0,0,0))=(0,0,0,0,1,12)))=true then
  ck (1<(v0.1.length:Int)) <| ck (InK .i64 (v0.1.getD 1 (0,0,0,0,0,0)).1) <| ck (InK .i64 (v0.1.getD 1 (0,0,0,0,0,0)).2.1) <| ck (InK .i64 (v0.1.getD 1 (0,0,0,0,0,0)).2.2.1) <| ck (InK .i64 (v0.1.getD 1 (0,0,0,0,0,0)).2.2.2.1) <| ck (InK .i64 (v0.1.getD 1 (0,0,0,0,0,0)).2.2.2.2.1) <| ck (InK .i64 (v0.1.getD 1 (0,0,0,0,0,0)).2.2.2.2.2) <| ck (InK .i64 1) <| ck (InK .i64 0) <| ck (InK .i64 0) <| ck (InK .i64 0) <| ck (InK .i64 5) <| ck (InK .i64 16) <| some (decide ((v0.1.getD 1 (0,0,0,0,0,0))=(1,0,0,0,5,16)))
  else
  some false
  else
  some false
  else
  some false
/- lineal/linealref08.within -/
noncomputable def l7 (lo:Int) (n:Int) (hi:Int):Option Bool :=
  if (decide (lo≤n))=true then
  some (decide (n≤hi))
  else
  some false
/- lineal/linealref08.isRegister -/
noncomputable def j5 (n:Int):Option Bool :=
  (l7 0 n 3).bind fun v0 =>
  some v0
/- lineal/linealref08.isCell -/
noncomputable def q8 (n:Int):Option Bool :=
  (l7 0 n 2).bind fun v0 =>
  some v0
/- lineal/linealref08.isNumber -/
noncomputable def D8 (n:Int):Option Bool :=
  (l7 0 n 9).bind fun v0 =>
  some v0
/- lineal/linealref08.isLine -/
noncomputable def H8 (l:Int×Int×Int×Int) (lines:Int):Option Bool :=
  if (decide (l.1=1))=true then
  (j5 l.2.1).bind fun v0 =>
  if v0=true then
  (q8 l.2.2.1).bind fun v0_2 =>
  if v0_2=true then
  some (decide (l.2.2.2=0))
  else
  some false
  else
  some false
  else
  if (decide (l.1=2))=true then
  (q8 l.2.1).bind fun v0_3 =>
  if v0_3=true then
  (j5 l.2.2.1).bind fun v0_4 =>
  if v0_4=true then
  some (decide (l.2.2.2=0))
  else
  some false
  else
  some false
  else
  if (decide (l.1=3))=true then
  (q8 l.2.1).bind fun v0_5 =>
  if v0_5=true then
  (j5 l.2.2.1).bind fun v0_6 =>
  if v0_6=true then
  (j5 l.2.2.2).bind fun v0_7 =>
  some v0_7
  else
  some false
  else
  some false
  else
  if (decide (l.1=4))=true then
  (j5 l.2.1).bind fun v0_8 =>
  if v0_8=true then
  (D8 l.2.2.1).bind fun v0_9 =>
  if v0_9=true then
  some (decide (l.2.2.2=0))
  else
  some false
  else
  some false
  else
  if (decide (l.1=5))=true then
  (j5 l.2.1).bind fun v0_10 =>
  if v0_10=true then
  (j5 l.2.2.1).bind fun v0_11 =>
  if v0_11=true then
  (j5 l.2.2.2).bind fun v0_12 =>
  some v0_12
  else
  some false
  else
  some false
  else
  if (decide (l.1=6))=true then
  (j5 l.2.1).bind fun v0_13 =>
  if v0_13=true then
  ck (InK .i64 (lines - 1)) <| (l7 0 l.2.2.1 (lines - 1)).bind fun v0_14 =>
  if v0_14=true then
  some (decide (l.2.2.2=0))
  else
  some false
  else
  some false
  else
  if (decide (l.1=7))=true then
  (j5 l.2.1).bind fun v0_15 =>
  if v0_15=true then
  if (decide (l.2.2.1=0))=true then
  some (decide (l.2.2.2=0))
  else
  some false
  else
  some false
  else
  some false
/- lineal/linealref08.Valid -/
noncomputable def P7:Option Bool :=
  some true
noncomputable def K3 (st1:Int):Option (Step Int (Sum Unit Unit)) :=
  ck (InK .i64 (st1+1)) <| some (.next (st1+1))
noncomputable def K1 (c:List (List (Int×Int×Int×Int))) (st1:Int):Option (Step Int (Sum Unit Unit)) :=
  ck (0≤st1) <| ck (st1<(c.length:Int)) <| ck (0≤st1) <| ck (st1<(c.length:Int)) <| ck (InK .i64 (((c.getD st1.toNat []).length:Int) - 1)) <| ck (0≤(((c.getD st1.toNat []).length:Int) - 1)) <| ck ((((c.getD st1.toNat []).length:Int) - 1)<((c.getD st1.toNat []).length:Int)) <| if (!(decide (((c.getD st1.toNat []).getD (((c.getD st1.toNat []).length:Int) - 1).toNat (0,0,0,0)).1=7)))=true then
  some (.done (Sum.inl ()))
  else
  K3 st1
noncomputable def w9 (c:List (List (Int×Int×Int×Int))) (st1:Int) (st2:Int):Option (Step Int (Sum Unit Unit)) :=
  ck (0≤st1) <| ck (st1<(c.length:Int)) <| if (decide (st2<((c.getD st1.toNat []).length:Int)))=true then
  ck (0≤st1) <| ck (st1<(c.length:Int)) <| ck (0≤st2) <| ck (st2<((c.getD st1.toNat []).length:Int)) <| ck (0≤st1) <| ck (st1<(c.length:Int)) <| (H8 ((c.getD st1.toNat []).getD st2.toNat (0,0,0,0)) ((c.getD st1.toNat []).length:Int)).bind fun v0_3 =>
  if (!v0_3)=true then
  some (.done (Sum.inl ()))
  else
  ck (InK .i64 (st2+1)) <| some (.next (st2+1))
  else
  some (.done (Sum.inr ()))
noncomputable def x8 (c:List (List (Int×Int×Int×Int))) (st1:Int):Option (Step Int (Sum Unit Unit)) :=
  if (decide (st1<(c.length:Int)))=true then
  ck (0≤st1) <| ck (st1<(c.length:Int)) <| (l7 1 ((c.getD st1.toNat []).length:Int) 8).bind fun v0_2 =>
  if (!v0_2)=true then
  some (.done (Sum.inl ()))
  else
  (i7 (w9 c st1) 0).bind fun x=>match x with
  | .inl _=>(some (.done (Sum.inl ())))
  | .inr _=>(K1 c st1)
  else
  some (.done (Sum.inr ()))
noncomputable def A4 (c:List (List (Int×Int×Int×Int))):Option Bool :=
  (l7 1 (c.length:Int) 4).bind fun v0 =>
  if (!v0)=true then
  some false
  else
  (i7 (x8 c) 0).bind fun x=>match x with
  | .inl _=>(some false)
  | .inr _=>(P7)
/- lineal/linealref08.IsUse -/
noncomputable def P8:Option Bool :=
  some true
noncomputable def K4 (st1:Int):Option (Step Int (Sum Unit Unit)) :=
  ck (InK .i64 (st1+1)) <| some (.next (st1+1))
noncomputable def y0 (c:List (List (Int×Int×Int×Int))) (use:List (List Int)) (st1:Int) (st2:Int):Option (Step Int (Sum Unit Unit)) :=
  ck (0≤st1) <| ck (st1<(use.length:Int)) <| if (decide (st2<((use.getD st1.toNat []).length:Int)))=true then
  ck (0≤st1) <| ck (st1<(use.length:Int)) <| ck (0≤st2) <| ck (st2<((use.getD st1.toNat []).length:Int)) <| ck (InK .i64 ((c.length:Int) - 1)) <| (l7 0 ((use.getD st1.toNat []).getD st2.toNat 0) ((c.length:Int) - 1)).bind fun v0_2 =>
  if (!v0_2)=true then
  some (.done (Sum.inl ()))
  else
  ck (InK .i64 (st2+1)) <| some (.next (st2+1))
  else
  some (.done (Sum.inr ()))
noncomputable def y5 (c:List (List (Int×Int×Int×Int))) (use:List (List Int)) (st1:Int):Option (Step Int (Sum Unit Unit)) :=
  if (decide (st1<(use.length:Int)))=true then
  ck (0≤st1) <| ck (st1<(use.length:Int)) <| if (decide (3<((use.getD st1.toNat []).length:Int)))=true then
  some (.done (Sum.inl ()))
  else
  (i7 (y0 c use st1) 0).bind fun x=>match x with
  | .inl _=>(some (.done (Sum.inl ())))
  | .inr _=>(K4 st1)
  else
  some (.done (Sum.inr ()))
noncomputable def E6 (c:List (List (Int×Int×Int×Int))) (use:List (List Int)):Option Bool :=
  (l7 1 (use.length:Int) 2).bind fun v0 =>
  if (!v0)=true then
  some false
  else
  (i7 (y5 c use) 0).bind fun x=>match x with
  | .inl _=>(some false)
  | .inr _=>(P8)
/- lineal/linealref08.ValidUse -/
/- lineal/linealref08.asked -/
noncomputable def V7 (c:List (List (Int×Int×Int×Int))) (use:List (List Int)):Option Int :=
  (A4 c).bind fun v0 =>
  if (!v0)=true then
  some 80
  else
  (E6 c use).bind fun v0_2 =>
  if (!v0_2)=true then
  some 81
  else
  some 0
/- lineal/linealref08.Begin -/
noncomputable def E7 (c:List (List (Int×Int×Int×Int))) (use:List (List Int)) (n5:List Int):Option Unit :=
  ck (64*(use.length:Int)≤281474976710656) <| some ()
/- (*lineal/linealref08.Play).HasLine -/
/- (*lineal/linealref08.Play).Step -/
/- (*lineal/linealref08.Play).HasLine -/
noncomputable def o7 (t:Int) (p:List (List (Int×Int×Int×Int))) (p_2:List (List Int)) (p_3:List Int) (p_4:Int) (p_5:Int) (p_6:Int) (p_7:Int) (p_8:List (Int×Int×Bool×Int×Int×Int×Int×Int)) (p_9:ZH) (p_10:List Int):Option Bool :=
  ck (0≤t) <| ck (t<(p_8.length:Int)) <| if (p_8.getD t.toNat (0,0,false,0,0,0,0,0)).2.2.1=true then
  some true
  else
  ck (0≤t) <| ck (t<(p_8.length:Int)) <| ck (0≤t) <| ck (t<(p_2.length:Int)) <| some (decide ((p_8.getD t.toNat (0,0,false,0,0,0,0,0)).1<((p_2.getD t.toNat []).length:Int)))
/- (*lineal/linealref08.Play).Step -/
noncomputable def f8 (t:Int) (p_3:List Int) (p_4:Int) (b1:(List (Int×Int×Bool×Int×Int×Int×Int×Int))×ZH×(List Int)) (b2:(List (Int×Int×Bool×Int×Int×Int×Int×Int))×Int×Int×Int×ZH):Option ((List (Int×Int×Bool×Int×Int×Int×Int×Int))×Int×Int×Int×ZH×(List Int)) :=
  if (decide ((b1.2.1.getD (b1.1.getD t.toNat (0,0,false,0,0,0,0,0)).2.2.2.1.toNat (0,0,0,0,0,0)).2.2.1<(p_3.length:Int)))=true then
  ck (0≤(b1.2.1.getD (b1.1.getD t.toNat (0,0,false,0,0,0,0,0)).2.2.2.1.toNat (0,0,0,0,0,0)).2.2.1) <| ck ((b1.2.1.getD (b1.1.getD t.toNat (0,0,false,0,0,0,0,0)).2.2.2.1.toNat (0,0,0,0,0,0)).2.2.1<(p_3.length:Int)) <| if (decide ((p_3.getD (b1.2.1.getD (b1.1.getD t.toNat (0,0,false,0,0,0,0,0)).2.2.2.1.toNat (0,0,0,0,0,0)).2.2.1.toNat 0)=(b1.1.getD t.toNat (0,0,false,0,0,0,0,0)).2.1))=true then
  ck (t.toNat<b2.1.length) <| ck (0≤(b2.1.getD t.toNat (0,0,false,0,0,0,0,0)).2.2.2.1) <| ck ((b2.1.getD t.toNat (0,0,false,0,0,0,0,0)).2.2.2.1<(b1.2.2.length:Int)) <| ck ((b2.1.getD t.toNat (0,0,false,0,0,0,0,0)).2.2.2.1.toNat<b1.2.2.length) <| some (b2.1,b2.2.1,b2.2.2.1,b2.2.2.2.1,b2.2.2.2.2,(b1.2.2.set (b2.1.getD t.toNat (0,0,false,0,0,0,0,0)).2.2.2.1.toNat p_4))
  else
  some (b2.1,b2.2.1,b2.2.2.1,b2.2.2.2.1,b2.2.2.2.2,b1.2.2)
  else
  some (b2.1,b2.2.1,b2.2.2.1,b2.2.2.2.1,b2.2.2.2.2,b1.2.2)
noncomputable def l8 (t:Int) (p:List (List (Int×Int×Int×Int))) (p_3:List Int) (p_4:Int) (p_5:Int) (p_6:Int) (p_7:Int) (b1:(List (Int×Int×Bool×Int×Int×Int×Int×Int))×ZH×(List Int)):Option ((List (Int×Int×Bool×Int×Int×Int×Int×Int))×Int×Int×Int×ZH×(List Int)) :=
  ck (t.toNat<b1.1.length) <| ck (0≤(b1.1.getD t.toNat (0,0,false,0,0,0,0,0)).2.2.2.1) <| ck ((b1.1.getD t.toNat (0,0,false,0,0,0,0,0)).2.2.2.1<(b1.2.1.length:Int)) <| ck ((b1.1.getD t.toNat (0,0,false,0,0,0,0,0)).2.2.2.1.toNat<b1.2.1.length) <| ck (t.toNat<b1.1.length) <| ck (0≤(b1.2.1.getD (b1.1.getD t.toNat (0,0,false,0,0,0,0,0)).2.2.2.1.toNat (0,0,0,0,0,0)).2.2.1) <| ck ((b1.2.1.getD (b1.1.getD t.toNat (0,0,false,0,0,0,0,0)).2.2.2.1.toNat (0,0,0,0,0,0)).2.2.1<(p.length:Int)) <| ck (0≤(b1.1.getD t.toNat (0,0,false,0,0,0,0,0)).2.1) <| ck ((b1.1.getD t.toNat (0,0,false,0,0,0,0,0)).2.1<((p.getD (b1.2.1.getD (b1.1.getD t.toNat (0,0,false,0,0,0,0,0)).2.2.2.1.toNat (0,0,0,0,0,0)).2.2.1.toNat []).length:Int)) <| ck (InK .i64 ((b1.1.getD t.toNat (0,0,false,0,0,0,0,0)).2.1+1)) <| ck (t.toNat<b1.1.length) <| if (decide (((p.getD (b1.2.1.getD (b1.1.getD t.toNat (0,0,false,0,0,0,0,0)).2.2.2.1.toNat (0,0,0,0,0,0)).2.2.1.toNat []).getD (b1.1.getD t.toNat (0,0,false,0,0,0,0,0)).2.1.toNat (0,0,0,0)).1=1))=true then
  ck (0≤((p.getD (b1.2.1.getD (b1.1.getD t.toNat (0,0,false,0,0,0,0,0)).2.2.2.1.toNat (0,0,0,0,0,0)).2.2.1.toNat []).getD (b1.1.getD t.toNat (0,0,false,0,0,0,0,0)).2.1.toNat (0,0,0,0)).2.2.1) <| ck (((p.getD (b1.2.1.getD (b1.1.getD t.toNat (0,0,false,0,0,0,0,0)).2.2.2.1.toNat (0,0,0,0,0,0)).2.2.1.toNat []).getD (b1.1.getD t.toNat (0,0,false,0,0,0,0,0)).2.1.toNat (0,0,0,0)).2.2.1<3) <| if (decide (((p.getD (b1.2.1.getD (b1.1.getD t.toNat (0,0,false,0,0,0,0,0)).2.2.2.1.toNat (0,0,0,0,0,0)).2.2.1.toNat []).getD (b1.1.getD t.toNat (0,0,false,0,0,0,0,0)).2.1.toNat (0,0,0,0)).2.2.1=0))=true then
  ck (0≤((p.getD (b1.2.1.getD (b1.1.getD t.toNat (0,0,false,0,0,0,0,0)).2.2.2.1.toNat (0,0,0,0,0,0)).2.2.1.toNat []).getD (b1.1.getD t.toNat (0,0,false,0,0,0,0,0)).2.1.toNat (0,0,0,0)).2.1) <| ck (((p.getD (b1.2.1.getD (b1.1.getD t.toNat (0,0,false,0,0,0,0,0)).2.2.2.1.toNat (0,0,0,0,0,0)).2.2.1.toNat []).getD (b1.1.getD t.toNat (0,0,false,0,0,0,0,0)).2.1.toNat (0,0,0,0)).2.1<4) <| ck (t.toNat<(b1.1.set t.toNat ((b1.1.getD t.toNat (0,0,false,0,0,0,0,0)).1,((b1.1.getD t.toNat (0,0,false,0,0,0,0,0)).2.1+1),(b1.1.getD t.toNat (0,0,false,0,0,0,0,0)).2.2)).length) <| ck (kAt Y2 ((4+((p.getD (b1.2.1.getD (b1.1.getD t.toNat (0,0,false,0,0,0,0,0)).2.2.2.1.toNat (0,0,0,0,0,0)).2.2.1.toNat []).getD (b1.1.getD t.toNat (0,0,false,0,0,0,0,0)).2.1.toNat (0,0,0,0)).2.1.toNat*1))=some (some .i64)) <| f8 t p_3 p_4 b1 (((b1.1.set t.toNat ((b1.1.getD t.toNat (0,0,false,0,0,0,0,0)).1,((b1.1.getD t.toNat (0,0,false,0,0,0,0,0)).2.1+1),(b1.1.getD t.toNat (0,0,false,0,0,0,0,0)).2.2)).set t.toNat (f9 Y2 ((b1.1.set t.toNat ((b1.1.getD t.toNat (0,0,false,0,0,0,0,0)).1,((b1.1.getD t.toNat (0,0,false,0,0,0,0,0)).2.1+1),(b1.1.getD t.toNat (0,0,false,0,0,0,0,0)).2.2)).getD t.toNat (0,0,false,0,0,0,0,0)) (4+((p.getD (b1.2.1.getD (b1.1.getD t.toNat (0,0,false,0,0,0,0,0)).2.2.2.1.toNat (0,0,0,0,0,0)).2.2.1.toNat []).getD (b1.1.getD t.toNat (0,0,false,0,0,0,0,0)).2.1.toNat (0,0,0,0)).2.1.toNat*1) p_5)),p_5,p_6,p_7,b1.2.1)
  else
  if (decide (((p.getD (b1.2.1.getD (b1.1.getD t.toNat (0,0,false,0,0,0,0,0)).2.2.2.1.toNat (0,0,0,0,0,0)).2.2.1.toNat []).getD (b1.1.getD t.toNat (0,0,false,0,0,0,0,0)).2.1.toNat (0,0,0,0)).2.2.1=1))=true then
  ck (0≤((p.getD (b1.2.1.getD (b1.1.getD t.toNat (0,0,false,0,0,0,0,0)).2.2.2.1.toNat (0,0,0,0,0,0)).2.2.1.toNat []).getD (b1.1.getD t.toNat (0,0,false,0,0,0,0,0)).2.1.toNat (0,0,0,0)).2.1) <| ck (((p.getD (b1.2.1.getD (b1.1.getD t.toNat (0,0,false,0,0,0,0,0)).2.2.2.1.toNat (0,0,0,0,0,0)).2.2.1.toNat []).getD (b1.1.getD t.toNat (0,0,false,0,0,0,0,0)).2.1.toNat (0,0,0,0)).2.1<4) <| ck (t.toNat<(b1.1.set t.toNat ((b1.1.getD t.toNat (0,0,false,0,0,0,0,0)).1,((b1.1.getD t.toNat (0,0,false,0,0,0,0,0)).2.1+1),(b1.1.getD t.toNat (0,0,false,0,0,0,0,0)).2.2)).length) <| ck (kAt Y2 ((4+((p.getD (b1.2.1.getD (b1.1.getD t.toNat (0,0,false,0,0,0,0,0)).2.2.2.1.toNat (0,0,0,0,0,0)).2.2.1.toNat []).getD (b1.1.getD t.toNat (0,0,false,0,0,0,0,0)).2.1.toNat (0,0,0,0)).2.1.toNat*1))=some (some .i64)) <| f8 t p_3 p_4 b1 (((b1.1.set t.toNat ((b1.1.getD t.toNat (0,0,false,0,0,0,0,0)).1,((b1.1.getD t.toNat (0,0,false,0,0,0,0,0)).2.1+1),(b1.1.getD t.toNat (0,0,false,0,0,0,0,0)).2.2)).set t.toNat (f9 Y2 ((b1.1.set t.toNat ((b1.1.getD t.toNat (0,0,false,0,0,0,0,0)).1,((b1.1.getD t.toNat (0,0,false,0,0,0,0,0)).2.1+1),(b1.1.getD t.toNat (0,0,false,0,0,0,0,0)).2.2)).getD t.toNat (0,0,false,0,0,0,0,0)) (4+((p.getD (b1.2.1.getD (b1.1.getD t.toNat (0,0,false,0,0,0,0,0)).2.2.2.1.toNat (0,0,0,0,0,0)).2.2.1.toNat []).getD (b1.1.getD t.toNat (0,0,false,0,0,0,0,0)).2.1.toNat (0,0,0,0)).2.1.toNat*1) p_6)),p_5,p_6,p_7,b1.2.1)
  else
  ck (0≤((p.getD (b1.2.1.getD (b1.1.getD t.toNat (0,0,false,0,0,0,0,0)).2.2.2.1.toNat (0,0,0,0,0,0)).2.2.1.toNat []).getD (b1.1.getD t.toNat (0,0,false,0,0,0,0,0)).2.1.toNat (0,0,0,0)).2.1) <| ck (((p.getD (b1.2.1.getD (b1.1.getD t.toNat (0,0,false,0,0,0,0,0)).2.2.2.1.toNat (0,0,0,0,0,0)).2.2.1.toNat []).getD (b1.1.getD t.toNat (0,0,false,0,0,0,0,0)).2.1.toNat (0,0,0,0)).2.1<4) <| ck (t.toNat<(b1.1.set t.toNat ((b1.1.getD t.toNat (0,0,false,0,0,0,0,0)).1,((b1.1.getD t.toNat (0,0,false,0,0,0,0,0)).2.1+1),(b1.1.getD t.toNat (0,0,false,0,0,0,0,0)).2.2)).length) <| ck (kAt Y2 ((4+((p.getD (b1.2.1.getD (b1.1.getD t.toNat (0,0,false,0,0,0,0,0)).2.2.2.1.toNat (0,0,0,0,0,0)).2.2.1.toNat []).getD (b1.1.getD t.toNat (0,0,false,0,0,0,0,0)).2.1.toNat (0,0,0,0)).2.1.toNat*1))=some (some .i64)) <| f8 t p_3 p_4 b1 (((b1.1.set t.toNat ((b1.1.getD t.toNat (0,0,false,0,0,0,0,0)).1,((b1.1.getD t.toNat (0,0,false,0,0,0,0,0)).2.1+1),(b1.1.getD t.toNat (0,0,false,0,0,0,0,0)).2.2)).set t.toNat (f9 Y2 ((b1.1.set t.toNat ((b1.1.getD t.toNat (0,0,false,0,0,0,0,0)).1,((b1.1.getD t.toNat (0,0,false,0,0,0,0,0)).2.1+1),(b1.1.getD t.toNat (0,0,false,0,0,0,0,0)).2.2)).getD t.toNat (0,0,false,0,0,0,0,0)) (4+((p.getD (b1.2.1.getD (b1.1.getD t.toNat (0,0,false,0,0,0,0,0)).2.2.2.1.toNat (0,0,0,0,0,0)).2.2.1.toNat []).getD (b1.1.getD t.toNat (0,0,false,0,0,0,0,0)).2.1.toNat (0,0,0,0)).2.1.toNat*1) p_7)),p_5,p_6,p_7,b1.2.1)
  else
  if (decide (((p.getD (b1.2.1.getD (b1.1.getD t.toNat (0,0,false,0,0,0,0,0)).2.2.2.1.toNat (0,0,0,0,0,0)).2.2.1.toNat []).getD (b1.1.getD t.toNat (0,0,false,0,0,0,0,0)).2.1.toNat (0,0,0,0)).1=2))=true then
  ck (0≤((p.getD (b1.2.1.getD (b1.1.getD t.toNat (0,0,false,0,0,0,0,0)).2.2.2.1.toNat (0,0,0,0,0,0)).2.2.1.toNat []).getD (b1.1.getD t.toNat (0,0,false,0,0,0,0,0)).2.1.toNat (0,0,0,0)).2.2.1) <| ck (((p.getD (b1.2.1.getD (b1.1.getD t.toNat (0,0,false,0,0,0,0,0)).2.2.2.1.toNat (0,0,0,0,0,0)).2.2.1.toNat []).getD (b1.1.getD t.toNat (0,0,false,0,0,0,0,0)).2.1.toNat (0,0,0,0)).2.2.1<4) <| ck (t.toNat<(b1.1.set t.toNat ((b1.1.getD t.toNat (0,0,false,0,0,0,0,0)).1,((b1.1.getD t.toNat (0,0,false,0,0,0,0,0)).2.1+1),(b1.1.getD t.toNat (0,0,false,0,0,0,0,0)).2.2)).length) <| ck (kAt Y2 ((4+((p.getD (b1.2.1.getD (b1.1.getD t.toNat (0,0,false,0,0,0,0,0)).2.2.2.1.toNat (0,0,0,0,0,0)).2.2.1.toNat []).getD (b1.1.getD t.toNat (0,0,false,0,0,0,0,0)).2.1.toNat (0,0,0,0)).2.2.1.toNat*1))=some (some .i64)) <| ck (0≤((p.getD (b1.2.1.getD (b1.1.getD t.toNat (0,0,false,0,0,0,0,0)).2.2.2.1.toNat (0,0,0,0,0,0)).2.2.1.toNat []).getD (b1.1.getD t.toNat (0,0,false,0,0,0,0,0)).2.1.toNat (0,0,0,0)).2.1) <| ck (((p.getD (b1.2.1.getD (b1.1.getD t.toNat (0,0,false,0,0,0,0,0)).2.2.2.1.toNat (0,0,0,0,0,0)).2.2.1.toNat []).getD (b1.1.getD t.toNat (0,0,false,0,0,0,0,0)).2.1.toNat (0,0,0,0)).2.1<3) <| if (decide (((p.getD (b1.2.1.getD (b1.1.getD t.toNat (0,0,false,0,0,0,0,0)).2.2.2.1.toNat (0,0,0,0,0,0)).2.2.1.toNat []).getD (b1.1.getD t.toNat (0,0,false,0,0,0,0,0)).2.1.toNat (0,0,0,0)).2.1=0))=true then
  f8 t p_3 p_4 b1 ((b1.1.set t.toNat ((b1.1.getD t.toNat (0,0,false,0,0,0,0,0)).1,((b1.1.getD t.toNat (0,0,false,0,0,0,0,0)).2.1+1),(b1.1.getD t.toNat (0,0,false,0,0,0,0,0)).2.2)),(b7 Y2 ((b1.1.set t.toNat ((b1.1.getD t.toNat (0,0,false,0,0,0,0,0)).1,((b1.1.getD t.toNat (0,0,false,0,0,0,0,0)).2.1+1),(b1.1.getD t.toNat (0,0,false,0,0,0,0,0)).2.2)).getD t.toNat (0,0,false,0,0,0,0,0)) (4+((p.getD (b1.2.1.getD (b1.1.getD t.toNat (0,0,false,0,0,0,0,0)).2.2.2.1.toNat (0,0,0,0,0,0)).2.2.1.toNat []).getD (b1.1.getD t.toNat (0,0,false,0,0,0,0,0)).2.1.toNat (0,0,0,0)).2.2.1.toNat*1)),p_6,p_7,b1.2.1)
  else
  if (decide (((p.getD (b1.2.1.getD (b1.1.getD t.toNat (0,0,false,0,0,0,0,0)).2.2.2.1.toNat (0,0,0,0,0,0)).2.2.1.toNat []).getD (b1.1.getD t.toNat (0,0,false,0,0,0,0,0)).2.1.toNat (0,0,0,0)).2.1=1))=true then
  f8 t p_3 p_4 b1 ((b1.1.set t.toNat ((b1.1.getD t.toNat (0,0,false,0,0,0,0,0)).1,((b1.1.getD t.toNat (0,0,false,0,0,0,0,0)).2.1+1),(b1.1.getD t.toNat (0,0,false,0,0,0,0,0)).2.2)),p_5,(b7 Y2 ((b1.1.set t.toNat ((b1.1.getD t.toNat (0,0,false,0,0,0,0,0)).1,((b1.1.getD t.toNat (0,0,false,0,0,0,0,0)).2.1+1),(b1.1.getD t.toNat (0,0,false,0,0,0,0,0)).2.2)).getD t.toNat (0,0,false,0,0,0,0,0)) (4+((p.getD (b1.2.1.getD (b1.1.getD t.toNat (0,0,false,0,0,0,0,0)).2.2.2.1.toNat (0,0,0,0,0,0)).2.2.1.toNat []).getD (b1.1.getD t.toNat (0,0,false,0,0,0,0,0)).2.1.toNat (0,0,0,0)).2.2.1.toNat*1)),p_7,b1.2.1)
  else
  f8 t p_3 p_4 b1 ((b1.1.set t.toNat ((b1.1.getD t.toNat (0,0,false,0,0,0,0,0)).1,((b1.1.getD t.toNat (0,0,false,0,0,0,0,0)).2.1+1),(b1.1.getD t.toNat (0,0,false,0,0,0,0,0)).2.2)),p_5,p_6,(b7 Y2 ((b1.1.set t.toNat ((b1.1.getD t.toNat (0,0,false,0,0,0,0,0)).1,((b1.1.getD t.toNat (0,0,false,0,0,0,0,0)).2.1+1),(b1.1.getD t.toNat (0,0,false,0,0,0,0,0)).2.2)).getD t.toNat (0,0,false,0,0,0,0,0)) (4+((p.getD (b1.2.1.getD (b1.1.getD t.toNat (0,0,false,0,0,0,0,0)).2.2.2.1.toNat (0,0,0,0,0,0)).2.2.1.toNat []).getD (b1.1.getD t.toNat (0,0,false,0,0,0,0,0)).2.1.toNat (0,0,0,0)).2.2.1.toNat*1)),b1.2.1)
  else
  if (decide (((p.getD (b1.2.1.getD (b1.1.getD t.toNat (0,0,false,0,0,0,0,0)).2.2.2.1.toNat (0,0,0,0,0,0)).2.2.1.toNat []).getD (b1.1.getD t.toNat (0,0,false,0,0,0,0,0)).2.1.toNat (0,0,0,0)).1=3))=true then
  ck (0≤((p.getD (b1.2.1.getD (b1.1.getD t.toNat (0,0,false,0,0,0,0,0)).2.2.2.1.toNat (0,0,0,0,0,0)).2.2.1.toNat []).getD (b1.1.getD t.toNat (0,0,false,0,0,0,0,0)).2.1.toNat (0,0,0,0)).2.1) <| ck (((p.getD (b1.2.1.getD (b1.1.getD t.toNat (0,0,false,0,0,0,0,0)).2.2.2.1.toNat (0,0,0,0,0,0)).2.2.1.toNat []).getD (b1.1.getD t.toNat (0,0,false,0,0,0,0,0)).2.1.toNat (0,0,0,0)).2.1<3) <| if (decide (((p.getD (b1.2.1.getD (b1.1.getD t.toNat (0,0,false,0,0,0,0,0)).2.2.2.1.toNat (0,0,0,0,0,0)).2.2.1.toNat []).getD (b1.1.getD t.toNat (0,0,false,0,0,0,0,0)).2.1.toNat (0,0,0,0)).2.1=0))=true then
  ck (0≤((p.getD (b1.2.1.getD (b1.1.getD t.toNat (0,0,false,0,0,0,0,0)).2.2.2.1.toNat (0,0,0,0,0,0)).2.2.1.toNat []).getD (b1.1.getD t.toNat (0,0,false,0,0,0,0,0)).2.1.toNat (0,0,0,0)).2.2.1) <| ck (((p.getD (b1.2.1.getD (b1.1.getD t.toNat (0,0,false,0,0,0,0,0)).2.2.2.1.toNat (0,0,0,0,0,0)).2.2.1.toNat []).getD (b1.1.getD t.toNat (0,0,false,0,0,0,0,0)).2.1.toNat (0,0,0,0)).2.2.1<4) <| ck (t.toNat<(b1.1.set t.toNat ((b1.1.getD t.toNat (0,0,false,0,0,0,0,0)).1,((b1.1.getD t.toNat (0,0,false,0,0,0,0,0)).2.1+1),(b1.1.getD t.toNat (0,0,false,0,0,0,0,0)).2.2)).length) <| ck (kAt Y2 ((4+((p.getD (b1.2.1.getD (b1.1.getD t.toNat (0,0,false,0,0,0,0,0)).2.2.2.1.toNat (0,0,0,0,0,0)).2.2.1.toNat []).getD (b1.1.getD t.toNat (0,0,false,0,0,0,0,0)).2.1.toNat (0,0,0,0)).2.2.1.toNat*1))=some (some .i64)) <| if (decide (p_5=(b7 Y2 ((b1.1.set t.toNat ((b1.1.getD t.toNat (0,0,false,0,0,0,0,0)).1,((b1.1.getD t.toNat (0,0,false,0,0,0,0,0)).2.1+1),(b1.1.getD t.toNat (0,0,false,0,0,0,0,0)).2.2)).getD t.toNat (0,0,false,0,0,0,0,0)) (4+((p.getD (b1.2.1.getD (b1.1.getD t.toNat (0,0,false,0,0,0,0,0)).2.2.2.1.toNat (0,0,0,0,0,0)).2.2.1.toNat []).getD (b1.1.getD t.toNat (0,0,false,0,0,0,0,0)).2.1.toNat (0,0,0,0)).2.2.1.toNat*1))))=true then
  ck (0≤((p.getD (b1.2.1.getD (b1.1.getD t.toNat (0,0,false,0,0,0,0,0)).2.2.2.1.toNat (0,0,0,0,0,0)).2.2.1.toNat []).getD (b1.1.getD t.toNat (0,0,false,0,0,0,0,0)).2.1.toNat (0,0,0,0)).2.2.2) <| ck (((p.getD (b1.2.1.getD (b1.1.getD t.toNat (0,0,false,0,0,0,0,0)).2.2.2.1.toNat (0,0,0,0,0,0)).2.2.1.toNat []).getD (b1.1.getD t.toNat (0,0,false,0,0,0,0,0)).2.1.toNat (0,0,0,0)).2.2.2<4) <| ck (t.toNat<(b1.1.set t.toNat ((b1.1.getD t.toNat (0,0,false,0,0,0,0,0)).1,((b1.1.getD t.toNat (0,0,false,0,0,0,0,0)).2.1+1),(b1.1.getD t.toNat (0,0,false,0,0,0,0,0)).2.2)).length) <| ck (kAt Y2 ((4+((p.getD (b1.2.1.getD (b1.1.getD t.toNat (0,0,false,0,0,0,0,0)).2.2.2.1.toNat (0,0,0,0,0,0)).2.2.1.toNat []).getD (b1.1.getD t.toNat (0,0,false,0,0,0,0,0)).2.1.toNat (0,0,0,0)).2.2.2.toNat*1))=some (some .i64)) <| ck (t.toNat<(b1.1.set t.toNat ((b1.1.getD t.toNat (0,0,false,0,0,0,0,0)).1,((b1.1.getD t.toNat (0,0,false,0,0,0,0,0)).2.1+1),(b1.1.getD t.toNat (0,0,false,0,0,0,0,0)).2.2)).length) <| f8 t p_3 p_4 b1 (((b1.1.set t.toNat ((b1.1.getD t.toNat (0,0,false,0,0,0,0,0)).1,((b1.1.getD t.toNat (0,0,false,0,0,0,0,0)).2.1+1),(b1.1.getD t.toNat (0,0,false,0,0,0,0,0)).2.2)).set t.toNat (((b1.1.set t.toNat ((b1.1.getD t.toNat (0,0,false,0,0,0,0,0)).1,((b1.1.getD t.toNat (0,0,false,0,0,0,0,0)).2.1+1),(b1.1.getD t.toNat (0,0,false,0,0,0,0,0)).2.2)).getD t.toNat (0,0,false,0,0,0,0,0)).1,((b1.1.set t.toNat ((b1.1.getD t.toNat (0,0,false,0,0,0,0,0)).1,((b1.1.getD t.toNat (0,0,false,0,0,0,0,0)).2.1+1),(b1.1.getD t.toNat (0,0,false,0,0,0,0,0)).2.2)).getD t.toNat (0,0,false,0,0,0,0,0)).2.1,((b1.1.set t.toNat ((b1.1.getD t.toNat (0,0,false,0,0,0,0,0)).1,((b1.1.getD t.toNat (0,0,false,0,0,0,0,0)).2.1+1),(b1.1.getD t.toNat (0,0,false,0,0,0,0,0)).2.2)).getD t.toNat (0,0,false,0,0,0,0,0)).2.2.1,((b1.1.set t.toNat ((b1.1.getD t.toNat (0,0,false,0,0,0,0,0)).1,((b1.1.getD t.toNat (0,0,false,0,0,0,0,0)).2.1+1),(b1.1.getD t.toNat (0,0,false,0,0,0,0,0)).2.2)).getD t.toNat (0,0,false,0,0,0,0,0)).2.2.2.1,((b1.1.set t.toNat ((b1.1.getD t.toNat (0,0,false,0,0,0,0,0)).1,((b1.1.getD t.toNat (0,0,false,0,0,0,0,0)).2.1+1),(b1.1.getD t.toNat (0,0,false,0,0,0,0,0)).2.2)).getD t.toNat (0,0,false,0,0,0,0,0)).2.2.2.2.1,((b1.1.set t.toNat ((b1.1.getD t.toNat (0,0,false,0,0,0,0,0)).1,((b1.1.getD t.toNat (0,0,false,0,0,0,0,0)).2.1+1),(b1.1.getD t.toNat (0,0,false,0,0,0,0,0)).2.2)).getD t.toNat (0,0,false,0,0,0,0,0)).2.2.2.2.2.1,((b1.1.set t.toNat ((b1.1.getD t.toNat (0,0,false,0,0,0,0,0)).1,((b1.1.getD t.toNat (0,0,false,0,0,0,0,0)).2.1+1),(b1.1.getD t.toNat (0,0,false,0,0,0,0,0)).2.2)).getD t.toNat (0,0,false,0,0,0,0,0)).2.2.2.2.2.2.1,1)),(b7 Y2 ((b1.1.set t.toNat ((b1.1.getD t.toNat (0,0,false,0,0,0,0,0)).1,((b1.1.getD t.toNat (0,0,false,0,0,0,0,0)).2.1+1),(b1.1.getD t.toNat (0,0,false,0,0,0,0,0)).2.2)).getD t.toNat (0,0,false,0,0,0,0,0)) (4+((p.getD (b1.2.1.getD (b1.1.getD t.toNat (0,0,false,0,0,0,0,0)).2.2.2.1.toNat (0,0,0,0,0,0)).2.2.1.toNat []).getD (b1.1.getD t.toNat (0,0,false,0,0,0,0,0)).2.1.toNat (0,0,0,0)).2.2.2.toNat*1)),p_6,p_7,b1.2.1)
  else
  ck (t.toNat<(b1.1.set t.toNat ((b1.1.getD t.toNat (0,0,false,0,0,0,0,0)).1,((b1.1.getD t.toNat (0,0,false,0,0,0,0,0)).2.1+1),(b1.1.getD t.toNat (0,0,false,0,0,0,0,0)).2.2)).length) <| f8 t p_3 p_4 b1 (((b1.1.set t.toNat ((b1.1.getD t.toNat (0,0,false,0,0,0,0,0)).1,((b1.1.getD t.toNat (0,0,false,0,0,0,0,0)).2.1+1),(b1.1.getD t.toNat (0,0,false,0,0,0,0,0)).2.2)).set t.toNat (((b1.1.set t.toNat ((b1.1.getD t.toNat (0,0,false,0,0,0,0,0)).1,((b1.1.getD t.toNat (0,0,false,0,0,0,0,0)).2.1+1),(b1.1.getD t.toNat (0,0,false,0,0,0,0,0)).2.2)).getD t.toNat (0,0,false,0,0,0,0,0)).1,((b1.1.set t.toNat ((b1.1.getD t.toNat (0,0,false,0,0,0,0,0)).1,((b1.1.getD t.toNat (0,0,false,0,0,0,0,0)).2.1+1),(b1.1.getD t.toNat (0,0,false,0,0,0,0,0)).2.2)).getD t.toNat (0,0,false,0,0,0,0,0)).2.1,((b1.1.set t.toNat ((b1.1.getD t.toNat (0,0,false,0,0,0,0,0)).1,((b1.1.getD t.toNat (0,0,false,0,0,0,0,0)).2.1+1),(b1.1.getD t.toNat (0,0,false,0,0,0,0,0)).2.2)).getD t.toNat (0,0,false,0,0,0,0,0)).2.2.1,((b1.1.set t.toNat ((b1.1.getD t.toNat (0,0,false,0,0,0,0,0)).1,((b1.1.getD t.toNat (0,0,false,0,0,0,0,0)).2.1+1),(b1.1.getD t.toNat (0,0,false,0,0,0,0,0)).2.2)).getD t.toNat (0,0,false,0,0,0,0,0)).2.2.2.1,((b1.1.set t.toNat ((b1.1.getD t.toNat (0,0,false,0,0,0,0,0)).1,((b1.1.getD t.toNat (0,0,false,0,0,0,0,0)).2.1+1),(b1.1.getD t.toNat (0,0,false,0,0,0,0,0)).2.2)).getD t.toNat (0,0,false,0,0,0,0,0)).2.2.2.2.1,((b1.1.set t.toNat ((b1.1.getD t.toNat (0,0,false,0,0,0,0,0)).1,((b1.1.getD t.toNat (0,0,false,0,0,0,0,0)).2.1+1),(b1.1.getD t.toNat (0,0,false,0,0,0,0,0)).2.2)).getD t.toNat (0,0,false,0,0,0,0,0)).2.2.2.2.2.1,((b1.1.set t.toNat ((b1.1.getD t.toNat (0,0,false,0,0,0,0,0)).1,((b1.1.getD t.toNat (0,0,false,0,0,0,0,0)).2.1+1),(b1.1.getD t.toNat (0,0,false,0,0,0,0,0)).2.2)).getD t.toNat (0,0,false,0,0,0,0,0)).2.2.2.2.2.2.1,0)),p_5,p_6,p_7,b1.2.1)
  else
  if (decide (((p.getD (b1.2.1.getD (b1.1.getD t.toNat (0,0,false,0,0,0,0,0)).2.2.2.1.toNat (0,0,0,0,0,0)).2.2.1.toNat []).getD (b1.1.getD t.toNat (0,0,false,0,0,0,0,0)).2.1.toNat (0,0,0,0)).2.1=1))=true then
  ck (0≤((p.getD (b1.2.1.getD (b1.1.getD t.toNat (0,0,false,0,0,0,0,0)).2.2.2.1.toNat (0,0,0,0,0,0)).2.2.1.toNat []).getD (b1.1.getD t.toNat (0,0,false,0,0,0,0,0)).2.1.toNat (0,0,0,0)).2.2.1) <| ck (((p.getD (b1.2.1.getD (b1.1.getD t.toNat (0,0,false,0,0,0,0,0)).2.2.2.1.toNat (0,0,0,0,0,0)).2.2.1.toNat []).getD (b1.1.getD t.toNat (0,0,false,0,0,0,0,0)).2.1.toNat (0,0,0,0)).2.2.1<4) <| ck (t.toNat<(b1.1.set t.toNat ((b1.1.getD t.toNat (0,0,false,0,0,0,0,0)).1,((b1.1.getD t.toNat (0,0,false,0,0,0,0,0)).2.1+1),(b1.1.getD t.toNat (0,0,false,0,0,0,0,0)).2.2)).length) <| ck (kAt Y2 ((4+((p.getD (b1.2.1.getD (b1.1.getD t.toNat (0,0,false,0,0,0,0,0)).2.2.2.1.toNat (0,0,0,0,0,0)).2.2.1.toNat []).getD (b1.1.getD t.toNat (0,0,false,0,0,0,0,0)).2.1.toNat (0,0,0,0)).2.2.1.toNat*1))=some (some .i64)) <| if (decide (p_6=(b7 Y2 ((b1.1.set t.toNat ((b1.1.getD t.toNat (0,0,false,0,0,0,0,0)).1,((b1.1.getD t.toNat (0,0,false,0,0,0,0,0)).2.1+1),(b1.1.getD t.toNat (0,0,false,0,0,0,0,0)).2.2)).getD t.toNat (0,0,false,0,0,0,0,0)) (4+((p.getD (b1.2.1.getD (b1.1.getD t.toNat (0,0,false,0,0,0,0,0)).2.2.2.1.toNat (0,0,0,0,0,0)).2.2.1.toNat []).getD (b1.1.getD t.toNat (0,0,false,0,0,0,0,0)).2.1.toNat (0,0,0,0)).2.2.1.toNat*1))))=true then
  ck (0≤((p.getD (b1.2.1.getD (b1.1.getD t.toNat (0,0,false,0,0,0,0,0)).2.2.2.1.toNat (0,0,0,0,0,0)).2.2.1.toNat []).getD (b1.1.getD t.toNat (0,0,false,0,0,0,0,0)).2.1.toNat (0,0,0,0)).2.2.2) <| ck (((p.getD (b1.2.1.getD (b1.1.getD t.toNat (0,0,false,0,0,0,0,0)).2.2.2.1.toNat (0,0,0,0,0,0)).2.2.1.toNat []).getD (b1.1.getD t.toNat (0,0,false,0,0,0,0,0)).2.1.toNat (0,0,0,0)).2.2.2<4) <| ck (t.toNat<(b1.1.set t.toNat ((b1.1.getD t.toNat (0,0,false,0,0,0,0,0)).1,((b1.1.getD t.toNat (0,0,false,0,0,0,0,0)).2.1+1),(b1.1.getD t.toNat (0,0,false,0,0,0,0,0)).2.2)).length) <| ck (kAt Y2 ((4+((p.getD (b1.2.1.getD (b1.1.getD t.toNat (0,0,false,0,0,0,0,0)).2.2.2.1.toNat (0,0,0,0,0,0)).2.2.1.toNat []).getD (b1.1.getD t.toNat (0,0,false,0,0,0,0,0)).2.1.toNat (0,0,0,0)).2.2.2.toNat*1))=some (some .i64)) <| ck (t.toNat<(b1.1.set t.toNat ((b1.1.getD t.toNat (0,0,false,0,0,0,0,0)).1,((b1.1.getD t.toNat (0,0,false,0,0,0,0,0)).2.1+1),(b1.1.getD t.toNat (0,0,false,0,0,0,0,0)).2.2)).length) <| f8 t p_3 p_4 b1 (((b1.1.set t.toNat ((b1.1.getD t.toNat (0,0,false,0,0,0,0,0)).1,((b1.1.getD t.toNat (0,0,false,0,0,0,0,0)).2.1+1),(b1.1.getD t.toNat (0,0,false,0,0,0,0,0)).2.2)).set t.toNat (((b1.1.set t.toNat ((b1.1.getD t.toNat (0,0,false,0,0,0,0,0)).1,((b1.1.getD t.toNat (0,0,false,0,0,0,0,0)).2.1+1),(b1.1.getD t.toNat (0,0,false,0,0,0,0,0)).2.2)).getD t.toNat (0,0,false,0,0,0,0,0)).1,((b1.1.set t.toNat ((b1.1.getD t.toNat (0,0,false,0,0,0,0,0)).1,((b1.1.getD t.toNat (0,0,false,0,0,0,0,0)).2.1+1),(b1.1.getD t.toNat (0,0,false,0,0,0,0,0)).2.2)).getD t.toNat (0,0,false,0,0,0,0,0)).2.1,((b1.1.set t.toNat ((b1.1.getD t.toNat (0,0,false,0,0,0,0,0)).1,((b1.1.getD t.toNat (0,0,false,0,0,0,0,0)).2.1+1),(b1.1.getD t.toNat (0,0,false,0,0,0,0,0)).2.2)).getD t.toNat (0,0,false,0,0,0,0,0)).2.2.1,((b1.1.set t.toNat ((b1.1.getD t.toNat (0,0,false,0,0,0,0,0)).1,((b1.1.getD t.toNat (0,0,false,0,0,0,0,0)).2.1+1),(b1.1.getD t.toNat (0,0,false,0,0,0,0,0)).2.2)).getD t.toNat (0,0,false,0,0,0,0,0)).2.2.2.1,((b1.1.set t.toNat ((b1.1.getD t.toNat (0,0,false,0,0,0,0,0)).1,((b1.1.getD t.toNat (0,0,false,0,0,0,0,0)).2.1+1),(b1.1.getD t.toNat (0,0,false,0,0,0,0,0)).2.2)).getD t.toNat (0,0,false,0,0,0,0,0)).2.2.2.2.1,((b1.1.set t.toNat ((b1.1.getD t.toNat (0,0,false,0,0,0,0,0)).1,((b1.1.getD t.toNat (0,0,false,0,0,0,0,0)).2.1+1),(b1.1.getD t.toNat (0,0,false,0,0,0,0,0)).2.2)).getD t.toNat (0,0,false,0,0,0,0,0)).2.2.2.2.2.1,((b1.1.set t.toNat ((b1.1.getD t.toNat (0,0,false,0,0,0,0,0)).1,((b1.1.getD t.toNat (0,0,false,0,0,0,0,0)).2.1+1),(b1.1.getD t.toNat (0,0,false,0,0,0,0,0)).2.2)).getD t.toNat (0,0,false,0,0,0,0,0)).2.2.2.2.2.2.1,1)),p_5,(b7 Y2 ((b1.1.set t.toNat ((b1.1.getD t.toNat (0,0,false,0,0,0,0,0)).1,((b1.1.getD t.toNat (0,0,false,0,0,0,0,0)).2.1+1),(b1.1.getD t.toNat (0,0,false,0,0,0,0,0)).2.2)).getD t.toNat (0,0,false,0,0,0,0,0)) (4+((p.getD (b1.2.1.getD (b1.1.getD t.toNat (0,0,false,0,0,0,0,0)).2.2.2.1.toNat (0,0,0,0,0,0)).2.2.1.toNat []).getD (b1.1.getD t.toNat (0,0,false,0,0,0,0,0)).2.1.toNat (0,0,0,0)).2.2.2.toNat*1)),p_7,b1.2.1)
  else
  ck (t.toNat<(b1.1.set t.toNat ((b1.1.getD t.toNat (0,0,false,0,0,0,0,0)).1,((b1.1.getD t.toNat (0,0,false,0,0,0,0,0)).2.1+1),(b1.1.getD t.toNat (0,0,false,0,0,0,0,0)).2.2)).length) <| f8 t p_3 p_4 b1 (((b1.1.set t.toNat ((b1.1.getD t.toNat (0,0,false,0,0,0,0,0)).1,((b1.1.getD t.toNat (0,0,false,0,0,0,0,0)).2.1+1),(b1.1.getD t.toNat (0,0,false,0,0,0,0,0)).2.2)).set t.toNat (((b1.1.set t.toNat ((b1.1.getD t.toNat (0,0,false,0,0,0,0,0)).1,((b1.1.getD t.toNat (0,0,false,0,0,0,0,0)).2.1+1),(b1.1.getD t.toNat (0,0,false,0,0,0,0,0)).2.2)).getD t.toNat (0,0,false,0,0,0,0,0)).1,((b1.1.set t.toNat ((b1.1.getD t.toNat (0,0,false,0,0,0,0,0)).1,((b1.1.getD t.toNat (0,0,false,0,0,0,0,0)).2.1+1),(b1.1.getD t.toNat (0,0,false,0,0,0,0,0)).2.2)).getD t.toNat (0,0,false,0,0,0,0,0)).2.1,((b1.1.set t.toNat ((b1.1.getD t.toNat (0,0,false,0,0,0,0,0)).1,((b1.1.getD t.toNat (0,0,false,0,0,0,0,0)).2.1+1),(b1.1.getD t.toNat (0,0,false,0,0,0,0,0)).2.2)).getD t.toNat (0,0,false,0,0,0,0,0)).2.2.1,((b1.1.set t.toNat ((b1.1.getD t.toNat (0,0,false,0,0,0,0,0)).1,((b1.1.getD t.toNat (0,0,false,0,0,0,0,0)).2.1+1),(b1.1.getD t.toNat (0,0,false,0,0,0,0,0)).2.2)).getD t.toNat (0,0,false,0,0,0,0,0)).2.2.2.1,((b1.1.set t.toNat ((b1.1.getD t.toNat (0,0,false,0,0,0,0,0)).1,((b1.1.getD t.toNat (0,0,false,0,0,0,0,0)).2.1+1),(b1.1.getD t.toNat (0,0,false,0,0,0,0,0)).2.2)).getD t.toNat (0,0,false,0,0,0,0,0)).2.2.2.2.1,((b1.1.set t.toNat ((b1.1.getD t.toNat (0,0,false,0,0,0,0,0)).1,((b1.1.getD t.toNat (0,0,false,0,0,0,0,0)).2.1+1),(b1.1.getD t.toNat (0,0,false,0,0,0,0,0)).2.2)).getD t.toNat (0,0,false,0,0,0,0,0)).2.2.2.2.2.1,((b1.1.set t.toNat ((b1.1.getD t.toNat (0,0,false,0,0,0,0,0)).1,((b1.1.getD t.toNat (0,0,false,0,0,0,0,0)).2.1+1),(b1.1.getD t.toNat (0,0,false,0,0,0,0,0)).2.2)).getD t.toNat (0,0,false,0,0,0,0,0)).2.2.2.2.2.2.1,0)),p_5,p_6,p_7,b1.2.1)
  else
  ck (0≤((p.getD (b1.2.1.getD (b1.1.getD t.toNat (0,0,false,0,0,0,0,0)).2.2.2.1.toNat (0,0,0,0,0,0)).2.2.1.toNat []).getD (b1.1.getD t.toNat (0,0,false,0,0,0,0,0)).2.1.toNat (0,0,0,0)).2.2.1) <| ck (((p.getD (b1.2.1.getD (b1.1.getD t.toNat (0,0,false,0,0,0,0,0)).2.2.2.1.toNat (0,0,0,0,0,0)).2.2.1.toNat []).getD (b1.1.getD t.toNat (0,0,false,0,0,0,0,0)).2.1.toNat (0,0,0,0)).2.2.1<4) <| ck (t.toNat<(b1.1.set t.toNat ((b1.1.getD t.toNat (0,0,false,0,0,0,0,0)).1,((b1.1.getD t.toNat (0,0,false,0,0,0,0,0)).2.1+1),(b1.1.getD t.toNat (0,0,false,0,0,0,0,0)).2.2)).length) <| ck (kAt Y2 ((4+((p.getD (b1.2.1.getD (b1.1.getD t.toNat (0,0,false,0,0,0,0,0)).2.2.2.1.toNat (0,0,0,0,0,0)).2.2.1.toNat []).getD (b1.1.getD t.toNat (0,0,false,0,0,0,0,0)).2.1.toNat (0,0,0,0)).2.2.1.toNat*1))=some (some .i64)) <| if (decide (p_7=(b7 Y2 ((b1.1.set t.toNat ((b1.1.getD t.toNat (0,0,false,0,0,0,0,0)).1,((b1.1.getD t.toNat (0,0,false,0,0,0,0,0)).2.1+1),(b1.1.getD t.toNat (0,0,false,0,0,0,0,0)).2.2)).getD t.toNat (0,0,false,0,0,0,0,0)) (4+((p.getD (b1.2.1.getD (b1.1.getD t.toNat (0,0,false,0,0,0,0,0)).2.2.2.1.toNat (0,0,0,0,0,0)).2.2.1.toNat []).getD (b1.1.getD t.toNat (0,0,false,0,0,0,0,0)).2.1.toNat (0,0,0,0)).2.2.1.toNat*1))))=true then
  ck (0≤((p.getD (b1.2.1.getD (b1.1.getD t.toNat (0,0,false,0,0,0,0,0)).2.2.2.1.toNat (0,0,0,0,0,0)).2.2.1.toNat []).getD (b1.1.getD t.toNat (0,0,false,0,0,0,0,0)).2.1.toNat (0,0,0,0)).2.2.2) <| ck (((p.getD (b1.2.1.getD (b1.1.getD t.toNat (0,0,false,0,0,0,0,0)).2.2.2.1.toNat (0,0,0,0,0,0)).2.2.1.toNat []).getD (b1.1.getD t.toNat (0,0,false,0,0,0,0,0)).2.1.toNat (0,0,0,0)).2.2.2<4) <| ck (t.toNat<(b1.1.set t.toNat ((b1.1.getD t.toNat (0,0,false,0,0,0,0,0)).1,((b1.1.getD t.toNat (0,0,false,0,0,0,0,0)).2.1+1),(b1.1.getD t.toNat (0,0,false,0,0,0,0,0)).2.2)).length) <| ck (kAt Y2 ((4+((p.getD (b1.2.1.getD (b1.1.getD t.toNat (0,0,false,0,0,0,0,0)).2.2.2.1.toNat (0,0,0,0,0,0)).2.2.1.toNat []).getD (b1.1.getD t.toNat (0,0,false,0,0,0,0,0)).2.1.toNat (0,0,0,0)).2.2.2.toNat*1))=some (some .i64)) <| ck (t.toNat<(b1.1.set t.toNat ((b1.1.getD t.toNat (0,0,false,0,0,0,0,0)).1,((b1.1.getD t.toNat (0,0,false,0,0,0,0,0)).2.1+1),(b1.1.getD t.toNat (0,0,false,0,0,0,0,0)).2.2)).length) <| f8 t p_3 p_4 b1 (((b1.1.set t.toNat ((b1.1.getD t.toNat (0,0,false,0,0,0,0,0)).1,((b1.1.getD t.toNat (0,0,false,0,0,0,0,0)).2.1+1),(b1.1.getD t.toNat (0,0,false,0,0,0,0,0)).2.2)).set t.toNat (((b1.1.set t.toNat ((b1.1.getD t.toNat (0,0,false,0,0,0,0,0)).1,((b1.1.getD t.toNat (0,0,false,0,0,0,0,0)).2.1+1),(b1.1.getD t.toNat (0,0,false,0,0,0,0,0)).2.2)).getD t.toNat (0,0,false,0,0,0,0,0)).1,((b1.1.set t.toNat ((b1.1.getD t.toNat (0,0,false,0,0,0,0,0)).1,((b1.1.getD t.toNat (0,0,false,0,0,0,0,0)).2.1+1),(b1.1.getD t.toNat (0,0,false,0,0,0,0,0)).2.2)).getD t.toNat (0,0,false,0,0,0,0,0)).2.1,((b1.1.set t.toNat ((b1.1.getD t.toNat (0,0,false,0,0,0,0,0)).1,((b1.1.getD t.toNat (0,0,false,0,0,0,0,0)).2.1+1),(b1.1.getD t.toNat (0,0,false,0,0,0,0,0)).2.2)).getD t.toNat (0,0,false,0,0,0,0,0)).2.2.1,((b1.1.set t.toNat ((b1.1.getD t.toNat (0,0,false,0,0,0,0,0)).1,((b1.1.getD t.toNat (0,0,false,0,0,0,0,0)).2.1+1),(b1.1.getD t.toNat (0,0,false,0,0,0,0,0)).2.2)).getD t.toNat (0,0,false,0,0,0,0,0)).2.2.2.1,((b1.1.set t.toNat ((b1.1.getD t.toNat (0,0,false,0,0,0,0,0)).1,((b1.1.getD t.toNat (0,0,false,0,0,0,0,0)).2.1+1),(b1.1.getD t.toNat (0,0,false,0,0,0,0,0)).2.2)).getD t.toNat (0,0,false,0,0,0,0,0)).2.2.2.2.1,((b1.1.set t.toNat ((b1.1.getD t.toNat (0,0,false,0,0,0,0,0)).1,((b1.1.getD t.toNat (0,0,false,0,0,0,0,0)).2.1+1),(b1.1.getD t.toNat (0,0,false,0,0,0,0,0)).2.2)).getD t.toNat (0,0,false,0,0,0,0,0)).2.2.2.2.2.1,((b1.1.set t.toNat ((b1.1.getD t.toNat (0,0,false,0,0,0,0,0)).1,((b1.1.getD t.toNat (0,0,false,0,0,0,0,0)).2.1+1),(b1.1.getD t.toNat (0,0,false,0,0,0,0,0)).2.2)).getD t.toNat (0,0,false,0,0,0,0,0)).2.2.2.2.2.2.1,1)),p_5,p_6,(b7 Y2 ((b1.1.set t.toNat ((b1.1.getD t.toNat (0,0,false,0,0,0,0,0)).1,((b1.1.getD t.toNat (0,0,false,0,0,0,0,0)).2.1+1),(b1.1.getD t.toNat (0,0,false,0,0,0,0,0)).2.2)).getD t.toNat (0,0,false,0,0,0,0,0)) (4+((p.getD (b1.2.1.getD (b1.1.getD t.toNat (0,0,false,0,0,0,0,0)).2.2.2.1.toNat (0,0,0,0,0,0)).2.2.1.toNat []).getD (b1.1.getD t.toNat (0,0,false,0,0,0,0,0)).2.1.toNat (0,0,0,0)).2.2.2.toNat*1)),b1.2.1)
  else
  ck (t.toNat<(b1.1.set t.toNat ((b1.1.getD t.toNat (0,0,false,0,0,0,0,0)).1,((b1.1.getD t.toNat (0,0,false,0,0,0,0,0)).2.1+1),(b1.1.getD t.toNat (0,0,false,0,0,0,0,0)).2.2)).length) <| f8 t p_3 p_4 b1 (((b1.1.set t.toNat ((b1.1.getD t.toNat (0,0,false,0,0,0,0,0)).1,((b1.1.getD t.toNat (0,0,false,0,0,0,0,0)).2.1+1),(b1.1.getD t.toNat (0,0,false,0,0,0,0,0)).2.2)).set t.toNat (((b1.1.set t.toNat ((b1.1.getD t.toNat (0,0,false,0,0,0,0,0)).1,((b1.1.getD t.toNat (0,0,false,0,0,0,0,0)).2.1+1),(b1.1.getD t.toNat (0,0,false,0,0,0,0,0)).2.2)).getD t.toNat (0,0,false,0,0,0,0,0)).1,((b1.1.set t.toNat ((b1.1.getD t.toNat (0,0,false,0,0,0,0,0)).1,((b1.1.getD t.toNat (0,0,false,0,0,0,0,0)).2.1+1),(b1.1.getD t.toNat (0,0,false,0,0,0,0,0)).2.2)).getD t.toNat (0,0,false,0,0,0,0,0)).2.1,((b1.1.set t.toNat ((b1.1.getD t.toNat (0,0,false,0,0,0,0,0)).1,((b1.1.getD t.toNat (0,0,false,0,0,0,0,0)).2.1+1),(b1.1.getD t.toNat (0,0,false,0,0,0,0,0)).2.2)).getD t.toNat (0,0,false,0,0,0,0,0)).2.2.1,((b1.1.set t.toNat ((b1.1.getD t.toNat (0,0,false,0,0,0,0,0)).1,((b1.1.getD t.toNat (0,0,false,0,0,0,0,0)).2.1+1),(b1.1.getD t.toNat (0,0,false,0,0,0,0,0)).2.2)).getD t.toNat (0,0,false,0,0,0,0,0)).2.2.2.1,((b1.1.set t.toNat ((b1.1.getD t.toNat (0,0,false,0,0,0,0,0)).1,((b1.1.getD t.toNat (0,0,false,0,0,0,0,0)).2.1+1),(b1.1.getD t.toNat (0,0,false,0,0,0,0,0)).2.2)).getD t.toNat (0,0,false,0,0,0,0,0)).2.2.2.2.1,((b1.1.set t.toNat ((b1.1.getD t.toNat (0,0,false,0,0,0,0,0)).1,((b1.1.getD t.toNat (0,0,false,0,0,0,0,0)).2.1+1),(b1.1.getD t.toNat (0,0,false,0,0,0,0,0)).2.2)).getD t.toNat (0,0,false,0,0,0,0,0)).2.2.2.2.2.1,((b1.1.set t.toNat ((b1.1.getD t.toNat (0,0,false,0,0,0,0,0)).1,((b1.1.getD t.toNat (0,0,false,0,0,0,0,0)).2.1+1),(b1.1.getD t.toNat (0,0,false,0,0,0,0,0)).2.2)).getD t.toNat (0,0,false,0,0,0,0,0)).2.2.2.2.2.2.1,0)),p_5,p_6,p_7,b1.2.1)
  else
  if (decide (((p.getD (b1.2.1.getD (b1.1.getD t.toNat (0,0,false,0,0,0,0,0)).2.2.2.1.toNat (0,0,0,0,0,0)).2.2.1.toNat []).getD (b1.1.getD t.toNat (0,0,false,0,0,0,0,0)).2.1.toNat (0,0,0,0)).1=4))=true then
  ck (0≤((p.getD (b1.2.1.getD (b1.1.getD t.toNat (0,0,false,0,0,0,0,0)).2.2.2.1.toNat (0,0,0,0,0,0)).2.2.1.toNat []).getD (b1.1.getD t.toNat (0,0,false,0,0,0,0,0)).2.1.toNat (0,0,0,0)).2.1) <| ck (((p.getD (b1.2.1.getD (b1.1.getD t.toNat (0,0,false,0,0,0,0,0)).2.2.2.1.toNat (0,0,0,0,0,0)).2.2.1.toNat []).getD (b1.1.getD t.toNat (0,0,false,0,0,0,0,0)).2.1.toNat (0,0,0,0)).2.1<4) <| ck (t.toNat<(b1.1.set t.toNat ((b1.1.getD t.toNat (0,0,false,0,0,0,0,0)).1,((b1.1.getD t.toNat (0,0,false,0,0,0,0,0)).2.1+1),(b1.1.getD t.toNat (0,0,false,0,0,0,0,0)).2.2)).length) <| ck (kAt Y2 ((4+((p.getD (b1.2.1.getD (b1.1.getD t.toNat (0,0,false,0,0,0,0,0)).2.2.2.1.toNat (0,0,0,0,0,0)).2.2.1.toNat []).getD (b1.1.getD t.toNat (0,0,false,0,0,0,0,0)).2.1.toNat (0,0,0,0)).2.1.toNat*1))=some (some .i64)) <| f8 t p_3 p_4 b1 (((b1.1.set t.toNat ((b1.1.getD t.toNat (0,0,false,0,0,0,0,0)).1,((b1.1.getD t.toNat (0,0,false,0,0,0,0,0)).2.1+1),(b1.1.getD t.toNat (0,0,false,0,0,0,0,0)).2.2)).set t.toNat (f9 Y2 ((b1.1.set t.toNat ((b1.1.getD t.toNat (0,0,false,0,0,0,0,0)).1,((b1.1.getD t.toNat (0,0,false,0,0,0,0,0)).2.1+1),(b1.1.getD t.toNat (0,0,false,0,0,0,0,0)).2.2)).getD t.toNat (0,0,false,0,0,0,0,0)) (4+((p.getD (b1.2.1.getD (b1.1.getD t.toNat (0,0,false,0,0,0,0,0)).2.2.2.1.toNat (0,0,0,0,0,0)).2.2.1.toNat []).getD (b1.1.getD t.toNat (0,0,false,0,0,0,0,0)).2.1.toNat (0,0,0,0)).2.1.toNat*1) ((p.getD (b1.2.1.getD (b1.1.getD t.toNat (0,0,false,0,0,0,0,0)).2.2.2.1.toNat (0,0,0,0,0,0)).2.2.1.toNat []).getD (b1.1.getD t.toNat (0,0,false,0,0,0,0,0)).2.1.toNat (0,0,0,0)).2.2.1)),p_5,p_6,p_7,b1.2.1)
  else
  if (decide (((p.getD (b1.2.1.getD (b1.1.getD t.toNat (0,0,false,0,0,0,0,0)).2.2.2.1.toNat (0,0,0,0,0,0)).2.2.1.toNat []).getD (b1.1.getD t.toNat (0,0,false,0,0,0,0,0)).2.1.toNat (0,0,0,0)).1=5))=true then
  ck (0≤((p.getD (b1.2.1.getD (b1.1.getD t.toNat (0,0,false,0,0,0,0,0)).2.2.2.1.toNat (0,0,0,0,0,0)).2.2.1.toNat []).getD (b1.1.getD t.toNat (0,0,false,0,0,0,0,0)).2.1.toNat (0,0,0,0)).2.2.1) <| ck (((p.getD (b1.2.1.getD (b1.1.getD t.toNat (0,0,false,0,0,0,0,0)).2.2.2.1.toNat (0,0,0,0,0,0)).2.2.1.toNat []).getD (b1.1.getD t.toNat (0,0,false,0,0,0,0,0)).2.1.toNat (0,0,0,0)).2.2.1<4) <| ck (t.toNat<(b1.1.set t.toNat ((b1.1.getD t.toNat (0,0,false,0,0,0,0,0)).1,((b1.1.getD t.toNat (0,0,false,0,0,0,0,0)).2.1+1),(b1.1.getD t.toNat (0,0,false,0,0,0,0,0)).2.2)).length) <| ck (kAt Y2 ((4+((p.getD (b1.2.1.getD (b1.1.getD t.toNat (0,0,false,0,0,0,0,0)).2.2.2.1.toNat (0,0,0,0,0,0)).2.2.1.toNat []).getD (b1.1.getD t.toNat (0,0,false,0,0,0,0,0)).2.1.toNat (0,0,0,0)).2.2.1.toNat*1))=some (some .i64)) <| ck (0≤((p.getD (b1.2.1.getD (b1.1.getD t.toNat (0,0,false,0,0,0,0,0)).2.2.2.1.toNat (0,0,0,0,0,0)).2.2.1.toNat []).getD (b1.1.getD t.toNat (0,0,false,0,0,0,0,0)).2.1.toNat (0,0,0,0)).2.2.2) <| ck (((p.getD (b1.2.1.getD (b1.1.getD t.toNat (0,0,false,0,0,0,0,0)).2.2.2.1.toNat (0,0,0,0,0,0)).2.2.1.toNat []).getD (b1.1.getD t.toNat (0,0,false,0,0,0,0,0)).2.1.toNat (0,0,0,0)).2.2.2<4) <| ck (t.toNat<(b1.1.set t.toNat ((b1.1.getD t.toNat (0,0,false,0,0,0,0,0)).1,((b1.1.getD t.toNat (0,0,false,0,0,0,0,0)).2.1+1),(b1.1.getD t.toNat (0,0,false,0,0,0,0,0)).2.2)).length) <| ck (kAt Y2 ((4+((p.getD (b1.2.1.getD (b1.1.getD t.toNat (0,0,false,0,0,0,0,0)).2.2.2.1.toNat (0,0,0,0,0,0)).2.2.1.toNat []).getD (b1.1.getD t.toNat (0,0,false,0,0,0,0,0)).2.1.toNat (0,0,0,0)).2.2.2.toNat*1))=some (some .i64)) <| ck (InK .i64 ((b7 Y2 ((b1.1.set t.toNat ((b1.1.getD t.toNat (0,0,false,0,0,0,0,0)).1,((b1.1.getD t.toNat (0,0,false,0,0,0,0,0)).2.1+1),(b1.1.getD t.toNat (0,0,false,0,0,0,0,0)).2.2)).getD t.toNat (0,0,false,0,0,0,0,0)) (4+((p.getD (b1.2.1.getD (b1.1.getD t.toNat (0,0,false,0,0,0,0,0)).2.2.2.1.toNat (0,0,0,0,0,0)).2.2.1.toNat []).getD (b1.1.getD t.toNat (0,0,false,0,0,0,0,0)).2.1.toNat (0,0,0,0)).2.2.1.toNat*1))+(b7 Y2 ((b1.1.set t.toNat ((b1.1.getD t.toNat (0,0,false,0,0,0,0,0)).1,((b1.1.getD t.toNat (0,0,false,0,0,0,0,0)).2.1+1),(b1.1.getD t.toNat (0,0,false,0,0,0,0,0)).2.2)).getD t.toNat (0,0,false,0,0,0,0,0)) (4+((p.getD (b1.2.1.getD (b1.1.getD t.toNat (0,0,false,0,0,0,0,0)).2.2.2.1.toNat (0,0,0,0,0,0)).2.2.1.toNat []).getD (b1.1.getD t.toNat (0,0,false,0,0,0,0,0)).2.1.toNat (0,0,0,0)).2.2.2.toNat*1)))) <| ck (0≤((b7 Y2 ((b1.1.set t.toNat ((b1.1.getD t.toNat (0,0,false,0,0,0,0,0)).1,((b1.1.getD t.toNat (0,0,false,0,0,0,0,0)).2.1+1),(b1.1.getD t.toNat (0,0,false,0,0,0,0,0)).2.2)).getD t.toNat (0,0,false,0,0,0,0,0)) (4+((p.getD (b1.2.1.getD (b1.1.getD t.toNat (0,0,false,0,0,0,0,0)).2.2.2.1.toNat (0,0,0,0,0,0)).2.2.1.toNat []).getD (b1.1.getD t.toNat (0,0,false,0,0,0,0,0)).2.1.toNat (0,0,0,0)).2.2.1.toNat*1))+(b7 Y2 ((b1.1.set t.toNat ((b1.1.getD t.toNat (0,0,false,0,0,0,0,0)).1,((b1.1.getD t.toNat (0,0,false,0,0,0,0,0)).2.1+1),(b1.1.getD t.toNat (0,0,false,0,0,0,0,0)).2.2)).getD t.toNat (0,0,false,0,0,0,0,0)) (4+((p.getD (b1.2.1.getD (b1.1.getD t.toNat (0,0,false,0,0,0,0,0)).2.2.2.1.toNat (0,0,0,0,0,0)).2.2.1.toNat []).getD (b1.1.getD t.toNat (0,0,false,0,0,0,0,0)).2.1.toNat (0,0,0,0)).2.2.2.toNat*1)))) <| ck (0≤((p.getD (b1.2.1.getD (b1.1.getD t.toNat (0,0,false,0,0,0,0,0)).2.2.2.1.toNat (0,0,0,0,0,0)).2.2.1.toNat []).getD (b1.1.getD t.toNat (0,0,false,0,0,0,0,0)).2.1.toNat (0,0,0,0)).2.1) <| ck (((p.getD (b1.2.1.getD (b1.1.getD t.toNat (0,0,false,0,0,0,0,0)).2.2.2.1.toNat (0,0,0,0,0,0)).2.2.1.toNat []).getD (b1.1.getD t.toNat (0,0,false,0,0,0,0,0)).2.1.toNat (0,0,0,0)).2.1<4) <| ck (t.toNat<(b1.1.set t.toNat ((b1.1.getD t.toNat (0,0,false,0,0,0,0,0)).1,((b1.1.getD t.toNat (0,0,false,0,0,0,0,0)).2.1+1),(b1.1.getD t.toNat (0,0,false,0,0,0,0,0)).2.2)).length) <| ck (kAt Y2 ((4+((p.getD (b1.2.1.getD (b1.1.getD t.toNat (0,0,false,0,0,0,0,0)).2.2.2.1.toNat (0,0,0,0,0,0)).2.2.1.toNat []).getD (b1.1.getD t.toNat (0,0,false,0,0,0,0,0)).2.1.toNat (0,0,0,0)).2.1.toNat*1))=some (some .i64)) <| f8 t p_3 p_4 b1 (((b1.1.set t.toNat ((b1.1.getD t.toNat (0,0,false,0,0,0,0,0)).1,((b1.1.getD t.toNat (0,0,false,0,0,0,0,0)).2.1+1),(b1.1.getD t.toNat (0,0,false,0,0,0,0,0)).2.2)).set t.toNat (f9 Y2 ((b1.1.set t.toNat ((b1.1.getD t.toNat (0,0,false,0,0,0,0,0)).1,((b1.1.getD t.toNat (0,0,false,0,0,0,0,0)).2.1+1),(b1.1.getD t.toNat (0,0,false,0,0,0,0,0)).2.2)).getD t.toNat (0,0,false,0,0,0,0,0)) (4+((p.getD (b1.2.1.getD (b1.1.getD t.toNat (0,0,false,0,0,0,0,0)).2.2.2.1.toNat (0,0,0,0,0,0)).2.2.1.toNat []).getD (b1.1.getD t.toNat (0,0,false,0,0,0,0,0)).2.1.toNat (0,0,0,0)).2.1.toNat*1) (((b7 Y2 ((b1.1.set t.toNat ((b1.1.getD t.toNat (0,0,false,0,0,0,0,0)).1,((b1.1.getD t.toNat (0,0,false,0,0,0,0,0)).2.1+1),(b1.1.getD t.toNat (0,0,false,0,0,0,0,0)).2.2)).getD t.toNat (0,0,false,0,0,0,0,0)) (4+((p.getD (b1.2.1.getD (b1.1.getD t.toNat (0,0,false,0,0,0,0,0)).2.2.2.1.toNat (0,0,0,0,0,0)).2.2.1.toNat []).getD (b1.1.getD t.toNat (0,0,false,0,0,0,0,0)).2.1.toNat (0,0,0,0)).2.2.1.toNat*1))+(b7 Y2 ((b1.1.set t.toNat ((b1.1.getD t.toNat (0,0,false,0,0,0,0,0)).1,((b1.1.getD t.toNat (0,0,false,0,0,0,0,0)).2.1+1),(b1.1.getD t.toNat (0,0,false,0,0,0,0,0)).2.2)).getD t.toNat (0,0,false,0,0,0,0,0)) (4+((p.getD (b1.2.1.getD (b1.1.getD t.toNat (0,0,false,0,0,0,0,0)).2.2.2.1.toNat (0,0,0,0,0,0)).2.2.1.toNat []).getD (b1.1.getD t.toNat (0,0,false,0,0,0,0,0)).2.1.toNat (0,0,0,0)).2.2.2.toNat*1))) % 10))),p_5,p_6,p_7,b1.2.1)
  else
  if (decide (((p.getD (b1.2.1.getD (b1.1.getD t.toNat (0,0,false,0,0,0,0,0)).2.2.2.1.toNat (0,0,0,0,0,0)).2.2.1.toNat []).getD (b1.1.getD t.toNat (0,0,false,0,0,0,0,0)).2.1.toNat (0,0,0,0)).1=6))=true then
  ck (0≤((p.getD (b1.2.1.getD (b1.1.getD t.toNat (0,0,false,0,0,0,0,0)).2.2.2.1.toNat (0,0,0,0,0,0)).2.2.1.toNat []).getD (b1.1.getD t.toNat (0,0,false,0,0,0,0,0)).2.1.toNat (0,0,0,0)).2.1) <| ck (((p.getD (b1.2.1.getD (b1.1.getD t.toNat (0,0,false,0,0,0,0,0)).2.2.2.1.toNat (0,0,0,0,0,0)).2.2.1.toNat []).getD (b1.1.getD t.toNat (0,0,false,0,0,0,0,0)).2.1.toNat (0,0,0,0)).2.1<4) <| ck (t.toNat<(b1.1.set t.toNat ((b1.1.getD t.toNat (0,0,false,0,0,0,0,0)).1,((b1.1.getD t.toNat (0,0,false,0,0,0,0,0)).2.1+1),(b1.1.getD t.toNat (0,0,false,0,0,0,0,0)).2.2)).length) <| ck (kAt Y2 ((4+((p.getD (b1.2.1.getD (b1.1.getD t.toNat (0,0,false,0,0,0,0,0)).2.2.2.1.toNat (0,0,0,0,0,0)).2.2.1.toNat []).getD (b1.1.getD t.toNat (0,0,false,0,0,0,0,0)).2.1.toNat (0,0,0,0)).2.1.toNat*1))=some (some .i64)) <| if (decide ((b7 Y2 ((b1.1.set t.toNat ((b1.1.getD t.toNat (0,0,false,0,0,0,0,0)).1,((b1.1.getD t.toNat (0,0,false,0,0,0,0,0)).2.1+1),(b1.1.getD t.toNat (0,0,false,0,0,0,0,0)).2.2)).getD t.toNat (0,0,false,0,0,0,0,0)) (4+((p.getD (b1.2.1.getD (b1.1.getD t.toNat (0,0,false,0,0,0,0,0)).2.2.2.1.toNat (0,0,0,0,0,0)).2.2.1.toNat []).getD (b1.1.getD t.toNat (0,0,false,0,0,0,0,0)).2.1.toNat (0,0,0,0)).2.1.toNat*1))=0))=true then
  ck (t.toNat<(b1.1.set t.toNat ((b1.1.getD t.toNat (0,0,false,0,0,0,0,0)).1,((b1.1.getD t.toNat (0,0,false,0,0,0,0,0)).2.1+1),(b1.1.getD t.toNat (0,0,false,0,0,0,0,0)).2.2)).length) <| f8 t p_3 p_4 b1 (((b1.1.set t.toNat ((b1.1.getD t.toNat (0,0,false,0,0,0,0,0)).1,((b1.1.getD t.toNat (0,0,false,0,0,0,0,0)).2.1+1),(b1.1.getD t.toNat (0,0,false,0,0,0,0,0)).2.2)).set t.toNat (((b1.1.set t.toNat ((b1.1.getD t.toNat (0,0,false,0,0,0,0,0)).1,((b1.1.getD t.toNat (0,0,false,0,0,0,0,0)).2.1+1),(b1.1.getD t.toNat (0,0,false,0,0,0,0,0)).2.2)).getD t.toNat (0,0,false,0,0,0,0,0)).1,((p.getD (b1.2.1.getD (b1.1.getD t.toNat (0,0,false,0,0,0,0,0)).2.2.2.1.toNat (0,0,0,0,0,0)).2.2.1.toNat []).getD (b1.1.getD t.toNat (0,0,false,0,0,0,0,0)).2.1.toNat (0,0,0,0)).2.2.1,((b1.1.set t.toNat ((b1.1.getD t.toNat (0,0,false,0,0,0,0,0)).1,((b1.1.getD t.toNat (0,0,false,0,0,0,0,0)).2.1+1),(b1.1.getD t.toNat (0,0,false,0,0,0,0,0)).2.2)).getD t.toNat (0,0,false,0,0,0,0,0)).2.2)),p_5,p_6,p_7,b1.2.1)
  else
  f8 t p_3 p_4 b1 ((b1.1.set t.toNat ((b1.1.getD t.toNat (0,0,false,0,0,0,0,0)).1,((b1.1.getD t.toNat (0,0,false,0,0,0,0,0)).2.1+1),(b1.1.getD t.toNat (0,0,false,0,0,0,0,0)).2.2)),p_5,p_6,p_7,b1.2.1)
  else
  if (decide (((p.getD (b1.2.1.getD (b1.1.getD t.toNat (0,0,false,0,0,0,0,0)).2.2.2.1.toNat (0,0,0,0,0,0)).2.2.1.toNat []).getD (b1.1.getD t.toNat (0,0,false,0,0,0,0,0)).2.1.toNat (0,0,0,0)).1=7))=true then
  ck (t.toNat<(b1.1.set t.toNat ((b1.1.getD t.toNat (0,0,false,0,0,0,0,0)).1,((b1.1.getD t.toNat (0,0,false,0,0,0,0,0)).2.1+1),(b1.1.getD t.toNat (0,0,false,0,0,0,0,0)).2.2)).length) <| ck (InK .i64 (2*p_4)) <| ck (InK .i64 ((2*p_4)+2)) <| ck (0≤((b1.1.set t.toNat ((b1.1.getD t.toNat (0,0,false,0,0,0,0,0)).1,((b1.1.getD t.toNat (0,0,false,0,0,0,0,0)).2.1+1),(b1.1.getD t.toNat (0,0,false,0,0,0,0,0)).2.2)).getD t.toNat (0,0,false,0,0,0,0,0)).2.2.2.1) <| ck (((b1.1.set t.toNat ((b1.1.getD t.toNat (0,0,false,0,0,0,0,0)).1,((b1.1.getD t.toNat (0,0,false,0,0,0,0,0)).2.1+1),(b1.1.getD t.toNat (0,0,false,0,0,0,0,0)).2.2)).getD t.toNat (0,0,false,0,0,0,0,0)).2.2.2.1<(b1.2.1.length:Int)) <| ck (((b1.1.set t.toNat ((b1.1.getD t.toNat (0,0,false,0,0,0,0,0)).1,((b1.1.getD t.toNat (0,0,false,0,0,0,0,0)).2.1+1),(b1.1.getD t.toNat (0,0,false,0,0,0,0,0)).2.2)).getD t.toNat (0,0,false,0,0,0,0,0)).2.2.2.1.toNat<b1.2.1.length) <| ck (t.toNat<(b1.1.set t.toNat ((b1.1.getD t.toNat (0,0,false,0,0,0,0,0)).1,((b1.1.getD t.toNat (0,0,false,0,0,0,0,0)).2.1+1),(b1.1.getD t.toNat (0,0,false,0,0,0,0,0)).2.2)).length) <| ck (0≤((p.getD (b1.2.1.getD (b1.1.getD t.toNat (0,0,false,0,0,0,0,0)).2.2.2.1.toNat (0,0,0,0,0,0)).2.2.1.toNat []).getD (b1.1.getD t.toNat (0,0,false,0,0,0,0,0)).2.1.toNat (0,0,0,0)).2.1) <| ck (((p.getD (b1.2.1.getD (b1.1.getD t.toNat (0,0,false,0,0,0,0,0)).2.2.2.1.toNat (0,0,0,0,0,0)).2.2.1.toNat []).getD (b1.1.getD t.toNat (0,0,false,0,0,0,0,0)).2.1.toNat (0,0,0,0)).2.1<4) <| ck (t.toNat<(b1.1.set t.toNat ((b1.1.getD t.toNat (0,0,false,0,0,0,0,0)).1,((b1.1.getD t.toNat (0,0,false,0,0,0,0,0)).2.1+1),(b1.1.getD t.toNat (0,0,false,0,0,0,0,0)).2.2)).length) <| ck (kAt Y2 ((4+((p.getD (b1.2.1.getD (b1.1.getD t.toNat (0,0,false,0,0,0,0,0)).2.2.2.1.toNat (0,0,0,0,0,0)).2.2.1.toNat []).getD (b1.1.getD t.toNat (0,0,false,0,0,0,0,0)).2.1.toNat (0,0,0,0)).2.1.toNat*1))=some (some .i64)) <| ck (0≤((b1.1.set t.toNat ((b1.1.getD t.toNat (0,0,false,0,0,0,0,0)).1,((b1.1.getD t.toNat (0,0,false,0,0,0,0,0)).2.1+1),(b1.1.getD t.toNat (0,0,false,0,0,0,0,0)).2.2)).getD t.toNat (0,0,false,0,0,0,0,0)).2.2.2.1) <| ck (((b1.1.set t.toNat ((b1.1.getD t.toNat (0,0,false,0,0,0,0,0)).1,((b1.1.getD t.toNat (0,0,false,0,0,0,0,0)).2.1+1),(b1.1.getD t.toNat (0,0,false,0,0,0,0,0)).2.2)).getD t.toNat (0,0,false,0,0,0,0,0)).2.2.2.1<((b1.2.1.set ((b1.1.set t.toNat ((b1.1.getD t.toNat (0,0,false,0,0,0,0,0)).1,((b1.1.getD t.toNat (0,0,false,0,0,0,0,0)).2.1+1),(b1.1.getD t.toNat (0,0,false,0,0,0,0,0)).2.2)).getD t.toNat (0,0,false,0,0,0,0,0)).2.2.2.1.toNat ((b1.2.1.getD ((b1.1.set t.toNat ((b1.1.getD t.toNat (0,0,false,0,0,0,0,0)).1,((b1.1.getD t.toNat (0,0,false,0,0,0,0,0)).2.1+1),(b1.1.getD t.toNat (0,0,false,0,0,0,0,0)).2.2)).getD t.toNat (0,0,false,0,0,0,0,0)).2.2.2.1.toNat (0,0,0,0,0,0)).1,(b1.2.1.getD ((b1.1.set t.toNat ((b1.1.getD t.toNat (0,0,false,0,0,0,0,0)).1,((b1.1.getD t.toNat (0,0,false,0,0,0,0,0)).2.1+1),(b1.1.getD t.toNat (0,0,false,0,0,0,0,0)).2.2)).getD t.toNat (0,0,false,0,0,0,0,0)).2.2.2.1.toNat (0,0,0,0,0,0)).2.1,(b1.2.1.getD ((b1.1.set t.toNat ((b1.1.getD t.toNat (0,0,false,0,0,0,0,0)).1,((b1.1.getD t.toNat (0,0,false,0,0,0,0,0)).2.1+1),(b1.1.getD t.toNat (0,0,false,0,0,0,0,0)).2.2)).getD t.toNat (0,0,false,0,0,0,0,0)).2.2.2.1.toNat (0,0,0,0,0,0)).2.2.1,(b1.2.1.getD ((b1.1.set t.toNat ((b1.1.getD t.toNat (0,0,false,0,0,0,0,0)).1,((b1.1.getD t.toNat (0,0,false,0,0,0,0,0)).2.1+1),(b1.1.getD t.toNat (0,0,false,0,0,0,0,0)).2.2)).getD t.toNat (0,0,false,0,0,0,0,0)).2.2.2.1.toNat (0,0,0,0,0,0)).2.2.2.1,(b1.2.1.getD ((b1.1.set t.toNat ((b1.1.getD t.toNat (0,0,false,0,0,0,0,0)).1,((b1.1.getD t.toNat (0,0,false,0,0,0,0,0)).2.1+1),(b1.1.getD t.toNat (0,0,false,0,0,0,0,0)).2.2)).getD t.toNat (0,0,false,0,0,0,0,0)).2.2.2.1.toNat (0,0,0,0,0,0)).2.2.2.2.1,((2*p_4)+2))).length:Int)) <| ck (((b1.1.set t.toNat ((b1.1.getD t.toNat (0,0,false,0,0,0,0,0)).1,((b1.1.getD t.toNat (0,0,false,0,0,0,0,0)).2.1+1),(b1.1.getD t.toNat (0,0,false,0,0,0,0,0)).2.2)).getD t.toNat (0,0,false,0,0,0,0,0)).2.2.2.1.toNat<(b1.2.1.set ((b1.1.set t.toNat ((b1.1.getD t.toNat (0,0,false,0,0,0,0,0)).1,((b1.1.getD t.toNat (0,0,false,0,0,0,0,0)).2.1+1),(b1.1.getD t.toNat (0,0,false,0,0,0,0,0)).2.2)).getD t.toNat (0,0,false,0,0,0,0,0)).2.2.2.1.toNat ((b1.2.1.getD ((b1.1.set t.toNat ((b1.1.getD t.toNat (0,0,false,0,0,0,0,0)).1,((b1.1.getD t.toNat (0,0,false,0,0,0,0,0)).2.1+1),(b1.1.getD t.toNat (0,0,false,0,0,0,0,0)).2.2)).getD t.toNat (0,0,false,0,0,0,0,0)).2.2.2.1.toNat (0,0,0,0,0,0)).1,(b1.2.1.getD ((b1.1.set t.toNat ((b1.1.getD t.toNat (0,0,false,0,0,0,0,0)).1,((b1.1.getD t.toNat (0,0,false,0,0,0,0,0)).2.1+1),(b1.1.getD t.toNat (0,0,false,0,0,0,0,0)).2.2)).getD t.toNat (0,0,false,0,0,0,0,0)).2.2.2.1.toNat (0,0,0,0,0,0)).2.1,(b1.2.1.getD ((b1.1.set t.toNat ((b1.1.getD t.toNat (0,0,false,0,0,0,0,0)).1,((b1.1.getD t.toNat (0,0,false,0,0,0,0,0)).2.1+1),(b1.1.getD t.toNat (0,0,false,0,0,0,0,0)).2.2)).getD t.toNat (0,0,false,0,0,0,0,0)).2.2.2.1.toNat (0,0,0,0,0,0)).2.2.1,(b1.2.1.getD ((b1.1.set t.toNat ((b1.1.getD t.toNat (0,0,false,0,0,0,0,0)).1,((b1.1.getD t.toNat (0,0,false,0,0,0,0,0)).2.1+1),(b1.1.getD t.toNat (0,0,false,0,0,0,0,0)).2.2)).getD t.toNat (0,0,false,0,0,0,0,0)).2.2.2.1.toNat (0,0,0,0,0,0)).2.2.2.1,(b1.2.1.getD ((b1.1.set t.toNat ((b1.1.getD t.toNat (0,0,false,0,0,0,0,0)).1,((b1.1.getD t.toNat (0,0,false,0,0,0,0,0)).2.1+1),(b1.1.getD t.toNat (0,0,false,0,0,0,0,0)).2.2)).getD t.toNat (0,0,false,0,0,0,0,0)).2.2.2.1.toNat (0,0,0,0,0,0)).2.2.2.2.1,((2*p_4)+2))).length) <| ck (t.toNat<(b1.1.set t.toNat ((b1.1.getD t.toNat (0,0,false,0,0,0,0,0)).1,((b1.1.getD t.toNat (0,0,false,0,0,0,0,0)).2.1+1),(b1.1.getD t.toNat (0,0,false,0,0,0,0,0)).2.2)).length) <| f8 t p_3 p_4 b1 (((b1.1.set t.toNat ((b1.1.getD t.toNat (0,0,false,0,0,0,0,0)).1,((b1.1.getD t.toNat (0,0,false,0,0,0,0,0)).2.1+1),(b1.1.getD t.toNat (0,0,false,0,0,0,0,0)).2.2)).set t.toNat (((b1.1.set t.toNat ((b1.1.getD t.toNat (0,0,false,0,0,0,0,0)).1,((b1.1.getD t.toNat (0,0,false,0,0,0,0,0)).2.1+1),(b1.1.getD t.toNat (0,0,false,0,0,0,0,0)).2.2)).getD t.toNat (0,0,false,0,0,0,0,0)).1,((b1.1.set t.toNat ((b1.1.getD t.toNat (0,0,false,0,0,0,0,0)).1,((b1.1.getD t.toNat (0,0,false,0,0,0,0,0)).2.1+1),(b1.1.getD t.toNat (0,0,false,0,0,0,0,0)).2.2)).getD t.toNat (0,0,false,0,0,0,0,0)).2.1,false,((b1.1.set t.toNat ((b1.1.getD t.toNat (0,0,false,0,0,0,0,0)).1,((b1.1.getD t.toNat (0,0,false,0,0,0,0,0)).2.1+1),(b1.1.getD t.toNat (0,0,false,0,0,0,0,0)).2.2)).getD t.toNat (0,0,false,0,0,0,0,0)).2.2.2)),p_5,p_6,p_7,((b1.2.1.set ((b1.1.set t.toNat ((b1.1.getD t.toNat (0,0,false,0,0,0,0,0)).1,((b1.1.getD t.toNat (0,0,false,0,0,0,0,0)).2.1+1),(b1.1.getD t.toNat (0,0,false,0,0,0,0,0)).2.2)).getD t.toNat (0,0,false,0,0,0,0,0)).2.2.2.1.toNat ((b1.2.1.getD ((b1.1.set t.toNat ((b1.1.getD t.toNat (0,0,false,0,0,0,0,0)).1,((b1.1.getD t.toNat (0,0,false,0,0,0,0,0)).2.1+1),(b1.1.getD t.toNat (0,0,false,0,0,0,0,0)).2.2)).getD t.toNat (0,0,false,0,0,0,0,0)).2.2.2.1.toNat (0,0,0,0,0,0)).1,(b1.2.1.getD ((b1.1.set t.toNat ((b1.1.getD t.toNat (0,0,false,0,0,0,0,0)).1,((b1.1.getD t.toNat (0,0,false,0,0,0,0,0)).2.1+1),(b1.1.getD t.toNat (0,0,false,0,0,0,0,0)).2.2)).getD t.toNat (0,0,false,0,0,0,0,0)).2.2.2.1.toNat (0,0,0,0,0,0)).2.1,(b1.2.1.getD ((b1.1.set t.toNat ((b1.1.getD t.toNat (0,0,false,0,0,0,0,0)).1,((b1.1.getD t.toNat (0,0,false,0,0,0,0,0)).2.1+1),(b1.1.getD t.toNat (0,0,false,0,0,0,0,0)).2.2)).getD t.toNat (0,0,false,0,0,0,0,0)).2.2.2.1.toNat (0,0,0,0,0,0)).2.2.1,(b1.2.1.getD ((b1.1.set t.toNat ((b1.1.getD t.toNat (0,0,false,0,0,0,0,0)).1,((b1.1.getD t.toNat (0,0,false,0,0,0,0,0)).2.1+1),(b1.1.getD t.toNat (0,0,false,0,0,0,0,0)).2.2)).getD t.toNat (0,0,false,0,0,0,0,0)).2.2.2.1.toNat (0,0,0,0,0,0)).2.2.2.1,(b1.2.1.getD ((b1.1.set t.toNat ((b1.1.getD t.toNat (0,0,false,0,0,0,0,0)).1,((b1.1.getD t.toNat (0,0,false,0,0,0,0,0)).2.1+1),(b1.1.getD t.toNat (0,0,false,0,0,0,0,0)).2.2)).getD t.toNat (0,0,false,0,0,0,0,0)).2.2.2.1.toNat (0,0,0,0,0,0)).2.2.2.2.1,((2*p_4)+2))).set ((b1.1.set t.toNat ((b1.1.getD t.toNat (0,0,false,0,0,0,0,0)).1,((b1.1.getD t.toNat (0,0,false,0,0,0,0,0)).2.1+1),(b1.1.getD t.toNat (0,0,false,0,0,0,0,0)).2.2)).getD t.toNat (0,0,false,0,0,0,0,0)).2.2.2.1.toNat (((b1.2.1.set ((b1.1.set t.toNat ((b1.1.getD t.toNat (0,0,false,0,0,0,0,0)).1,((b1.1.getD t.toNat (0,0,false,0,0,0,0,0)).2.1+1),(b1.1.getD t.toNat (0,0,false,0,0,0,0,0)).2.2)).getD t.toNat (0,0,false,0,0,0,0,0)).2.2.2.1.toNat ((b1.2.1.getD ((b1.1.set t.toNat ((b1.1.getD t.toNat (0,0,false,0,0,0,0,0)).1,((b1.1.getD t.toNat (0,0,false,0,0,0,0,0)).2.1+1),(b1.1.getD t.toNat (0,0,false,0,0,0,0,0)).2.2)).getD t.toNat (0,0,false,0,0,0,0,0)).2.2.2.1.toNat (0,0,0,0,0,0)).1,(b1.2.1.getD ((b1.1.set t.toNat ((b1.1.getD t.toNat (0,0,false,0,0,0,0,0)).1,((b1.1.getD t.toNat (0,0,false,0,0,0,0,0)).2.1+1),(b1.1.getD t.toNat (0,0,false,0,0,0,0,0)).2.2)).getD t.toNat (0,0,false,0,0,0,0,0)).2.2.2.1.toNat (0,0,0,0,0,0)).2.1,(b1.2.1.getD ((b1.1.set t.toNat ((b1.1.getD t.toNat (0,0,false,0,0,0,0,0)).1,((b1.1.getD t.toNat (0,0,false,0,0,0,0,0)).2.1+1),(b1.1.getD t.toNat (0,0,false,0,0,0,0,0)).2.2)).getD t.toNat (0,0,false,0,0,0,0,0)).2.2.2.1.toNat (0,0,0,0,0,0)).2.2.1,(b1.2.1.getD ((b1.1.set t.toNat ((b1.1.getD t.toNat (0,0,false,0,0,0,0,0)).1,((b1.1.getD t.toNat (0,0,false,0,0,0,0,0)).2.1+1),(b1.1.getD t.toNat (0,0,false,0,0,0,0,0)).2.2)).getD t.toNat (0,0,false,0,0,0,0,0)).2.2.2.1.toNat (0,0,0,0,0,0)).2.2.2.1,(b1.2.1.getD ((b1.1.set t.toNat ((b1.1.getD t.toNat (0,0,false,0,0,0,0,0)).1,((b1.1.getD t.toNat (0,0,false,0,0,0,0,0)).2.1+1),(b1.1.getD t.toNat (0,0,false,0,0,0,0,0)).2.2)).getD t.toNat (0,0,false,0,0,0,0,0)).2.2.2.1.toNat (0,0,0,0,0,0)).2.2.2.2.1,((2*p_4)+2))).getD ((b1.1.set t.toNat ((b1.1.getD t.toNat (0,0,false,0,0,0,0,0)).1,((b1.1.getD t.toNat (0,0,false,0,0,0,0,0)).2.1+1),(b1.1.getD t.toNat (0,0,false,0,0,0,0,0)).2.2)).getD t.toNat (0,0,false,0,0,0,0,0)).2.2.2.1.toNat (0,0,0,0,0,0)).1,((b1.2.1.set ((b1.1.set t.toNat ((b1.1.getD t.toNat (0,0,false,0,0,0,0,0)).1,((b1.1.getD t.toNat (0,0,false,0,0,0,0,0)).2.1+1),(b1.1.getD t.toNat (0,0,false,0,0,0,0,0)).2.2)).getD t.toNat (0,0,false,0,0,0,0,0)).2.2.2.1.toNat ((b1.2.1.getD ((b1.1.set t.toNat ((b1.1.getD t.toNat (0,0,false,0,0,0,0,0)).1,((b1.1.getD t.toNat (0,0,false,0,0,0,0,0)).2.1+1),(b1.1.getD t.toNat (0,0,false,0,0,0,0,0)).2.2)).getD t.toNat (0,0,false,0,0,0,0,0)).2.2.2.1.toNat (0,0,0,0,0,0)).1,(b1.2.1.getD ((b1.1.set t.toNat ((b1.1.getD t.toNat (0,0,false,0,0,0,0,0)).1,((b1.1.getD t.toNat (0,0,false,0,0,0,0,0)).2.1+1),(b1.1.getD t.toNat (0,0,false,0,0,0,0,0)).2.2)).getD t.toNat (0,0,false,0,0,0,0,0)).2.2.2.1.toNat (0,0,0,0,0,0)).2.1,(b1.2.1.getD ((b1.1.set t.toNat ((b1.1.getD t.toNat (0,0,false,0,0,0,0,0)).1,((b1.1.getD t.toNat (0,0,false,0,0,0,0,0)).2.1+1),(b1.1.getD t.toNat (0,0,false,0,0,0,0,0)).2.2)).getD t.toNat (0,0,false,0,0,0,0,0)).2.2.2.1.toNat (0,0,0,0,0,0)).2.2.1,(b1.2.1.getD ((b1.1.set t.toNat ((b1.1.getD t.toNat (0,0,false,0,0,0,0,0)).1,((b1.1.getD t.toNat (0,0,false,0,0,0,0,0)).2.1+1),(b1.1.getD t.toNat (0,0,false,0,0,0,0,0)).2.2)).getD t.toNat (0,0,false,0,0,0,0,0)).2.2.2.1.toNat (0,0,0,0,0,0)).2.2.2.1,(b1.2.1.getD ((b1.1.set t.toNat ((b1.1.getD t.toNat (0,0,false,0,0,0,0,0)).1,((b1.1.getD t.toNat (0,0,false,0,0,0,0,0)).2.1+1),(b1.1.getD t.toNat (0,0,false,0,0,0,0,0)).2.2)).getD t.toNat (0,0,false,0,0,0,0,0)).2.2.2.1.toNat (0,0,0,0,0,0)).2.2.2.2.1,((2*p_4)+2))).getD ((b1.1.set t.toNat ((b1.1.getD t.toNat (0,0,false,0,0,0,0,0)).1,((b1.1.getD t.toNat (0,0,false,0,0,0,0,0)).2.1+1),(b1.1.getD t.toNat (0,0,false,0,0,0,0,0)).2.2)).getD t.toNat (0,0,false,0,0,0,0,0)).2.2.2.1.toNat (0,0,0,0,0,0)).2.1,((b1.2.1.set ((b1.1.set t.toNat ((b1.1.getD t.toNat (0,0,false,0,0,0,0,0)).1,((b1.1.getD t.toNat (0,0,false,0,0,0,0,0)).2.1+1),(b1.1.getD t.toNat (0,0,false,0,0,0,0,0)).2.2)).getD t.toNat (0,0,false,0,0,0,0,0)).2.2.2.1.toNat ((b1.2.1.getD ((b1.1.set t.toNat ((b1.1.getD t.toNat (0,0,false,0,0,0,0,0)).1,((b1.1.getD t.toNat (0,0,false,0,0,0,0,0)).2.1+1),(b1.1.getD t.toNat (0,0,false,0,0,0,0,0)).2.2)).getD t.toNat (0,0,false,0,0,0,0,0)).2.2.2.1.toNat (0,0,0,0,0,0)).1,(b1.2.1.getD ((b1.1.set t.toNat ((b1.1.getD t.toNat (0,0,false,0,0,0,0,0)).1,((b1.1.getD t.toNat (0,0,false,0,0,0,0,0)).2.1+1),(b1.1.getD t.toNat (0,0,false,0,0,0,0,0)).2.2)).getD t.toNat (0,0,false,0,0,0,0,0)).2.2.2.1.toNat (0,0,0,0,0,0)).2.1,(b1.2.1.getD ((b1.1.set t.toNat ((b1.1.getD t.toNat (0,0,false,0,0,0,0,0)).1,((b1.1.getD t.toNat (0,0,false,0,0,0,0,0)).2.1+1),(b1.1.getD t.toNat (0,0,false,0,0,0,0,0)).2.2)).getD t.toNat (0,0,false,0,0,0,0,0)).2.2.2.1.toNat (0,0,0,0,0,0)).2.2.1,(b1.2.1.getD ((b1.1.set t.toNat ((b1.1.getD t.toNat (0,0,false,0,0,0,0,0)).1,((b1.1.getD t.toNat (0,0,false,0,0,0,0,0)).2.1+1),(b1.1.getD t.toNat (0,0,false,0,0,0,0,0)).2.2)).getD t.toNat (0,0,false,0,0,0,0,0)).2.2.2.1.toNat (0,0,0,0,0,0)).2.2.2.1,(b1.2.1.getD ((b1.1.set t.toNat ((b1.1.getD t.toNat (0,0,false,0,0,0,0,0)).1,((b1.1.getD t.toNat (0,0,false,0,0,0,0,0)).2.1+1),(b1.1.getD t.toNat (0,0,false,0,0,0,0,0)).2.2)).getD t.toNat (0,0,false,0,0,0,0,0)).2.2.2.1.toNat (0,0,0,0,0,0)).2.2.2.2.1,((2*p_4)+2))).getD ((b1.1.set t.toNat ((b1.1.getD t.toNat (0,0,false,0,0,0,0,0)).1,((b1.1.getD t.toNat (0,0,false,0,0,0,0,0)).2.1+1),(b1.1.getD t.toNat (0,0,false,0,0,0,0,0)).2.2)).getD t.toNat (0,0,false,0,0,0,0,0)).2.2.2.1.toNat (0,0,0,0,0,0)).2.2.1,(b7 Y2 ((b1.1.set t.toNat ((b1.1.getD t.toNat (0,0,false,0,0,0,0,0)).1,((b1.1.getD t.toNat (0,0,false,0,0,0,0,0)).2.1+1),(b1.1.getD t.toNat (0,0,false,0,0,0,0,0)).2.2)).getD t.toNat (0,0,false,0,0,0,0,0)) (4+((p.getD (b1.2.1.getD (b1.1.getD t.toNat (0,0,false,0,0,0,0,0)).2.2.2.1.toNat (0,0,0,0,0,0)).2.2.1.toNat []).getD (b1.1.getD t.toNat (0,0,false,0,0,0,0,0)).2.1.toNat (0,0,0,0)).2.1.toNat*1)),((b1.2.1.set ((b1.1.set t.toNat ((b1.1.getD t.toNat (0,0,false,0,0,0,0,0)).1,((b1.1.getD t.toNat (0,0,false,0,0,0,0,0)).2.1+1),(b1.1.getD t.toNat (0,0,false,0,0,0,0,0)).2.2)).getD t.toNat (0,0,false,0,0,0,0,0)).2.2.2.1.toNat ((b1.2.1.getD ((b1.1.set t.toNat ((b1.1.getD t.toNat (0,0,false,0,0,0,0,0)).1,((b1.1.getD t.toNat (0,0,false,0,0,0,0,0)).2.1+1),(b1.1.getD t.toNat (0,0,false,0,0,0,0,0)).2.2)).getD t.toNat (0,0,false,0,0,0,0,0)).2.2.2.1.toNat (0,0,0,0,0,0)).1,(b1.2.1.getD ((b1.1.set t.toNat ((b1.1.getD t.toNat (0,0,false,0,0,0,0,0)).1,((b1.1.getD t.toNat (0,0,false,0,0,0,0,0)).2.1+1),(b1.1.getD t.toNat (0,0,false,0,0,0,0,0)).2.2)).getD t.toNat (0,0,false,0,0,0,0,0)).2.2.2.1.toNat (0,0,0,0,0,0)).2.1,(b1.2.1.getD ((b1.1.set t.toNat ((b1.1.getD t.toNat (0,0,false,0,0,0,0,0)).1,((b1.1.getD t.toNat (0,0,false,0,0,0,0,0)).2.1+1),(b1.1.getD t.toNat (0,0,false,0,0,0,0,0)).2.2)).getD t.toNat (0,0,false,0,0,0,0,0)).2.2.2.1.toNat (0,0,0,0,0,0)).2.2.1,(b1.2.1.getD ((b1.1.set t.toNat ((b1.1.getD t.toNat (0,0,false,0,0,0,0,0)).1,((b1.1.getD t.toNat (0,0,false,0,0,0,0,0)).2.1+1),(b1.1.getD t.toNat (0,0,false,0,0,0,0,0)).2.2)).getD t.toNat (0,0,false,0,0,0,0,0)).2.2.2.1.toNat (0,0,0,0,0,0)).2.2.2.1,(b1.2.1.getD ((b1.1.set t.toNat ((b1.1.getD t.toNat (0,0,false,0,0,0,0,0)).1,((b1.1.getD t.toNat (0,0,false,0,0,0,0,0)).2.1+1),(b1.1.getD t.toNat (0,0,false,0,0,0,0,0)).2.2)).getD t.toNat (0,0,false,0,0,0,0,0)).2.2.2.1.toNat (0,0,0,0,0,0)).2.2.2.2.1,((2*p_4)+2))).getD ((b1.1.set t.toNat ((b1.1.getD t.toNat (0,0,false,0,0,0,0,0)).1,((b1.1.getD t.toNat (0,0,false,0,0,0,0,0)).2.1+1),(b1.1.getD t.toNat (0,0,false,0,0,0,0,0)).2.2)).getD t.toNat (0,0,false,0,0,0,0,0)).2.2.2.1.toNat (0,0,0,0,0,0)).2.2.2.2)))
  else
  f8 t p_3 p_4 b1 ((b1.1.set t.toNat ((b1.1.getD t.toNat (0,0,false,0,0,0,0,0)).1,((b1.1.getD t.toNat (0,0,false,0,0,0,0,0)).2.1+1),(b1.1.getD t.toNat (0,0,false,0,0,0,0,0)).2.2)),p_5,p_6,p_7,b1.2.1)
noncomputable def o9 (t:Int) (p:List (List (Int×Int×Int×Int))) (p_2:List (List Int)) (p_3:List Int) (p_4:Int) (p_5:Int) (p_6:Int) (p_7:Int) (p_8:List (Int×Int×Bool×Int×Int×Int×Int×Int)) (p_9:ZH) (p_10:List Int):Option ((List (Int×Int×Bool×Int×Int×Int×Int×Int))×Int×Int×Int×ZH×(List Int)) :=
  ck (0≤t) <| ck (t<(p_8.length:Int)) <| ck (InK .i64 (p_4+1)) <| if (!(p_8.getD t.toNat (0,0,false,0,0,0,0,0)).2.2.1)=true then
  ck (InK .i64 ((p_8.getD t.toNat (0,0,false,0,0,0,0,0)).1+1)) <| ck (0≤t) <| ck (t<(p_2.length:Int)) <| ck (InK .i64 (((p_8.set t.toNat (((p_8.getD t.toNat (0,0,false,0,0,0,0,0)).1+1),0,true,(p_9.length:Int),0,1,0,0)).getD t.toNat (0,0,false,0,0,0,0,0)).1 - 1)) <| ck (0≤(((p_8.set t.toNat (((p_8.getD t.toNat (0,0,false,0,0,0,0,0)).1+1),0,true,(p_9.length:Int),0,1,0,0)).getD t.toNat (0,0,false,0,0,0,0,0)).1 - 1)) <| ck ((((p_8.set t.toNat (((p_8.getD t.toNat (0,0,false,0,0,0,0,0)).1+1),0,true,(p_9.length:Int),0,1,0,0)).getD t.toNat (0,0,false,0,0,0,0,0)).1 - 1)<((p_2.getD t.toNat []).length:Int)) <| ck (InK .i64 (2*p_4)) <| ck (InK .i64 ((2*p_4)+1)) <| ck ((p_9.length+1)*48≤140737488355328) <| ck ((p_10.length+1)*8≤140737488355328) <| l8 t p p_3 p_4 p_5 p_6 p_7 ((p_8.set t.toNat (((p_8.getD t.toNat (0,0,false,0,0,0,0,0)).1+1),0,true,(p_9.length:Int),0,1,0,0)),(p_9++[(t,0,((p_2.getD t.toNat []).getD (((p_8.set t.toNat (((p_8.getD t.toNat (0,0,false,0,0,0,0,0)).1+1),0,true,(p_9.length:Int),0,1,0,0)).getD t.toNat (0,0,false,0,0,0,0,0)).1 - 1).toNat 0),0,((2*p_4)+1),0)]),(p_10++[(-1)]))
  else
  l8 t p p_3 p_4 p_5 p_6 p_7 (p_8,p_9,p_10)
/- lineal/linealref08.played -/
noncomputable def a2k (b1:(List (Int×Int×Bool×Int×Int×Int×Int×Int))×Int×Int×Int×Int×ZH×(List Int)):Option (Sum Unit ((List (Int×Int×Bool×Int×Int×Int×Int×Int))×Int×Int×Int×Int×ZH×(List Int))) :=
  some (Sum.inr b1)
noncomputable def n4 (c:List (List (Int×Int×Int×Int))) (use:List (List Int)) (schedule:List Int) (n5:List Int) (st1:(List (Int×Int×Bool×Int×Int×Int×Int×Int))×Int×Int×Int×Int×ZH×(List Int)×Int):Option (Step ((List (Int×Int×Bool×Int×Int×Int×Int×Int))×Int×Int×Int×Int×ZH×(List Int)×Int) (Sum Unit ((List (Int×Int×Bool×Int×Int×Int×Int×Int))×Int×Int×Int×Int×ZH×(List Int)))) :=
  if (decide (st1.2.2.2.2.2.2.2<(schedule.length:Int)))=true then
  ck (0≤st1.2.2.2.2.2.2.2) <| ck (st1.2.2.2.2.2.2.2<(schedule.length:Int)) <| ck (InK .i64 ((use.length:Int) - 1)) <| (l7 0 (schedule.getD st1.2.2.2.2.2.2.2.toNat 0) ((use.length:Int) - 1)).bind fun v0_2 =>
  if (!v0_2)=true then
  some (.done (Sum.inl ()))
  else
  ck (0≤st1.2.2.2.2.2.2.2) <| ck (st1.2.2.2.2.2.2.2<(schedule.length:Int)) <| (o7 (schedule.getD st1.2.2.2.2.2.2.2.toNat 0) c use n5 st1.2.1 st1.2.2.1 st1.2.2.2.1 st1.2.2.2.2.1 st1.1 st1.2.2.2.2.2.1 st1.2.2.2.2.2.2.1).bind fun v0_3 =>
  if (!v0_3)=true then
  some (.done (Sum.inl ()))
  else
  ck (0≤st1.2.2.2.2.2.2.2) <| ck (st1.2.2.2.2.2.2.2<(schedule.length:Int)) <| (o9 (schedule.getD st1.2.2.2.2.2.2.2.toNat 0) c use n5 st1.2.1 st1.2.2.1 st1.2.2.2.1 st1.2.2.2.2.1 st1.1 st1.2.2.2.2.2.1 st1.2.2.2.2.2.2.1).bind fun v0_4 =>
  ck (InK .i64 (st1.2.2.2.2.2.2.2+1)) <| some (.next (v0_4.1,(st1.2.1+1),v0_4.2.1,v0_4.2.2.1,v0_4.2.2.2.1,v0_4.2.2.2.2.1,v0_4.2.2.2.2.2,(st1.2.2.2.2.2.2.2+1)))
  else
  some (.done (Sum.inr (st1.1,st1.2.1,st1.2.2.1,st1.2.2.2.1,st1.2.2.2.2.1,st1.2.2.2.2.2.1,st1.2.2.2.2.2.2.1)))
noncomputable def H6 (c:List (List (Int×Int×Int×Int))) (use:List (List Int)) (schedule:List Int) (n5:List Int):Option (Sum Unit ((List (Int×Int×Bool×Int×Int×Int×Int×Int))×Int×Int×Int×Int×ZH×(List Int))) :=
  if (decide (12<(schedule.length:Int)))=true then
  some (Sum.inl ())
  else
  (E7 c use n5).bind fun v0 =>
  (i7 (n4 c use schedule n5) ((List.replicate use.length ((0,0,false,0,0,0,0,0):Int×Int×Bool×Int×Int×Int×Int×Int)),0,0,0,0,[],[],0)).bind fun x=>match x with
  | .inl _=>(some (Sum.inl ()))
  | .inr r1=>(a2k r1)
/- lineal/linealref08.run -/
noncomputable def O0 (c:List (List (Int×Int×Int×Int))) (use:List (List Int)) (schedule:List Int):Option (Sum Int ((List (Int×Int×Bool×Int×Int×Int×Int×Int))×Int×Int×Int×Int×ZH×(List Int))) :=
  (V7 c use).bind fun v0 =>
  if (!(decide (v0=0)))=true then
  some (Sum.inl v0)
  else
  (H6 c use schedule []).bind fun v0_2=>match v0_2 with
  | .inl v0_3=>(some (Sum.inl 2))
  | .inr v0_4=>(some (Sum.inr v0_4))
/- lineal/linealref08.Run -/
noncomputable def a2g (c:List (List (Int×Int×Int×Int))) (use:List (List Int)) (schedule:List Int):Option (ZH×Int) :=
  (O0 c use schedule).bind fun v0=>match v0 with
  | .inl v0_2=>(if (!(decide (v0_2=0)))=true then
  some ([],v0_2)
  else
  none)
  | .inr v0_3=>(some (v0_3.2.2.2.2.2.1,0))
/- lineal/linealref02.Same -/
/- slices.Clone[[]int,int] -/
/- lineal/code.Cells -/
/- lineal/linealref08.Cells -/
/- (lineal/code.run).left -/
noncomputable def X1 (b1:(List Int)):Option ((List Int)) :=
  some b1
noncomputable def N3 (r0:((List (List (Int×Int×Int×Int)))×(List (List Int)))×(List Int)×(El T80)×(Int×Int×Int)×(El T85)×(El T86)×Int) (st1:(List Int)×Int):Option (Step ((List Int)×Int) ((List Int))) :=
  if (decide (st1.2<(r0.1.2.length:Int)))=true then
  (z6 r0 st1.2).bind fun v0 =>
  if v0=true then
  ck ((st1.1.length+1)*8≤140737488355328) <| ck (InK .i64 (st1.2+1)) <| some (.next ((st1.1++[st1.2]),(st1.2+1)))
  else
  ck (InK .i64 (st1.2+1)) <| some (.next (st1.1,(st1.2+1)))
  else
  some (.done st1.1)
noncomputable def z7 (r0:((List (List (Int×Int×Int×Int)))×(List (List Int)))×(List Int)×(El T80)×(Int×Int×Int)×(El T85)×(El T86)×Int):Option ((List Int)) :=
  (i7 (N3 r0) ([],0)).bind fun r1 =>
  X1 r1
/- lineal/code.Left -/
noncomputable def a4R (c:List (List (Int×Int×Int×Int))) (use:List (List Int)) (schedule:List Int):Option ((List Int)×Int) :=
  (Q7 c use schedule).bind fun v0 =>
  if (!(decide (v0.2.2.2.2.2.2.2.2.2.2=0)))=true then
  some ([],v0.2.2.2.2.2.2.2.2.2.2)
  else
  (z7 ((v0.1,v0.2.1),v0.2.2.1,v0.2.2.2.1,(v0.2.2.2.2.1,v0.2.2.2.2.2.1,v0.2.2.2.2.2.2.1),v0.2.2.2.2.2.2.2.1,v0.2.2.2.2.2.2.2.2.1,v0.2.2.2.2.2.2.2.2.2.1)).bind fun v0_2 =>
  some (v0_2,0)
/- lineal/linealref08.Left -/
noncomputable def a3f:Option ((List Int)×Int) :=
  some ([],0)
noncomputable def a3g (use:List (List Int)) (st1:Unit):Option (Step Unit Unit) :=
  if (decide (0<(use.length:Int)))=true then
  none
  else
  some (.done ())
noncomputable def a3e (b2:(List Int)):Option ((List Int)×Int) :=
  some (b2,0)
noncomputable def R8 (c:List (List (Int×Int×Int×Int))) (use:List (List Int)) (v0_3:(List (Int×Int×Bool×Int×Int×Int×Int×Int))×Int×Int×Int×Int×ZH×(List Int)) (st2:(List Int)×Int):Option (Step ((List Int)×Int) ((List Int))) :=
  if (decide (st2.2<(use.length:Int)))=true then
  (o7 st2.2 c use [] v0_3.2.1 v0_3.2.2.1 v0_3.2.2.2.1 v0_3.2.2.2.2.1 v0_3.1 v0_3.2.2.2.2.2.1 v0_3.2.2.2.2.2.2).bind fun v0_4 =>
  if v0_4=true then
  ck ((st2.1.length+1)*8≤140737488355328) <| ck (InK .i64 (st2.2+1)) <| some (.next ((st2.1++[st2.2]),(st2.2+1)))
  else
  ck (InK .i64 (st2.2+1)) <| some (.next (st2.1,(st2.2+1)))
  else
  some (.done st2.1)
noncomputable def a1q (c:List (List (Int×Int×Int×Int))) (use:List (List Int)) (schedule:List Int):Option ((List Int)×Int) :=
  (O0 c use schedule).bind fun v0=>match v0 with
  | .inl v0_2=>(if (!(decide (v0_2=0)))=true then
  some ([],v0_2)
  else
  (i7 (a3g use) ()).bind fun _ =>
  a3f)
  | .inr v0_3=>((i7 (R8 c use v0_3) ([],0)).bind fun r2 =>
  a3e r2)
/- lineal/linealref08.SameInts -/
/- lineal/lineallaw08.CodeRuns -/
/- lineal/linealref01.isTable -/
noncomputable def G0:Option Bool :=
  some true
noncomputable def F9 (st1:Int):Option (Step Int (Sum Unit Unit)) :=
  ck (InK .i64 (st1+1)) <| some (.next (st1+1))
noncomputable def A5 (l:List (List Int)) (limit:Int) (st1:Int) (st2:Int):Option (Step Int (Sum Unit Unit)) :=
  if (decide (st2<((l.getD st1.toNat []).length:Int)))=true then
  ck (0≤st2) <| ck (st2<((l.getD st1.toNat []).length:Int)) <| if (decide (((l.getD st1.toNat []).getD st2.toNat 0)<0))=true then
  some (.done (Sum.inl ()))
  else
  if (decide (limit≤((l.getD st1.toNat []).getD st2.toNat 0)))=true then
  some (.done (Sum.inl ()))
  else
  ck (InK .i64 (st2+1)) <| some (.next (st2+1))
  else
  some (.done (Sum.inr ()))
noncomputable def A6 (s:Int×Int×(List (List Int))×(List (List Int))) (l:List (List Int)) (limit:Int) (st1:Int):Option (Step Int (Sum Unit Unit)) :=
  if (decide (st1<(l.length:Int)))=true then
  ck (0≤st1) <| ck (st1<(l.length:Int)) <| if (!(decide (((l.getD st1.toNat []).length:Int)=s.2.1)))=true then
  some (.done (Sum.inl ()))
  else
  (i7 (A5 l limit st1) 0).bind fun x=>match x with
  | .inl _=>(some (.done (Sum.inl ())))
  | .inr _=>(F9 st1)
  else
  some (.done (Sum.inr ()))
noncomputable def B5 (s:Int×Int×(List (List Int))×(List (List Int))) (l:List (List Int)) (limit:Int):Option Bool :=
  if (!(decide ((l.length:Int)=s.1)))=true then
  some false
  else
  (i7 (A6 s l limit) 0).bind fun x=>match x with
  | .inl _=>(some false)
  | .inr _=>(G0)
/- lineal/linealref01.Valid -/
noncomputable def K5 (s:Int×Int×(List (List Int))×(List (List Int))):Option Bool :=
  if (decide (1≤s.1))=true then
  if (decide (s.1≤8))=true then
  if (decide (1≤s.2.1))=true then
  if (decide (s.2.1≤4))=true then
  (B5 s s.2.2.1 s.1).bind fun v0 =>
  if v0=true then
  (B5 s s.2.2.2 6).bind fun v0_2 =>
  some v0_2
  else
  some false
  else
  some false
  else
  some false
  else
  some false
  else
  some false
/- lineal/lineallaw08.IsCase -/
/- lineal/lineallaw08.schedule -/
noncomputable def U8 (x0:(Int×Int×(List (List Int))×(List (List Int)))×(List (List (Int×Int×Int×Int)))×(List (List Int))) (st1:(List Int)×Int) (b2:Int):Option (Step ((List Int)×Int) (Sum ((List Int)×Bool×Bool) ((List Int)))) :=
  if (decide (b2<0))=true then
  some (.done (Sum.inl ([],false,false)))
  else
  if (decide ((x0.2.2.length:Int)≤b2))=true then
  some (.done (Sum.inl ([],false,false)))
  else
  ck ((st1.1.length+1)*8≤140737488355328) <| ck (InK .i64 (st1.2+1)) <| some (.next ((st1.1++[b2]),(st1.2+1)))
noncomputable def a63 (x0:(Int×Int×(List (List Int))×(List (List Int)))×(List (List (Int×Int×Int×Int)))×(List (List Int))) (picks:List Int) (steps:Int) (st1:(List Int)×Int):Option (Step ((List Int)×Int) (Sum ((List Int)×Bool×Bool) ((List Int)))) :=
  if (decide (st1.2<steps))=true then
  (a4R x0.2.1 x0.2.2 st1.1).bind fun v0 =>
  if (!(decide (v0.2=0)))=true then
  some (.done (Sum.inl ([],false,false)))
  else
  if (decide ((v0.1.length:Int)=0))=true then
  some (.done (Sum.inl (st1.1,true,true)))
  else
  ck (0<(v0.1.length:Int)) <| if (decide (st1.2<(picks.length:Int)))=true then
  ck (0≤st1.2) <| ck (st1.2<(picks.length:Int)) <| ck (InK .i64 (picks.getD st1.2.toNat 0)) <| ck (0≤(picks.getD st1.2.toNat 0)) <| ck (0<(v0.1.length:Int)) <| ck (0≤((picks.getD st1.2.toNat 0) % (v0.1.length:Int))) <| ck (((picks.getD st1.2.toNat 0) % (v0.1.length:Int))<(v0.1.length:Int)) <| U8 x0 st1 (v0.1.getD ((picks.getD st1.2.toNat 0) % (v0.1.length:Int)).toNat 0)
  else
  U8 x0 st1 (v0.1.getD 0 0)
  else
  some (.done (Sum.inr st1.1))
/- lineal/history.within -/
/- lineal/history.isCall -/
/- lineal/history.before -/
/- lineal/history.apart -/
/- lineal/history.Valid -/
/- lineal/history.check -/
/- lineal/history.Until$1$1 -/
/- lineal/history.those -/
/- lineal/history.Until$1 -/
/- lineal/history.told[[]lineal/api.Call] -/
/- lineal/history.Until -/
/- lineal/history.By$1$1 -/
/- lineal/history.those -/
/- lineal/history.By$1 -/
/- lineal/history.told[[]lineal/api.Call] -/
/- lineal/history.By -/
/- lineal/lineallaw08.CodeBegins -/
/- (lineal/spec.machine).isState -/
noncomputable def D6 (m:Int×Int×(List (List Int))×(List (List Int))) (n:Int):Option Bool :=
  if (decide (0≤n))=true then
  some (decide (n<m.1))
  else
  some false
/- lineal/spec.all -/
noncomputable def a0W:Option Bool :=
  some true
noncomputable def Y9 (is0:Int×Int×(List (List Int))×(List (List Int))) (numbers:List Int) (st1:Int):Option (Step Int (Sum Unit Unit)) :=
  if (decide (st1<(numbers.length:Int)))=true then
  ck (0≤st1) <| ck (st1<(numbers.length:Int)) <| (D6 is0 (numbers.getD st1.toNat 0)).bind fun v0 =>
  if (!v0)=true then
  some (.done (Sum.inl ()))
  else
  ck (InK .i64 (st1+1)) <| some (.next (st1+1))
  else
  some (.done (Sum.inr ()))
noncomputable def a0y (is0:Int×Int×(List (List Int))×(List (List Int))) (numbers:List Int):Option Bool :=
  (i7 (Y9 is0 numbers) 0).bind fun x=>match x with
  | .inl _=>(some false)
  | .inr _=>(a0W)
/- (lineal/spec.machine).isTable -/
noncomputable def E1:Option Bool :=
  some true
noncomputable def w8 (m:Int×Int×(List (List Int))×(List (List Int))) (table:List (List Int)) (is0:Int×Int×(List (List Int))×(List (List Int))) (st1:Int):Option (Step Int (Sum Unit Unit)) :=
  if (decide (st1<(table.length:Int)))=true then
  ck (0≤st1) <| ck (st1<(table.length:Int)) <| if (!(decide (((table.getD st1.toNat []).length:Int)=m.2.1)))=true then
  some (.done (Sum.inl ()))
  else
  (a0y is0 (table.getD st1.toNat [])).bind fun v0 =>
  if (!v0)=true then
  some (.done (Sum.inl ()))
  else
  ck (InK .i64 (st1+1)) <| some (.next (st1+1))
  else
  some (.done (Sum.inr ()))
noncomputable def D5 (m:Int×Int×(List (List Int))×(List (List Int))) (table:List (List Int)) (is0:Int×Int×(List (List Int))×(List (List Int))):Option Bool :=
  if (!(decide ((table.length:Int)=m.1)))=true then
  some false
  else
  (i7 (w8 m table is0) 0).bind fun x=>match x with
  | .inl _=>(some false)
  | .inr _=>(E1)
/- lineal/spec.isAnswer -/
noncomputable def S4 (n:Int):Option Bool :=
  if (decide (0≤n))=true then
  some (decide (n≤5))
  else
  some false
/- lineal/spec.all -/
noncomputable def X7:Option Bool :=
  some true
noncomputable def S5 (numbers:List Int) (st1:Int):Option (Step Int (Sum Unit Unit)) :=
  if (decide (st1<(numbers.length:Int)))=true then
  ck (0≤st1) <| ck (st1<(numbers.length:Int)) <| (S4 (numbers.getD st1.toNat 0)).bind fun v0 =>
  if (!v0)=true then
  some (.done (Sum.inl ()))
  else
  ck (InK .i64 (st1+1)) <| some (.next (st1+1))
  else
  some (.done (Sum.inr ()))
noncomputable def a0x (numbers:List Int):Option Bool :=
  (i7 (S5 numbers) 0).bind fun x=>match x with
  | .inl _=>(some false)
  | .inr _=>(X7)
/- (lineal/spec.machine).isTable -/
noncomputable def B8:Option Bool :=
  some true
noncomputable def s8 (m:Int×Int×(List (List Int))×(List (List Int))) (table:List (List Int)) (st1:Int):Option (Step Int (Sum Unit Unit)) :=
  if (decide (st1<(table.length:Int)))=true then
  ck (0≤st1) <| ck (st1<(table.length:Int)) <| if (!(decide (((table.getD st1.toNat []).length:Int)=m.2.1)))=true then
  some (.done (Sum.inl ()))
  else
  (a0x (table.getD st1.toNat [])).bind fun v0 =>
  if (!v0)=true then
  some (.done (Sum.inl ()))
  else
  ck (InK .i64 (st1+1)) <| some (.next (st1+1))
  else
  some (.done (Sum.inr ()))
noncomputable def z9 (m:Int×Int×(List (List Int))×(List (List Int))) (table:List (List Int)):Option Bool :=
  if (!(decide ((table.length:Int)=m.1)))=true then
  some false
  else
  (i7 (s8 m table) 0).bind fun x=>match x with
  | .inl _=>(some false)
  | .inr _=>(B8)
/- lineal/spec.Valid -/
noncomputable def W8 (s:Int×Int×(List (List Int))×(List (List Int))):Option Bool :=
  if (decide (s.1<1))=true then
  some false
  else
  if (decide (8<s.1))=true then
  some false
  else
  if (decide (s.2.1<1))=true then
  some false
  else
  if (decide (4<s.2.1))=true then
  some false
  else
  (D5 s s.2.2.1 s).bind fun v0 =>
  if v0=true then
  (z9 s s.2.2.2).bind fun v0_2 =>
  some v0_2
  else
  some false
/- lineal/code.checkSpec -/
noncomputable def Q9 (s:Int×Int×(List (List Int))×(List (List Int))) (c:List (List (Int×Int×Int×Int))):Option Int :=
  (U6 c).bind fun v0 =>
  if (!v0)=true then
  some 80
  else
  (W8 s).bind fun v0_2 =>
  if (!v0_2)=true then
  some 10
  else
  if (!(decide (s.2.1=(c.length:Int))))=true then
  some 10
  else
  some 0
/- lineal/spec.checked -/
noncomputable def a0p (s:Int×Int×(List (List Int))×(List (List Int))) (states:List Int):Option (Int×Int×(List (List Int))×(List (List Int))×Int) :=
  (W8 s).bind fun v0 =>
  if (!v0)=true then
  some (0,0,[],[],10)
  else
  (a0y s states).bind fun v0_2 =>
  if (!v0_2)=true then
  some (0,0,[],[],2)
  else
  some (s.1,s.2.1,s.2.2.1,s.2.2.2,0)
/- (lineal/spec.machine).isCall -/
noncomputable def M1 (m:Int×Int×(List (List Int))×(List (List Int))) (n:Int):Option Bool :=
  if (decide (0≤n))=true then
  some (decide (n<m.2.1))
  else
  some false
/- lineal/spec.all -/
noncomputable def X6:Option Bool :=
  some true
noncomputable def O2 (is0:Int×Int×(List (List Int))×(List (List Int))) (numbers:List Int) (st1:Int):Option (Step Int (Sum Unit Unit)) :=
  if (decide (st1<(numbers.length:Int)))=true then
  ck (0≤st1) <| ck (st1<(numbers.length:Int)) <| (M1 is0 (numbers.getD st1.toNat 0)).bind fun v0 =>
  if (!v0)=true then
  some (.done (Sum.inl ()))
  else
  ck (InK .i64 (st1+1)) <| some (.next (st1+1))
  else
  some (.done (Sum.inr ()))
noncomputable def a0w (is0:Int×Int×(List (List Int))×(List (List Int))) (numbers:List Int):Option Bool :=
  (i7 (O2 is0 numbers) 0).bind fun x=>match x with
  | .inl _=>(some false)
  | .inr _=>(X6)
/- (lineal/spec.machine).isWord -/
noncomputable def M0 (m:Int×Int×(List (List Int))×(List (List Int))) (word:List Int):Option Bool :=
  if (decide ((word.length:Int)≤20))=true then
  (a0w m word).bind fun v0 =>
  some v0
  else
  some false
/- (lineal/spec.machine).run -/
noncomputable def L9 (b1:(List Int)×Int):Option ((List Int)×Int) :=
  some b1
noncomputable def q9 (m:Int×Int×(List (List Int))×(List (List Int))) (word:List Int) (st1:(List Int)×Int×Int):Option (Step ((List Int)×Int×Int) ((List Int)×Int)) :=
  if (decide (st1.2.2<(word.length:Int)))=true then
  ck (0≤st1.2.2) <| ck (st1.2.2<(word.length:Int)) <| ck (0≤st1.2.1) <| ck (st1.2.1<(m.2.2.2.length:Int)) <| ck (0≤(word.getD st1.2.2.toNat 0)) <| ck ((word.getD st1.2.2.toNat 0)<((m.2.2.2.getD st1.2.1.toNat []).length:Int)) <| ck ((st1.1.length+1)*8≤140737488355328) <| ck (0≤st1.2.1) <| ck (st1.2.1<(m.2.2.1.length:Int)) <| ck (0≤(word.getD st1.2.2.toNat 0)) <| ck ((word.getD st1.2.2.toNat 0)<((m.2.2.1.getD st1.2.1.toNat []).length:Int)) <| ck (InK .i64 (st1.2.2+1)) <| some (.next ((st1.1++[((m.2.2.2.getD st1.2.1.toNat []).getD (word.getD st1.2.2.toNat 0).toNat 0)]),((m.2.2.1.getD st1.2.1.toNat []).getD (word.getD st1.2.2.toNat 0).toNat 0),(st1.2.2+1)))
  else
  some (.done (st1.1,st1.2.1))
noncomputable def R6 (m:Int×Int×(List (List Int))×(List (List Int))) (from0:Int) (word:List Int):Option ((List Int)×Int) :=
  (i7 (q9 m word) ([],from0,0)).bind fun r1 =>
  L9 r1
/- lineal/spec.Run -/
noncomputable def a2w (s:Int×Int×(List (List Int))×(List (List Int))) (from0:Int) (word:List Int):Option ((List Int)×Int×Int) :=
  (a0p s [from0]).bind fun v0 =>
  if (!(decide (v0.2.2.2.2=0)))=true then
  some ([],0,v0.2.2.2.2)
  else
  (M0 (v0.1,v0.2.1,v0.2.2.1,v0.2.2.2.1) word).bind fun v0_2 =>
  if (!v0_2)=true then
  some ([],0,2)
  else
  (R6 (v0.1,v0.2.1,v0.2.2.1,v0.2.2.2.1) from0 word).bind fun v0_3 =>
  some (v0_3.1,v0_3.2,0)
/- (lineal/code.program).runs -/
noncomputable def P1 (p:(List (List (Int×Int×Int×Int)))×(List (List Int))) (steps:Int):Option Unit :=
  some ()
/- (lineal/code.run).isOver -/
noncomputable def T4 (r0:((List (List (Int×Int×Int×Int)))×(List (List Int)))×(List Int)×(El T80)×(Int×Int×Int)×(El T85)×(El T86)×Int):Option Bool :=
  (z7 r0).bind fun v0 =>
  some (decide ((v0.length:Int)=0))
/- slices.Equal[[]int,int] -/
noncomputable def a0e:Option Bool :=
  some true
noncomputable def J0 (s1:List Int) (s2:List Int) (st1:Int):Option (Step Int (Sum Unit Unit)) :=
  if (decide (st1<(s1.length:Int)))=true then
  ck (0≤st1) <| ck (st1<(s1.length:Int)) <| ck (0≤st1) <| ck (st1<(s2.length:Int)) <| if (!(decide ((s1.getD st1.toNat 0)=(s2.getD st1.toNat 0))))=true then
  some (.done (Sum.inl ()))
  else
  ck (InK .i64 (st1+1)) <| some (.next (st1+1))
  else
  some (.done (Sum.inr ()))
noncomputable def V4 (s1:List Int) (s2:List Int):Option Bool :=
  if (!(decide ((s1.length:Int)=(s2.length:Int))))=true then
  some false
  else
  (i7 (J0 s1 s2) 0).bind fun x=>match x with
  | .inl _=>(some false)
  | .inr _=>(a0e)
/- slices.Backward[[]int,int] -/
noncomputable def T3 (s:List Int):Option Unit :=
  some ()
/- slices.Backward[[]int,int]$1 -/
noncomputable def p4 (S R:Type) (a1:List Int) (yl:Int×Int→S→Option (Step S R)) (st1:Int×S):Option (Step (Int×S) (Sum R S)) :=
  if (decide (0≤st1.1))=true then
  ck (0≤st1.1) <| ck (st1.1<(a1.length:Int)) <| (yl (st1.1,(a1.getD st1.1.toNat 0)) st1.2).bind fun x=>match x with
  | .next s=>(ck (InK .i64 (st1.1 - 1)) <| some (.next ((st1.1 - 1),s)))
  | .done e=>(some (.done (Sum.inl e)))
  else
  some (.done (Sum.inr st1.2))
noncomputable def t8 (S R:Type) (a1:List Int) (yl:Int×Int→S→Option (Step S R)) (s0:S):Option (Sum S R) :=
  ck (InK .i64 ((a1.length:Int) - 1)) <| (i7 (p4 S R a1 yl) (((a1.length:Int) - 1),s0)).bind fun x=>match x with
  | .inl r1=>(some (Sum.inr r1))
  | .inr r1_2=>(some (Sum.inl r1_2))
/- (lineal/code.program).runs$1 -/
noncomputable def s7 (S R:Type) (b1:(List (((List (List (Int×Int×Int×Int)))×(List (List Int)))×(List Int)×(El T80)×(Int×Int×Int)×(El T85)×(El T86)×Int))×S):Option (Step ((List (((List (List (Int×Int×Int×Int)))×(List (List Int)))×(List Int)×(El T80)×(Int×Int×Int)×(El T85)×(El T86)×Int))×S) (Sum R S)) :=
  some (.next b1)
noncomputable def i8 (S R:Type) (st1:(List (((List (List (Int×Int×Int×Int)))×(List (List Int)))×(List Int)×(El T80)×(Int×Int×Int)×(El T85)×(El T86)×Int))×S) (y2:Int×Int) (st2:(List (((List (List (Int×Int×Int×Int)))×(List (List Int)))×(List Int)×(El T80)×(Int×Int×Int)×(El T85)×(El T86)×Int))):Option (Step ((List (((List (List (Int×Int×Int×Int)))×(List (List Int)))×(List Int)×(El T80)×(Int×Int×Int)×(El T85)×(El T86)×Int))) Empty) :=
  (L8 (st1.1.getD ((st1.1.length:Int) - 1).toNat (([],[]),[],(Ty.dflt T80),(0,0,0),(Ty.dflt T85),(Ty.dflt T86),0)) y2.2).bind fun v0_3 =>
  ck ((st2.length+1)*712≤140737488355328) <| some (.next (st2++[((st1.1.getD ((st1.1.length:Int) - 1).toNat (([],[]),[],(Ty.dflt T80),(0,0,0),(Ty.dflt T85),(Ty.dflt T86),0)).1,(((st1.1.getD ((st1.1.length:Int) - 1).toNat (([],[]),[],(Ty.dflt T80),(0,0,0),(Ty.dflt T85),(Ty.dflt T86),0)).2.1.take (st1.1.getD ((st1.1.length:Int) - 1).toNat (([],[]),[],(Ty.dflt T80),(0,0,0),(Ty.dflt T85),(Ty.dflt T86),0)).2.1.length)++[y2.2]),v0_3.1,(v0_3.2.1,v0_3.2.2.1,v0_3.2.2.2.1),v0_3.2.2.2.2)]))
noncomputable def j8 (S R:Type) (a2:Int) (yl:(((List (List (Int×Int×Int×Int)))×(List (List Int)))×(List Int)×(El T80)×(Int×Int×Int)×(El T85)×(El T86)×Int)→S→Option (Step S R)) (st1:(List (((List (List (Int×Int×Int×Int)))×(List (List Int)))×(List Int)×(El T80)×(Int×Int×Int)×(El T85)×(El T86)×Int))×S):Option (Step ((List (((List (List (Int×Int×Int×Int)))×(List (List Int)))×(List Int)×(El T80)×(Int×Int×Int)×(El T85)×(El T86)×Int))×S) (Sum R S)) :=
  if (decide (0<(st1.1.length:Int)))=true then
  ck (InK .i64 ((st1.1.length:Int) - 1)) <| ck (0≤((st1.1.length:Int) - 1)) <| ck (((st1.1.length:Int) - 1)<(st1.1.length:Int)) <| ck (InK .i64 ((st1.1.length:Int) - 1)) <| ck (0≤((st1.1.length:Int) - 1)) <| ck (((st1.1.length:Int) - 1)≤(st1.1.length:Int)) <| (z7 (st1.1.getD ((st1.1.length:Int) - 1).toNat (([],[]),[],(Ty.dflt T80),(0,0,0),(Ty.dflt T85),(Ty.dflt T86),0))).bind fun v0 =>
  if (decide ((v0.length:Int)=0))=true then
  (yl (st1.1.getD ((st1.1.length:Int) - 1).toNat (([],[]),[],(Ty.dflt T80),(0,0,0),(Ty.dflt T85),(Ty.dflt T86),0)) st1.2).bind fun x=>match x with
  | .next s=>(s7 S R ((st1.1.take ((st1.1.length:Int) - 1).toNat),s))
  | .done e=>(some (.done (Sum.inl e)))
  else
  if (decide (((st1.1.getD ((st1.1.length:Int) - 1).toNat (([],[]),[],(Ty.dflt T80),(0,0,0),(Ty.dflt T85),(Ty.dflt T86),0)).2.1.length:Int)=a2))=true then
  (yl (st1.1.getD ((st1.1.length:Int) - 1).toNat (([],[]),[],(Ty.dflt T80),(0,0,0),(Ty.dflt T85),(Ty.dflt T86),0)) st1.2).bind fun x=>match x with
  | .next s_2=>(s7 S R ((st1.1.take ((st1.1.length:Int) - 1).toNat),s_2))
  | .done e_2=>(some (.done (Sum.inl e_2)))
  else
  (T3 v0).bind fun v0_2 =>
  (t8 ((List (((List (List (Int×Int×Int×Int)))×(List (List Int)))×(List Int)×(El T80)×(Int×Int×Int)×(El T85)×(El T86)×Int))) Empty v0 (i8 S R st1) (st1.1.take ((st1.1.length:Int) - 1).toNat)).bind fun x=>match x with
  | .inl st2_2=>(s7 S R (st2_2,st1.2))
  | .inr r=>r.elim
  else
  some (.done (Sum.inr st1.2))
noncomputable def t6 (S R:Type) (a1:(List (List (Int×Int×Int×Int)))×(List (List Int))) (a2:Int) (yl:(((List (List (Int×Int×Int×Int)))×(List (List Int)))×(List Int)×(El T80)×(Int×Int×Int)×(El T85)×(El T86)×Int)→S→Option (Step S R)) (s0:S):Option (Sum S R) :=
  (i7 (j8 S R a2 yl) ([(a1,[],(Ty.dflt T80),(0,0,0),(Ty.dflt T85),(Ty.dflt T86),0)],s0)).bind fun x=>match x with
  | .inl r1=>(some (Sum.inr r1))
  | .inr r1_2=>(some (Sum.inl r1_2))
/- lineal/code.Follows -/
noncomputable def a0j:Option (Bool×Int) :=
  some (true,0)
noncomputable def T7 (v0_3:(List Int)×Int×Int) (y1:(((List (List (Int×Int×Int×Int)))×(List (List Int)))×(List Int)×(El T80)×(Int×Int×Int)×(El T85)×(El T86)×Int)) (b2:(List Int)):Option (Step Unit Unit) :=
  (T4 y1).bind fun v0_6 =>
  if (!v0_6)=true then
  some (.done ())
  else
  (V4 b2 v0_3.1).bind fun v0_7 =>
  if (!v0_7)=true then
  some (.done ())
  else
  some (.next ())
noncomputable def J5 (v0_5:ZH) (st2:(List Int)×Int):Option (Step ((List Int)×Int) ((List Int))) :=
  if (decide (st2.2<(v0_5.length:Int)))=true then
  ck (0≤st2.2) <| ck (st2.2<(v0_5.length:Int)) <| ck ((st2.1.length+1)*8≤140737488355328) <| ck (InK .i64 (st2.2+1)) <| some (.next ((st2.1++[(v0_5.getD st2.2.toNat (0,0,0,0,0,0)).2.2.2.1]),(st2.2+1)))
  else
  some (.done st2.1)
noncomputable def v8 (v0_3:(List Int)×Int×Int) (y1:(((List (List (Int×Int×Int×Int)))×(List (List Int)))×(List Int)×(El T80)×(Int×Int×Int)×(El T85)×(El T86)×Int)) (st1:Unit):Option (Step Unit Unit) :=
  (G8 y1).bind fun v0_5 =>
  (i7 (J5 v0_5) ([],0)).bind fun r2 =>
  T7 v0_3 y1 r2
noncomputable def W4 (s:Int×Int×(List (List Int))×(List (List Int))) (c:List (List (Int×Int×Int×Int))) (word:List Int):Option (Bool×Int) :=
  (Q9 s c).bind fun v0 =>
  if (!(decide (v0=0)))=true then
  some (false,v0)
  else
  (N6 c word).bind fun v0_2 =>
  if (!v0_2)=true then
  some (false,2)
  else
  (a2w s 0 word).bind fun v0_3 =>
  (P1 (c,[word]) 12).bind fun v0_4 =>
  (t6 Unit Unit (c,[word]) 12 (v8 v0_3) ()).bind fun x=>match x with
  | .inl st1_2=>(a0j)
  | .inr _=>(some (false,0))
/- lineal/linealref08.isSpec -/
noncomputable def H7 (s:Int×Int×(List (List Int))×(List (List Int))) (c:List (List (Int×Int×Int×Int))):Option Bool :=
  (K5 s).bind fun v0 =>
  if v0=true then
  some (decide (s.2.1=(c.length:Int)))
  else
  some false
/- (*lineal/linealref08.Play).Over -/
/- (*lineal/linealref08.Play).Over -/
noncomputable def H9:Option Bool :=
  some true
noncomputable def m9 (p:List (List (Int×Int×Int×Int))) (p_2:List (List Int)) (p_3:List Int) (p_4:Int) (p_5:Int) (p_6:Int) (p_7:Int) (p_8:List (Int×Int×Bool×Int×Int×Int×Int×Int)) (p_9:ZH) (p_10:List Int) (st1:Int):Option (Step Int (Sum Unit Unit)) :=
  if (decide (st1<(p_2.length:Int)))=true then
  (o7 st1 p p_2 p_3 p_4 p_5 p_6 p_7 p_8 p_9 p_10).bind fun v0 =>
  if v0=true then
  some (.done (Sum.inl ()))
  else
  ck (InK .i64 (st1+1)) <| some (.next (st1+1))
  else
  some (.done (Sum.inr ()))
noncomputable def r8 (p:List (List (Int×Int×Int×Int))) (p_2:List (List Int)) (p_3:List Int) (p_4:Int) (p_5:Int) (p_6:Int) (p_7:Int) (p_8:List (Int×Int×Bool×Int×Int×Int×Int×Int)) (p_9:ZH) (p_10:List Int):Option Bool :=
  (i7 (m9 p p_2 p_3 p_4 p_5 p_6 p_7 p_8 p_9 p_10) 0).bind fun x=>match x with
  | .inl _=>(some false)
  | .inr _=>(H9)
/- lineal/linealref08.Follows -/
noncomputable def F7 (c:List (List (Int×Int×Int×Int))) (word:List Int) (b1:(List (Int×Int×Bool×Int×Int×Int×Int×Int))×Int×Int×Int×Int×ZH×(List Int)):Option (Bool×Int) :=
  (r8 c [word] [] b1.2.1 b1.2.2.1 b1.2.2.2.1 b1.2.2.2.2.1 b1.1 b1.2.2.2.2.2.1 b1.2.2.2.2.2.2).bind fun v0_7 =>
  some (v0_7,0)
noncomputable def m6 (s:Int×Int×(List (List Int))×(List (List Int))) (b1:(List (Int×Int×Bool×Int×Int×Int×Int×Int))×Int×Int×Int×Int×ZH×(List Int)) (st2:Int×Int):Option (Step (Int×Int) (Sum Unit Unit)) :=
  if (decide (st2.2<(b1.2.2.2.2.2.1.length:Int)))=true then
  ck (0≤st2.2) <| ck (st2.2<(b1.2.2.2.2.2.1.length:Int)) <| ck (st2.2.toNat<b1.2.2.2.2.2.1.length) <| if (decide ((b1.2.2.2.2.2.1.getD st2.2.toNat (0,0,0,0,0,0)).2.2.2.2.2=0))=true then
  some (.done (Sum.inl ()))
  else
  ck (0≤st2.1) <| ck (st2.1<(s.2.2.2.length:Int)) <| ck (0≤(b1.2.2.2.2.2.1.getD st2.2.toNat (0,0,0,0,0,0)).2.2.1) <| ck ((b1.2.2.2.2.2.1.getD st2.2.toNat (0,0,0,0,0,0)).2.2.1<((s.2.2.2.getD st2.1.toNat []).length:Int)) <| if (!(decide (((s.2.2.2.getD st2.1.toNat []).getD (b1.2.2.2.2.2.1.getD st2.2.toNat (0,0,0,0,0,0)).2.2.1.toNat 0)=(b1.2.2.2.2.2.1.getD st2.2.toNat (0,0,0,0,0,0)).2.2.2.1)))=true then
  some (.done (Sum.inl ()))
  else
  ck (0≤st2.1) <| ck (st2.1<(s.2.2.1.length:Int)) <| ck (0≤(b1.2.2.2.2.2.1.getD st2.2.toNat (0,0,0,0,0,0)).2.2.1) <| ck ((b1.2.2.2.2.2.1.getD st2.2.toNat (0,0,0,0,0,0)).2.2.1<((s.2.2.1.getD st2.1.toNat []).length:Int)) <| ck (InK .i64 (st2.2+1)) <| some (.next (((s.2.2.1.getD st2.1.toNat []).getD (b1.2.2.2.2.2.1.getD st2.2.toNat (0,0,0,0,0,0)).2.2.1.toNat 0),(st2.2+1)))
  else
  some (.done (Sum.inr ()))
noncomputable def F8 (s:Int×Int×(List (List Int))×(List (List Int))) (c:List (List (Int×Int×Int×Int))) (word:List Int) (b1:(List (Int×Int×Bool×Int×Int×Int×Int×Int))×Int×Int×Int×Int×ZH×(List Int)):Option (Bool×Int) :=
  (i7 (m6 s b1) (0,0)).bind fun x=>match x with
  | .inl _=>(some (false,0))
  | .inr _=>(F7 c word b1)
noncomputable def n9 (c:List (List (Int×Int×Int×Int))) (word:List Int) (st1:(List (Int×Int×Bool×Int×Int×Int×Int×Int))×Int×Int×Int×Int×ZH×(List Int)×Int):Option (Step ((List (Int×Int×Bool×Int×Int×Int×Int×Int))×Int×Int×Int×Int×ZH×(List Int)×Int) ((List (Int×Int×Bool×Int×Int×Int×Int×Int))×Int×Int×Int×Int×ZH×(List Int))) :=
  if (decide (st1.2.2.2.2.2.2.2<12))=true then
  (r8 c [word] [] st1.2.1 st1.2.2.1 st1.2.2.2.1 st1.2.2.2.2.1 st1.1 st1.2.2.2.2.2.1 st1.2.2.2.2.2.2.1).bind fun v0_5 =>
  if (!v0_5)=true then
  (o9 0 c [word] [] st1.2.1 st1.2.2.1 st1.2.2.2.1 st1.2.2.2.2.1 st1.1 st1.2.2.2.2.2.1 st1.2.2.2.2.2.2.1).bind fun v0_6 =>
  ck (InK .i64 (st1.2.2.2.2.2.2.2+1)) <| some (.next (v0_6.1,(st1.2.1+1),v0_6.2.1,v0_6.2.2.1,v0_6.2.2.2.1,v0_6.2.2.2.2.1,v0_6.2.2.2.2.2,(st1.2.2.2.2.2.2.2+1)))
  else
  some (.done (st1.1,st1.2.1,st1.2.2.1,st1.2.2.2.1,st1.2.2.2.2.1,st1.2.2.2.2.2.1,st1.2.2.2.2.2.2.1))
  else
  some (.done (st1.1,st1.2.1,st1.2.2.1,st1.2.2.2.1,st1.2.2.2.2.1,st1.2.2.2.2.2.1,st1.2.2.2.2.2.2.1))
noncomputable def F2 (s:Int×Int×(List (List Int))×(List (List Int))) (c:List (List (Int×Int×Int×Int))) (word:List Int):Option (Bool×Int) :=
  (A4 c).bind fun v0 =>
  if (!v0)=true then
  some (false,80)
  else
  (H7 s c).bind fun v0_2 =>
  if (!v0_2)=true then
  some (false,10)
  else
  (E6 c [word]).bind fun v0_3 =>
  if (!v0_3)=true then
  some (false,2)
  else
  (E7 c [word] []).bind fun v0_4 =>
  (i7 (n9 c word) ((List.replicate 1 ((0,0,false,0,0,0,0,0):Int×Int×Bool×Int×Int×Int×Int×Int)),0,0,0,0,[],[],0)).bind fun r1 =>
  F8 s c word r1
/- slices.Clone[[]lineal/api.Line,lineal/api.Line] -/
noncomputable def V5 (s:List (Int×Int×Int×Int)):Option ((List (Int×Int×Int×Int))) :=
  ck (s.length*32≤140737488355328) <| some s
/- lineal/code.exchanged$1 -/
noncomputable def D0 (cell:Int) (a1:Int) (a2:Int):Option Int :=
  if (decide (cell=a1))=true then
  some a2
  else
  if (decide (cell=a2))=true then
  some a1
  else
  some cell
/- lineal/code.exchanged -/
noncomputable def Q8 (l:Int×Int×Int×Int) (a:Int) (b:Int):Option (Int×Int) :=
  if (decide (l.1=1))=true then
  (D0 l.2.2.1 a b).bind fun v0 =>
  some (l.2.1,v0)
  else
  if (decide (l.1=2))=true then
  if (decide (l.1=2))=true then
  (D0 l.2.1 a b).bind fun v0_2 =>
  some (v0_2,l.2.2.1)
  else
  some (l.2.1,l.2.2.1)
  else
  if (decide (l.1=3))=true then
  (D0 l.2.1 a b).bind fun v0_3 =>
  some (v0_3,l.2.2.1)
  else
  some (l.2.1,l.2.2.1)
/- lineal/code.Swapped -/
noncomputable def a0i (b3_3:(List (List (Int×Int×Int×Int)))):Option ((List (List (Int×Int×Int×Int)))×Int) :=
  some (b3_3,0)
noncomputable def T6 (st1:(List (List (Int×Int×Int×Int)))×Int) (b3_2:(List (List (Int×Int×Int×Int)))):Option (Step ((List (List (Int×Int×Int×Int)))×Int) ((List (List (Int×Int×Int×Int))))) :=
  ck (InK .i64 (st1.2+1)) <| some (.next (b3_2,(st1.2+1)))
noncomputable def T5 (st1:(List (List (Int×Int×Int×Int)))×Int) (b3:(List (Int×Int×Int×Int))):Option (Step ((List (List (Int×Int×Int×Int)))×Int) ((List (List (Int×Int×Int×Int))))) :=
  ck ((st1.1.length+1)*24≤140737488355328) <| T6 st1 (st1.1++[b3])
noncomputable def J3 (a:Int) (b:Int) (v0_4:(List (Int×Int×Int×Int))) (st2:(List (Int×Int×Int×Int))×Int):Option (Step ((List (Int×Int×Int×Int))×Int) ((List (Int×Int×Int×Int)))) :=
  if (decide (st2.2<(v0_4.length:Int)))=true then
  ck (0≤st2.2) <| ck (st2.2<(st2.1.length:Int)) <| (Q8 (st2.1.getD st2.2.toNat (0,0,0,0)) a b).bind fun v0_5 =>
  ck (0≤st2.2) <| ck (st2.2<(st2.1.length:Int)) <| ck (InK .i64 (st2.2+1)) <| some (.next ((st2.1.set st2.2.toNat ((st2.1.getD st2.2.toNat (0,0,0,0)).1,v0_5.1,v0_5.2,(st2.1.getD st2.2.toNat (0,0,0,0)).2.2.2)),(st2.2+1)))
  else
  some (.done st2.1)
noncomputable def J4 (c:List (List (Int×Int×Int×Int))) (a:Int) (b:Int) (st1:(List (List (Int×Int×Int×Int)))×Int):Option (Step ((List (List (Int×Int×Int×Int)))×Int) ((List (List (Int×Int×Int×Int))))) :=
  if (decide (st1.2<(c.length:Int)))=true then
  ck (0≤st1.2) <| ck (st1.2<(c.length:Int)) <| (V5 (c.getD st1.2.toNat [])).bind fun v0_4 =>
  (i7 (J3 a b v0_4) (v0_4,0)).bind fun r2 =>
  T5 st1 r2
  else
  some (.done st1.1)
noncomputable def W3 (c:List (List (Int×Int×Int×Int))) (a:Int) (b:Int):Option ((List (List (Int×Int×Int×Int)))×Int) :=
  (U6 c).bind fun v0 =>
  if (!v0)=true then
  some ([],80)
  else
  (L5 a).bind fun v0_2 =>
  if (!v0_2)=true then
  some ([],2)
  else
  (L5 b).bind fun v0_3 =>
  if (!v0_3)=true then
  some ([],2)
  else
  (i7 (J4 c a b) ([],0)).bind fun r1 =>
  a0i r1
/- lineal/linealref08.other -/
noncomputable def A3 (n:Int) (a:Int) (b:Int):Option Int :=
  if (decide (n=a))=true then
  some b
  else
  if (decide (n=b))=true then
  some a
  else
  some n
/- lineal/linealref08.Swapped -/
noncomputable def N8 (b3_3:(List (List (Int×Int×Int×Int)))):Option ((List (List (Int×Int×Int×Int)))×Int) :=
  some (b3_3,0)
noncomputable def F6 (st1:(List (List (Int×Int×Int×Int)))×Int) (b3_2:(List (List (Int×Int×Int×Int)))):Option (Step ((List (List (Int×Int×Int×Int)))×Int) ((List (List (Int×Int×Int×Int))))) :=
  ck (InK .i64 (st1.2+1)) <| some (.next (b3_2,(st1.2+1)))
noncomputable def F5 (st1:(List (List (Int×Int×Int×Int)))×Int) (b3:(List (Int×Int×Int×Int))):Option (Step ((List (List (Int×Int×Int×Int)))×Int) ((List (List (Int×Int×Int×Int))))) :=
  ck ((st1.1.length+1)*24≤140737488355328) <| F6 st1 (st1.1++[b3])
noncomputable def s5 (a:Int) (b:Int) (st2:(List (Int×Int×Int×Int))×Int):Option (Step ((List (Int×Int×Int×Int))×Int) ((List (Int×Int×Int×Int)))) :=
  if (decide (st2.2<(st2.1.length:Int)))=true then
  ck (0≤st2.2) <| ck (st2.2<(st2.1.length:Int)) <| if (decide ((st2.1.getD st2.2.toNat (0,0,0,0)).1=1))=true then
  ck (0≤st2.2) <| ck (st2.2<(st2.1.length:Int)) <| (A3 (st2.1.getD st2.2.toNat (0,0,0,0)).2.2.1 a b).bind fun v0_4 =>
  ck (0≤st2.2) <| ck (st2.2<(st2.1.length:Int)) <| ck (InK .i64 (st2.2+1)) <| some (.next ((st2.1.set st2.2.toNat ((st2.1.getD st2.2.toNat (0,0,0,0)).1,(st2.1.getD st2.2.toNat (0,0,0,0)).2.1,v0_4,(st2.1.getD st2.2.toNat (0,0,0,0)).2.2.2)),(st2.2+1)))
  else
  if (decide ((st2.1.getD st2.2.toNat (0,0,0,0)).1=2))=true then
  if (decide ((st2.1.getD st2.2.toNat (0,0,0,0)).1=2))=true then
  ck (0≤st2.2) <| ck (st2.2<(st2.1.length:Int)) <| (A3 (st2.1.getD st2.2.toNat (0,0,0,0)).2.1 a b).bind fun v0_5 =>
  ck (0≤st2.2) <| ck (st2.2<(st2.1.length:Int)) <| ck (InK .i64 (st2.2+1)) <| some (.next ((st2.1.set st2.2.toNat ((st2.1.getD st2.2.toNat (0,0,0,0)).1,v0_5,(st2.1.getD st2.2.toNat (0,0,0,0)).2.2)),(st2.2+1)))
  else
  ck (InK .i64 (st2.2+1)) <| some (.next (st2.1,(st2.2+1)))
  else
  if (decide ((st2.1.getD st2.2.toNat (0,0,0,0)).1=3))=true then
  ck (0≤st2.2) <| ck (st2.2<(st2.1.length:Int)) <| (A3 (st2.1.getD st2.2.toNat (0,0,0,0)).2.1 a b).bind fun v0_6 =>
  ck (0≤st2.2) <| ck (st2.2<(st2.1.length:Int)) <| ck (InK .i64 (st2.2+1)) <| some (.next ((st2.1.set st2.2.toNat ((st2.1.getD st2.2.toNat (0,0,0,0)).1,v0_6,(st2.1.getD st2.2.toNat (0,0,0,0)).2.2)),(st2.2+1)))
  else
  ck (InK .i64 (st2.2+1)) <| some (.next (st2.1,(st2.2+1)))
  else
  some (.done st2.1)
noncomputable def s6 (c:List (List (Int×Int×Int×Int))) (a:Int) (b:Int) (st1:(List (List (Int×Int×Int×Int)))×Int):Option (Step ((List (List (Int×Int×Int×Int)))×Int) ((List (List (Int×Int×Int×Int))))) :=
  if (decide (st1.2<(c.length:Int)))=true then
  ck (0≤st1.2) <| ck (st1.2<(c.length:Int)) <| ck ((c.getD st1.2.toNat []).length*32≤140737488355328) <| (i7 (s5 a b) ((c.getD st1.2.toNat []),0)).bind fun r2 =>
  F5 st1 r2
  else
  some (.done st1.1)
noncomputable def F1 (c:List (List (Int×Int×Int×Int))) (a:Int) (b:Int):Option ((List (List (Int×Int×Int×Int)))×Int) :=
  (A4 c).bind fun v0 =>
  if (!v0)=true then
  some ([],80)
  else
  (q8 a).bind fun v0_2 =>
  if (!v0_2)=true then
  some ([],2)
  else
  (q8 b).bind fun v0_3 =>
  if (!v0_3)=true then
  some ([],2)
  else
  (i7 (s6 c a b) ([],0)).bind fun r1 =>
  N8 r1
/- lineal/linealref08.SameCode -/
noncomputable def N0:Option Bool :=
  some true
noncomputable def E5 (st1:Int):Option (Step Int (Sum Unit Unit)) :=
  ck (InK .i64 (st1+1)) <| some (.next (st1+1))
noncomputable def r6 (a:List (List (Int×Int×Int×Int))) (b:List (List (Int×Int×Int×Int))) (st1:Int) (st2:Int):Option (Step Int (Sum Unit Unit)) :=
  ck (0≤st1) <| ck (st1<(a.length:Int)) <| if (decide (st2<((a.getD st1.toNat []).length:Int)))=true then
  ck (0≤st1) <| ck (st1<(a.length:Int)) <| ck (0≤st2) <| ck (st2<((a.getD st1.toNat []).length:Int)) <| ck (0≤st1) <| ck (st1<(b.length:Int)) <| ck (0≤st2) <| ck (st2<((b.getD st1.toNat []).length:Int)) <| ck (InK .i64 ((a.getD st1.toNat []).getD st2.toNat (0,0,0,0)).1) <| ck (InK .i64 ((a.getD st1.toNat []).getD st2.toNat (0,0,0,0)).2.1) <| ck (InK .i64 ((a.getD st1.toNat []).getD st2.toNat (0,0,0,0)).2.2.1) <| ck (InK .i64 ((a.getD st1.toNat []).getD st2.toNat (0,0,0,0)).2.2.2) <| ck (InK .i64 ((b.getD st1.toNat []).getD st2.toNat (0,0,0,0)).1) <| ck (InK .i64 ((b.getD st1.toNat []).getD st2.toNat (0,0,0,0)).2.1) <| ck (InK .i64 ((b.getD st1.toNat []).getD st2.toNat (0,0,0,0)).2.2.1) <| ck (InK .i64 ((b.getD st1.toNat []).getD st2.toNat (0,0,0,0)).2.2.2) <| if (!(decide (((a.getD st1.toNat []).getD st2.toNat (0,0,0,0))=((b.getD st1.toNat []).getD st2.toNat (0,0,0,0)))))=true then
  some (.done (Sum.inl ()))
  else
  ck (InK .i64 (st2+1)) <| some (.next (st2+1))
  else
  some (.done (Sum.inr ()))
noncomputable def r7 (a:List (List (Int×Int×Int×Int))) (b:List (List (Int×Int×Int×Int))) (st1:Int):Option (Step Int (Sum Unit Unit)) :=
  if (decide (st1<(a.length:Int)))=true then
  ck (0≤st1) <| ck (st1<(a.length:Int)) <| ck (0≤st1) <| ck (st1<(b.length:Int)) <| if (!(decide (((a.getD st1.toNat []).length:Int)=((b.getD st1.toNat []).length:Int))))=true then
  some (.done (Sum.inl ()))
  else
  (i7 (r6 a b st1) 0).bind fun x=>match x with
  | .inl _=>(some (.done (Sum.inl ())))
  | .inr _=>(E5 st1)
  else
  some (.done (Sum.inr ()))
noncomputable def s4 (a:List (List (Int×Int×Int×Int))) (b:List (List (Int×Int×Int×Int))):Option Bool :=
  if (!(decide ((a.length:Int)=(b.length:Int))))=true then
  some false
  else
  (i7 (r7 a b) 0).bind fun x=>match x with
  | .inl _=>(some false)
  | .inr _=>(N0)
/- lineal/lineallaw08.CodeFollows -/
noncomputable def E8 (x0:(Int×Int×(List (List Int))×(List (List Int)))×(List (List (Int×Int×Int×Int)))×(List (List Int))) (word:List Int) (cells:Int×Int):Option Bool :=
  (K8 x0).bind fun v0 =>
  if v0=true then
  (C8).bind fun v0_2 =>
  some v0_2
  else
  if (decide (60<(word.length:Int)))=true then
  (C8).bind fun v0_3 =>
  some v0_3
  else
  (W4 x0.1 x0.2.1 word).bind fun v0_4 =>
  (F2 x0.1 x0.2.1 word).bind fun v0_5 =>
  (W3 x0.2.1 cells.1 cells.2).bind fun v0_6 =>
  (F1 x0.2.1 cells.1 cells.2).bind fun v0_7 =>
  if ((v0_4.1==v0_5.1) != false)=true then
  if (decide (v0_4.2=v0_5.2))=true then
  (s4 v0_6.1 v0_7.1).bind fun v0_8 =>
  if v0_8=true then
  if (decide (v0_6.2=v0_7.2))=true then
  (C8).bind fun v0_9 =>
  some v0_9
  else
  some false
  else
  some false
  else
  some false
  else
  some false
/- lineal/code.runsOf -/
/- cmp.isNaN[int] -/
/- cmp.Compare[int] -/
/- cmp.Or[int] -/
/- lineal/code.compareCalls -/
/- slices.CompareFunc[[]lineal/api.Call,[]lineal/api.Call,lineal/api.Call,lineal/api.Call] -/
/- lineal/code.compareHistories -/
/- slices.insertionSortCmpFunc[[]lineal/api.Call] -/
/- slices.pdqsortCmpFunc[[]lineal/api.Call] -/
/- slices.SortFunc[[][]lineal/api.Call,[]lineal/api.Call] -/
/- slices.Equal[[]lineal/api.Call,lineal/api.Call] -/
/- slices.CompactFunc[[][]lineal/api.Call,[]lineal/api.Call] -/
/- lineal/code.Histories -/
/- lineal/linealref08.SameHistories -/
/- lineal/code.Schedules -/
/- lineal/lineallaw08.CodeTurns -/
/- lineal/history.checkSpecs -/
/- lineal/history.fits -/
/- lineal/history.checkFor -/
/- lineal/history.newSearch -/
/- (lineal/history.place).has -/
/- (lineal/history.search).full -/
/- (lineal/history.search).steps -/
/- lineal/history.inTime -/
/- (lineal/history.search).ready -/
/- (*lineal/history.states).answer -/
/- (*lineal/history.states).allow -/
/- (lineal/history.search).steps$1 -/
/- (lineal/history.search).count -/
/- lineal/history.Linear$1 -/
/- lineal/history.told[bool] -/
/- lineal/history.told[bool] -/
/- lineal/history.Linear -/
/- (lineal/code.run).breaks -/
/- lineal/code.Break -/
/- lineal/code.Sound -/
/- lineal/code.Breaks -/
/- lineal/lineallaw08.CodeEither -/
end Go.Proofs.Ytenchhmcjmjlbaa
