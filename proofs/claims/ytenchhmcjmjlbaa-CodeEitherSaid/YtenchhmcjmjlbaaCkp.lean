import Derived.Test.YtenchhmcjmjlbaaTyk
import Derived.Test.YtenchhmcjmjlbaaTbk
namespace Go.Proofs.Ytenchhmcjmjlbaa
open Go.RowKit
set_option linter.unusedSimpArgs false
set_option linter.unusedVariables false
set_option linter.constructorNameAsVariable false
abbrev ZS:Type:=List (Int×Int×(List (List Int))×(List (List Int)))
abbrev ZH:Type:=List (Int×Int×Int×Int×Int×Int)
abbrev ZM:Type:=List (((Int×Int)×Int)×Int)
abbrev Y0:Ty:=(.pair .i (.pair .i (.pair .i (.pair .i (.pair .i .i)))))
attribute [go_sem] Y0
abbrev Y1:Ty:=(.pair .i (.pair .bool (.pair .i (.pair .i (.pair .i (.pair .i (.pair .i .i)))))))
attribute [go_sem] Y1
abbrev Y2:Ty:=(.pair .i (.pair .i (.pair .bool (.pair .i (.pair .i (.pair .i (.pair .i .i)))))))
attribute [go_sem] Y2
abbrev Y3:Ty:=(.pair .i (.pair .i (.pair (.sl (.sl .i)) (.sl (.sl .i)))))
attribute [go_sem] Y3
abbrev Y4:Ty:=(.pair .i (.pair .i (.pair .i .i)))
attribute [go_sem] Y4
abbrev Y5:Ty:=(.pair (.pair (.sl (.sl (.pair .i (.pair .i (.pair .i .i))))) (.sl (.sl .i))) (.pair (.sl .i) (.pair T80 (.pair (.pair .i (.pair .i .i)) (.pair T85 (.pair T86 .i))))))
attribute [go_sem] Y5
abbrev Y6:Ty:=(.pair (.pair .i .i) (.int .u64))
attribute [go_sem] Y6
/- lineal/lineallaw02.Large -/
noncomputable def S4 (specs:ZS):Option Bool :=
  some (decide (5<(specs.length:Int)))
noncomputable def N2 (st1:Int):Option (Step Int (Sum Unit Unit)) :=
  ck (InK .i64 (st1+1)) <| some (.next (st1+1))
noncomputable def A8 (specs:ZS) (st1:Int) (st3:Int):Option (Step Int (Sum Unit Unit)) :=
  if (decide (st3<((specs.getD st1.toNat (0,0,[],[])).2.2.2.length:Int)))=true then
  ck (0≤st3) <| ck (st3<((specs.getD st1.toNat (0,0,[],[])).2.2.2.length:Int)) <| if (decide (20<(((specs.getD st1.toNat (0,0,[],[])).2.2.2.getD st3.toNat []).length:Int)))=true then
  some (.done (Sum.inl ()))
  else
  ck (InK .i64 (st3+1)) <| some (.next (st3+1))
  else
  some (.done (Sum.inr ()))
noncomputable def N1 (specs:ZS) (st1:Int):Option (Step Int (Sum Unit Unit)) :=
  (j7 (A8 specs st1) 0).bind fun x=>match x with
  | .inl _=>(some (.done (Sum.inl ())))
  | .inr _=>(N2 st1)
noncomputable def A9 (specs:ZS) (st1:Int) (st2:Int):Option (Step Int (Sum Unit Unit)) :=
  if (decide (st2<((specs.getD st1.toNat (0,0,[],[])).2.2.1.length:Int)))=true then
  ck (0≤st2) <| ck (st2<((specs.getD st1.toNat (0,0,[],[])).2.2.1.length:Int)) <| if (decide (20<(((specs.getD st1.toNat (0,0,[],[])).2.2.1.getD st2.toNat []).length:Int)))=true then
  some (.done (Sum.inl ()))
  else
  ck (InK .i64 (st2+1)) <| some (.next (st2+1))
  else
  some (.done (Sum.inr ()))
noncomputable def B5 (specs:ZS) (st1:Int):Option (Step Int (Sum Unit Unit)) :=
  if (decide (st1<(specs.length:Int)))=true then
  ck (0≤st1) <| ck (st1<(specs.length:Int)) <| if (decide (20<((specs.getD st1.toNat (0,0,[],[])).2.2.1.length:Int)))=true then
  some (.done (Sum.inl ()))
  else
  if (decide (20<((specs.getD st1.toNat (0,0,[],[])).2.2.2.length:Int)))=true then
  some (.done (Sum.inl ()))
  else
  (j7 (A9 specs st1) 0).bind fun x=>match x with
  | .inl _=>(some (.done (Sum.inl ())))
  | .inr _=>(N1 specs st1)
  else
  some (.done (Sum.inr ()))
noncomputable def N3 (specs:ZS):Option Bool :=
  (j7 (B5 specs) 0).bind fun x=>match x with
  | .inl _=>(some true)
  | .inr _=>(S4 specs)
/- lineal/lineallaw08.Large -/
noncomputable def M8 (x0:(Int×Int×(List (List Int))×(List (List Int)))×(List (List (Int×Int×Int×Int)))×(List (List Int))):Option Bool :=
  (N3 [x0.1]).bind fun v0 =>
  if v0=true then
  some true
  else
  if (decide (10<(x0.2.1.length:Int)))=true then
  some true
  else
  some (decide (10<(x0.2.2.length:Int)))
noncomputable def A6 (x0:(Int×Int×(List (List Int))×(List (List Int)))×(List (List (Int×Int×Int×Int)))×(List (List Int))) (st2:Int):Option (Step Int (Sum Unit Unit)) :=
  if (decide (st2<(x0.2.2.length:Int)))=true then
  ck (0≤st2) <| ck (st2<(x0.2.2.length:Int)) <| if (decide (20<((x0.2.2.getD st2.toNat []).length:Int)))=true then
  some (.done (Sum.inl ()))
  else
  ck (InK .i64 (st2+1)) <| some (.next (st2+1))
  else
  some (.done (Sum.inr ()))
noncomputable def M9 (x0:(Int×Int×(List (List Int))×(List (List Int)))×(List (List (Int×Int×Int×Int)))×(List (List Int))):Option Bool :=
  (j7 (A6 x0) 0).bind fun x=>match x with
  | .inl _=>(some true)
  | .inr _=>(M8 x0)
noncomputable def A7 (x0:(Int×Int×(List (List Int))×(List (List Int)))×(List (List (Int×Int×Int×Int)))×(List (List Int))) (st1:Int):Option (Step Int (Sum Unit Unit)) :=
  if (decide (st1<(x0.2.1.length:Int)))=true then
  ck (0≤st1) <| ck (st1<(x0.2.1.length:Int)) <| if (decide (30<((x0.2.1.getD st1.toNat []).length:Int)))=true then
  some (.done (Sum.inl ()))
  else
  ck (InK .i64 (st1+1)) <| some (.next (st1+1))
  else
  some (.done (Sum.inr ()))
noncomputable def N0 (x0:(Int×Int×(List (List Int))×(List (List Int)))×(List (List (Int×Int×Int×Int)))×(List (List Int))):Option Bool :=
  (j7 (A7 x0) 0).bind fun x=>match x with
  | .inl _=>(some true)
  | .inr _=>(M9 x0)
/- lineal/code.bare -/
noncomputable def a2u (l:Int×Int×Int×Int):Option (Int×Int) :=
  if (decide (l.1=3))=true then
  if (decide (l.1=3))=true then
  some l.2.2
  else
  if (decide (l.1=7))=true then
  some (0,0)
  else
  some (l.2.2.1,0)
  else
  if (decide (l.1=5))=true then
  some l.2.2
  else
  if (decide (l.1=7))=true then
  some (0,0)
  else
  some (l.2.2.1,0)
/- lineal/code.isBelow -/
noncomputable def C7 (number:Int) (end0:Int):Option Bool :=
  if (decide (0≤number))=true then
  some (decide (number<end0))
  else
  some false
/- lineal/code.isRegister -/
noncomputable def n8 (register:Int):Option Bool :=
  (C7 register 4).bind fun v0 =>
  some v0
/- lineal/code.isCell -/
noncomputable def T3 (cell:Int):Option Bool :=
  (C7 cell 3).bind fun v0 =>
  some v0
/- lineal/code.isLine -/
noncomputable def a0C (l:Int×Int×Int×Int) (lines:Int):Option Bool :=
  (a2u l).bind fun v0 =>
  ck (InK .i64 l.1) <| ck (InK .i64 l.2.1) <| ck (InK .i64 l.2.2.1) <| ck (InK .i64 l.2.2.2) <| ck (InK .i64 l.1) <| ck (InK .i64 l.2.1) <| ck (InK .i64 v0.1) <| ck (InK .i64 v0.2) <| if (!(decide (l=(l.1,l.2.1,v0))))=true then
  some false
  else
  if (decide (l.1=1))=true then
  (n8 l.2.1).bind fun v0_2 =>
  if v0_2=true then
  (T3 l.2.2.1).bind fun v0_3 =>
  some v0_3
  else
  some false
  else
  if (decide (l.1=2))=true then
  (T3 l.2.1).bind fun v0_4 =>
  if v0_4=true then
  (n8 l.2.2.1).bind fun v0_5 =>
  some v0_5
  else
  some false
  else
  if (decide (l.1=3))=true then
  (T3 l.2.1).bind fun v0_6 =>
  if v0_6=true then
  (n8 l.2.2.1).bind fun v0_7 =>
  if v0_7=true then
  (n8 l.2.2.2).bind fun v0_8 =>
  some v0_8
  else
  some false
  else
  some false
  else
  if (decide (l.1=4))=true then
  (n8 l.2.1).bind fun v0_9 =>
  if v0_9=true then
  (C7 l.2.2.1 10).bind fun v0_10 =>
  some v0_10
  else
  some false
  else
  if (decide (l.1=5))=true then
  (n8 l.2.1).bind fun v0_11 =>
  if v0_11=true then
  (n8 l.2.2.1).bind fun v0_12 =>
  if v0_12=true then
  (n8 l.2.2.2).bind fun v0_13 =>
  some v0_13
  else
  some false
  else
  some false
  else
  if (decide (l.1=6))=true then
  (n8 l.2.1).bind fun v0_14 =>
  if v0_14=true then
  (C7 l.2.2.1 lines).bind fun v0_15 =>
  some v0_15
  else
  some false
  else
  if (decide (l.1=7))=true then
  (n8 l.2.1).bind fun v0_16 =>
  some v0_16
  else
  some false
/- lineal/code.isCall$1 -/
noncomputable def a0o (l:Int×Int×Int×Int) (a1:Int):Option Bool :=
  (a0C l a1).bind fun v0 =>
  some (!v0)
/- slices.IndexFunc[[]lineal/api.Line,lineal/api.Line] -/
noncomputable def R4:Option Int :=
  some (-1)
noncomputable def y0 (s:List (Int×Int×Int×Int)) (c0:Int) (st1:Int):Option (Step Int (Sum Int Unit)) :=
  if (decide (st1<(s.length:Int)))=true then
  ck (0≤st1) <| ck (st1<(s.length:Int)) <| (a0o (s.getD st1.toNat (0,0,0,0)) c0).bind fun v0 =>
  if v0=true then
  some (.done (Sum.inl st1))
  else
  ck (InK .i64 (st1+1)) <| some (.next (st1+1))
  else
  some (.done (Sum.inr ()))
noncomputable def W6 (s:List (Int×Int×Int×Int)) (c0:Int):Option Int :=
  (j7 (y0 s c0) 0).bind fun x=>match x with
  | .inl r1=>(some r1)
  | .inr _=>(R4)
/- slices.ContainsFunc[[]lineal/api.Line,lineal/api.Line] -/
noncomputable def L4 (s:List (Int×Int×Int×Int)) (c0:Int):Option Bool :=
  (W6 s c0).bind fun v0 =>
  some (decide (0≤v0))
/- lineal/code.isCall -/
noncomputable def a0D (lines:List (Int×Int×Int×Int)):Option Bool :=
  if (decide ((lines.length:Int)<1))=true then
  some false
  else
  if (decide (8<(lines.length:Int)))=true then
  some false
  else
  ck (InK .i64 ((lines.length:Int) - 1)) <| ck (0≤((lines.length:Int) - 1)) <| ck (((lines.length:Int) - 1)<(lines.length:Int)) <| if (!(decide ((lines.getD ((lines.length:Int) - 1).toNat (0,0,0,0)).1=7)))=true then
  some false
  else
  (L4 lines (lines.length:Int)).bind fun v0 =>
  some (!v0)
/- lineal/code.Valid$1 -/
noncomputable def a00 (lines:List (Int×Int×Int×Int)):Option Bool :=
  (a0D lines).bind fun v0 =>
  some (!v0)
/- slices.IndexFunc[[][]lineal/api.Line,[]lineal/api.Line] -/
noncomputable def U4:Option Int :=
  some (-1)
noncomputable def C9 (s:List (List (Int×Int×Int×Int))) (st1:Int):Option (Step Int (Sum Int Unit)) :=
  if (decide (st1<(s.length:Int)))=true then
  ck (0≤st1) <| ck (st1<(s.length:Int)) <| (a00 (s.getD st1.toNat [])).bind fun v0 =>
  if v0=true then
  some (.done (Sum.inl st1))
  else
  ck (InK .i64 (st1+1)) <| some (.next (st1+1))
  else
  some (.done (Sum.inr ()))
noncomputable def a0b (s:List (List (Int×Int×Int×Int))):Option Int :=
  (j7 (C9 s) 0).bind fun x=>match x with
  | .inl r1=>(some r1)
  | .inr _=>(U4)
/- slices.ContainsFunc[[][]lineal/api.Line,[]lineal/api.Line] -/
noncomputable def O2 (s:List (List (Int×Int×Int×Int))):Option Bool :=
  (a0b s).bind fun v0 =>
  some (decide (0≤v0))
/- lineal/code.Valid -/
noncomputable def a0e (c:List (List (Int×Int×Int×Int))):Option Bool :=
  if (decide (1≤(c.length:Int)))=true then
  if (decide ((c.length:Int)≤4))=true then
  (O2 c).bind fun v0 =>
  some (!v0)
  else
  some false
  else
  some false
/- lineal/code.isWord$1 -/
noncomputable def a0n (op0:Int) (a1:List (List (Int×Int×Int×Int))):Option Bool :=
  (C7 op0 (a1.length:Int)).bind fun v0 =>
  some (!v0)
/- slices.IndexFunc[[]int,int] -/
noncomputable def R2:Option Int :=
  some (-1)
noncomputable def w9 (s:List Int) (c0:List (List (Int×Int×Int×Int))) (st1:Int):Option (Step Int (Sum Int Unit)) :=
  if (decide (st1<(s.length:Int)))=true then
  ck (0≤st1) <| ck (st1<(s.length:Int)) <| (a0n (s.getD st1.toNat 0) c0).bind fun v0 =>
  if v0=true then
  some (.done (Sum.inl st1))
  else
  ck (InK .i64 (st1+1)) <| some (.next (st1+1))
  else
  some (.done (Sum.inr ()))
noncomputable def W4 (s:List Int) (c0:List (List (Int×Int×Int×Int))):Option Int :=
  (j7 (w9 s c0) 0).bind fun x=>match x with
  | .inl r1=>(some r1)
  | .inr _=>(R2)
/- slices.ContainsFunc[[]int,int] -/
noncomputable def L2 (s:List Int) (c0:List (List (Int×Int×Int×Int))):Option Bool :=
  (W4 s c0).bind fun v0 =>
  some (decide (0≤v0))
/- lineal/code.isWord -/
noncomputable def a0B (c:List (List (Int×Int×Int×Int))) (word:List Int):Option Bool :=
  if (decide ((word.length:Int)≤3))=true then
  (L2 word c).bind fun v0 =>
  some (!v0)
  else
  some false
/- lineal/code.isUse$1 -/
noncomputable def a0Z (word:List Int) (a1:List (List (Int×Int×Int×Int))):Option Bool :=
  (a0B a1 word).bind fun v0 =>
  some (!v0)
/- slices.IndexFunc[[][]int,[]int] -/
noncomputable def R3:Option Int :=
  some (-1)
noncomputable def x8 (s:List (List Int)) (c0:List (List (Int×Int×Int×Int))) (st1:Int):Option (Step Int (Sum Int Unit)) :=
  if (decide (st1<(s.length:Int)))=true then
  ck (0≤st1) <| ck (st1<(s.length:Int)) <| (a0Z (s.getD st1.toNat []) c0).bind fun v0 =>
  if v0=true then
  some (.done (Sum.inl st1))
  else
  ck (InK .i64 (st1+1)) <| some (.next (st1+1))
  else
  some (.done (Sum.inr ()))
noncomputable def W5 (s:List (List Int)) (c0:List (List (Int×Int×Int×Int))):Option Int :=
  (j7 (x8 s c0) 0).bind fun x=>match x with
  | .inl r1=>(some r1)
  | .inr _=>(R3)
/- slices.ContainsFunc[[][]int,[]int] -/
noncomputable def L3 (s:List (List Int)) (c0:List (List (Int×Int×Int×Int))):Option Bool :=
  (W5 s c0).bind fun v0 =>
  some (decide (0≤v0))
/- lineal/code.isUse -/
noncomputable def a1j (c:List (List (Int×Int×Int×Int))) (use:List (List Int)):Option Bool :=
  if (decide (1≤(use.length:Int)))=true then
  if (decide ((use.length:Int)≤2))=true then
  (L3 use c).bind fun v0 =>
  some (!v0)
  else
  some false
  else
  some false
/- lineal/code.ValidUse -/
noncomputable def a0p (c:List (List (Int×Int×Int×Int))) (use:List (List Int)):Option (Bool×Int) :=
  (a0e c).bind fun v0 =>
  if (!v0)=true then
  some (false,80)
  else
  (a1j c use).bind fun v0_2 =>
  some (v0_2,0)
/- lineal/code.checkUse -/
noncomputable def R0 (c:List (List (Int×Int×Int×Int))) (use:List (List Int)):Option Int :=
  (a0p c use).bind fun v0 =>
  if (decide (v0.2=0))=true then
  if (!v0.1)=true then
  some 81
  else
  some v0.2
  else
  some v0.2
/- (lineal/code.run).hasLine -/
noncomputable def B6 (r0:((List (List (Int×Int×Int×Int)))×(List (List Int)))×(List Int)×(El T80)×(Int×Int×Int)×(El T85)×(El T86)×Int) (thread:Int):Option Bool :=
  (C7 thread (r0.1.2.length:Int)).bind fun v0 =>
  if v0=true then
  ck (0≤thread) <| ck (thread<2) <| ck (kAt T85 ((thread.toNat*8))=some (some .i64)) <| ck (0≤thread) <| ck (thread<(r0.1.2.length:Int)) <| some (decide ((b7 T85 r0.2.2.2.2.1 (thread.toNat*8))<((r0.1.2.getD thread.toNat []).length:Int)))
  else
  some false
/- (*lineal/code.worker).do -/
noncomputable def T0 (w:Nat) (l:Int×Int×Int×Int) (w_2:List (List (Int×Int×Int×Int))) (w_3:List (List Int)) (w_4:(El T80)) (w_5:Int) (w_6:Int) (w_7:Int) (w_8:(El T85)) (w_9:(El T86)) (w_10:Int) (w_11:List Int):Option (Int×Int×Int×(El T85)) :=
  if (decide (l.1=1))=true then
  ck (0≤l.2.2.1) <| ck (l.2.2.1<3) <| if (decide (l.2.2.1=0))=true then
  ck (0≤l.2.1) <| ck (l.2.1<4) <| ck (kAt T85 (((w+4)+l.2.1.toNat*1))=some (some .i64)) <| some (w_5,w_6,w_7,(g4 T85 w_8 ((w+4)+l.2.1.toNat*1) w_5))
  else
  if (decide (l.2.2.1=1))=true then
  ck (0≤l.2.1) <| ck (l.2.1<4) <| ck (kAt T85 (((w+4)+l.2.1.toNat*1))=some (some .i64)) <| some (w_5,w_6,w_7,(g4 T85 w_8 ((w+4)+l.2.1.toNat*1) w_6))
  else
  ck (0≤l.2.1) <| ck (l.2.1<4) <| ck (kAt T85 (((w+4)+l.2.1.toNat*1))=some (some .i64)) <| some (w_5,w_6,w_7,(g4 T85 w_8 ((w+4)+l.2.1.toNat*1) w_7))
  else
  if (decide (l.1=2))=true then
  ck (0≤l.2.2.1) <| ck (l.2.2.1<4) <| ck (kAt T85 (((w+4)+l.2.2.1.toNat*1))=some (some .i64)) <| ck (0≤l.2.1) <| ck (l.2.1<3) <| if (decide (l.2.1=0))=true then
  some ((b7 T85 w_8 ((w+4)+l.2.2.1.toNat*1)),w_6,w_7,w_8)
  else
  if (decide (l.2.1=1))=true then
  some (w_5,(b7 T85 w_8 ((w+4)+l.2.2.1.toNat*1)),w_7,w_8)
  else
  some (w_5,w_6,(b7 T85 w_8 ((w+4)+l.2.2.1.toNat*1)),w_8)
  else
  if (decide (l.1=3))=true then
  ck (0≤l.2.1) <| ck (l.2.1<3) <| if (decide (l.2.1=0))=true then
  ck (0≤l.2.2.1) <| ck (l.2.2.1<4) <| ck (kAt T85 (((w+4)+l.2.2.1.toNat*1))=some (some .i64)) <| if (decide (w_5=(b7 T85 w_8 ((w+4)+l.2.2.1.toNat*1))))=true then
  ck (0≤l.2.2.2) <| ck (l.2.2.2<4) <| ck (kAt T85 (((w+4)+l.2.2.2.toNat*1))=some (some .i64)) <| ck (kAt T85 (((w+4)+3))=some (some .i64)) <| some ((b7 T85 w_8 ((w+4)+l.2.2.2.toNat*1)),w_6,w_7,(g4 T85 w_8 ((w+4)+3) 1))
  else
  ck (kAt T85 (((w+4)+3))=some (some .i64)) <| some (w_5,w_6,w_7,(g4 T85 w_8 ((w+4)+3) 0))
  else
  if (decide (l.2.1=1))=true then
  ck (0≤l.2.2.1) <| ck (l.2.2.1<4) <| ck (kAt T85 (((w+4)+l.2.2.1.toNat*1))=some (some .i64)) <| if (decide (w_6=(b7 T85 w_8 ((w+4)+l.2.2.1.toNat*1))))=true then
  ck (0≤l.2.2.2) <| ck (l.2.2.2<4) <| ck (kAt T85 (((w+4)+l.2.2.2.toNat*1))=some (some .i64)) <| ck (kAt T85 (((w+4)+3))=some (some .i64)) <| some (w_5,(b7 T85 w_8 ((w+4)+l.2.2.2.toNat*1)),w_7,(g4 T85 w_8 ((w+4)+3) 1))
  else
  ck (kAt T85 (((w+4)+3))=some (some .i64)) <| some (w_5,w_6,w_7,(g4 T85 w_8 ((w+4)+3) 0))
  else
  ck (0≤l.2.2.1) <| ck (l.2.2.1<4) <| ck (kAt T85 (((w+4)+l.2.2.1.toNat*1))=some (some .i64)) <| if (decide (w_7=(b7 T85 w_8 ((w+4)+l.2.2.1.toNat*1))))=true then
  ck (0≤l.2.2.2) <| ck (l.2.2.2<4) <| ck (kAt T85 (((w+4)+l.2.2.2.toNat*1))=some (some .i64)) <| ck (kAt T85 (((w+4)+3))=some (some .i64)) <| some (w_5,w_6,(b7 T85 w_8 ((w+4)+l.2.2.2.toNat*1)),(g4 T85 w_8 ((w+4)+3) 1))
  else
  ck (kAt T85 (((w+4)+3))=some (some .i64)) <| some (w_5,w_6,w_7,(g4 T85 w_8 ((w+4)+3) 0))
  else
  if (decide (l.1=4))=true then
  ck (0≤l.2.1) <| ck (l.2.1<4) <| ck (kAt T85 (((w+4)+l.2.1.toNat*1))=some (some .i64)) <| some (w_5,w_6,w_7,(g4 T85 w_8 ((w+4)+l.2.1.toNat*1) l.2.2.1))
  else
  if (decide (l.1=5))=true then
  ck (0≤l.2.2.1) <| ck (l.2.2.1<4) <| ck (kAt T85 (((w+4)+l.2.2.1.toNat*1))=some (some .i64)) <| ck (0≤l.2.2.2) <| ck (l.2.2.2<4) <| ck (kAt T85 (((w+4)+l.2.2.2.toNat*1))=some (some .i64)) <| ck (InK .i64 ((b7 T85 w_8 ((w+4)+l.2.2.1.toNat*1))+(b7 T85 w_8 ((w+4)+l.2.2.2.toNat*1)))) <| ck (0≤((b7 T85 w_8 ((w+4)+l.2.2.1.toNat*1))+(b7 T85 w_8 ((w+4)+l.2.2.2.toNat*1)))) <| ck (0≤l.2.1) <| ck (l.2.1<4) <| ck (kAt T85 (((w+4)+l.2.1.toNat*1))=some (some .i64)) <| some (w_5,w_6,w_7,(g4 T85 w_8 ((w+4)+l.2.1.toNat*1) (((b7 T85 w_8 ((w+4)+l.2.2.1.toNat*1))+(b7 T85 w_8 ((w+4)+l.2.2.2.toNat*1))) % 10)))
  else
  if (decide (l.1=6))=true then
  ck (0≤l.2.1) <| ck (l.2.1<4) <| ck (kAt T85 (((w+4)+l.2.1.toNat*1))=some (some .i64)) <| if (decide ((b7 T85 w_8 ((w+4)+l.2.1.toNat*1))=0))=true then
  ck (kAt T85 ((w+3))=some (some .i64)) <| some (w_5,w_6,w_7,(g4 T85 w_8 (w+3) l.2.2.1))
  else
  some (w_5,w_6,w_7,w_8)
  else
  some (w_5,w_6,w_7,w_8)
/- (lineal/code.run).step -/
noncomputable def E3 (r0:((List (List (Int×Int×Int×Int)))×(List (List Int)))×(List Int)×(El T80)×(Int×Int×Int)×(El T85)×(El T86)×Int) (thread:Int) (b1:(El T85)×(El T86)×Int):Option ((El T80)×Int×Int×Int×(El T85)×(El T86)×Int) :=
  ck (kAt T85 (((thread.toNat*8)+2))=some (some .i64)) <| ck (0≤(b7 T85 b1.1 ((thread.toNat*8)+2))) <| ck ((b7 T85 b1.1 ((thread.toNat*8)+2))<6) <| ck (0≤(b7 T86 b1.2.1 (((b7 T85 b1.1 ((thread.toNat*8)+2)).toNat*6)+2))) <| ck ((b7 T86 b1.2.1 (((b7 T85 b1.1 ((thread.toNat*8)+2)).toNat*6)+2))<(r0.1.1.length:Int)) <| ck (kAt T85 (((thread.toNat*8)+3))=some (some .i64)) <| ck (0≤(b7 T85 b1.1 ((thread.toNat*8)+3))) <| ck ((b7 T85 b1.1 ((thread.toNat*8)+3))<((r0.1.1.getD (b7 T86 b1.2.1 (((b7 T85 b1.1 ((thread.toNat*8)+2)).toNat*6)+2)).toNat []).length:Int)) <| ck (kAt T85 (((thread.toNat*8)+2))=some (some .i64)) <| ck (kAt T85 (((thread.toNat*8)+3))=some (some .i64)) <| ck ((r0.2.1.length:Int)<12) <| ck (kAt T85 (((thread.toNat*8)+3))=some (some .i64)) <| ck (InK .i64 ((b7 T85 b1.1 ((thread.toNat*8)+3))+1)) <| ck (kAt T85 (((thread.toNat*8)+3))=some (some .i64)) <| if (decide (((r0.1.1.getD (b7 T86 b1.2.1 (((b7 T85 b1.1 ((thread.toNat*8)+2)).toNat*6)+2)).toNat []).getD (b7 T85 b1.1 ((thread.toNat*8)+3)).toNat (0,0,0,0)).1=7))=true then
  ck (0≤((r0.1.1.getD (b7 T86 b1.2.1 (((b7 T85 b1.1 ((thread.toNat*8)+2)).toNat*6)+2)).toNat []).getD (b7 T85 b1.1 ((thread.toNat*8)+3)).toNat (0,0,0,0)).2.1) <| ck (((r0.1.1.getD (b7 T86 b1.2.1 (((b7 T85 b1.1 ((thread.toNat*8)+2)).toNat*6)+2)).toNat []).getD (b7 T85 b1.1 ((thread.toNat*8)+3)).toNat (0,0,0,0)).2.1<4) <| ck (kAt T85 ((((thread.toNat*8)+4)+((r0.1.1.getD (b7 T86 b1.2.1 (((b7 T85 b1.1 ((thread.toNat*8)+2)).toNat*6)+2)).toNat []).getD (b7 T85 b1.1 ((thread.toNat*8)+3)).toNat (0,0,0,0)).2.1.toNat*1))=some (some .i64)) <| ck (InK .i64 (2*(r0.2.1.length:Int))) <| ck (InK .i64 ((2*(r0.2.1.length:Int))+2)) <| ck (kAt T85 (((thread.toNat*8)+1))=some none) <| ck (kAt T85 ((thread.toNat*8))=some (some .i64)) <| ck (InK .i64 ((b7 T85 (q7 T85 (g4 T85 b1.1 ((thread.toNat*8)+3) ((b7 T85 b1.1 ((thread.toNat*8)+3))+1)) ((thread.toNat*8)+1) false) (thread.toNat*8))+1)) <| ck (kAt T85 ((thread.toNat*8))=some (some .i64)) <| some ((E5 T80 (.pair .i .i) r0.2.2.1 (r0.2.1.length*2) ((b7 T85 b1.1 ((thread.toNat*8)+2)),(b7 T85 b1.1 ((thread.toNat*8)+3)))),r0.2.2.2.1.1,r0.2.2.2.1.2.1,r0.2.2.2.1.2.2,(g4 T85 (q7 T85 (g4 T85 b1.1 ((thread.toNat*8)+3) ((b7 T85 b1.1 ((thread.toNat*8)+3))+1)) ((thread.toNat*8)+1) false) (thread.toNat*8) ((b7 T85 (q7 T85 (g4 T85 b1.1 ((thread.toNat*8)+3) ((b7 T85 b1.1 ((thread.toNat*8)+3))+1)) ((thread.toNat*8)+1) false) (thread.toNat*8))+1)),(g4 T86 (g4 T86 b1.2.1 (((b7 T85 b1.1 ((thread.toNat*8)+2)).toNat*6)+3) (b7 T85 (g4 T85 b1.1 ((thread.toNat*8)+3) ((b7 T85 b1.1 ((thread.toNat*8)+3))+1)) (((thread.toNat*8)+4)+((r0.1.1.getD (b7 T86 b1.2.1 (((b7 T85 b1.1 ((thread.toNat*8)+2)).toNat*6)+2)).toNat []).getD (b7 T85 b1.1 ((thread.toNat*8)+3)).toNat (0,0,0,0)).2.1.toNat*1))) (((b7 T85 b1.1 ((thread.toNat*8)+2)).toNat*6)+5) ((2*(r0.2.1.length:Int))+2)),b1.2.2)
  else
  (T0 (thread.toNat*8) ((r0.1.1.getD (b7 T86 b1.2.1 (((b7 T85 b1.1 ((thread.toNat*8)+2)).toNat*6)+2)).toNat []).getD (b7 T85 b1.1 ((thread.toNat*8)+3)).toNat (0,0,0,0)) r0.1.1 r0.1.2 (E5 T80 (.pair .i .i) r0.2.2.1 (r0.2.1.length*2) ((b7 T85 b1.1 ((thread.toNat*8)+2)),(b7 T85 b1.1 ((thread.toNat*8)+3)))) r0.2.2.2.1.1 r0.2.2.2.1.2.1 r0.2.2.2.1.2.2 (g4 T85 b1.1 ((thread.toNat*8)+3) ((b7 T85 b1.1 ((thread.toNat*8)+3))+1)) b1.2.1 b1.2.2 ((r0.2.1.take r0.2.1.length)++[thread])).bind fun v0 =>
  some ((E5 T80 (.pair .i .i) r0.2.2.1 (r0.2.1.length*2) ((b7 T85 b1.1 ((thread.toNat*8)+2)),(b7 T85 b1.1 ((thread.toNat*8)+3)))),v0.1,v0.2.1,v0.2.2.1,v0.2.2.2,b1.2)
noncomputable def O0 (r0:((List (List (Int×Int×Int×Int)))×(List (List Int)))×(List Int)×(El T80)×(Int×Int×Int)×(El T85)×(El T86)×Int) (thread:Int):Option ((El T80)×Int×Int×Int×(El T85)×(El T86)×Int) :=
  ck (((r0.2.1.take r0.2.1.length).length+1)*8≤140737488355328) <| ck (0≤thread) <| ck (thread<2) <| ck (kAt T85 (((thread.toNat*8)+1))=some none) <| if (!(n6 T85 r0.2.2.2.2.1 ((thread.toNat*8)+1)))=true then
  ck (0≤thread) <| ck (thread<(r0.1.2.length:Int)) <| ck (kAt T85 ((thread.toNat*8))=some (some .i64)) <| ck (0≤(b7 T85 r0.2.2.2.2.1 (thread.toNat*8))) <| ck ((b7 T85 r0.2.2.2.2.1 (thread.toNat*8))<((r0.1.2.getD thread.toNat []).length:Int)) <| ck (InK .i64 (2*(r0.2.1.length:Int))) <| ck (InK .i64 ((2*(r0.2.1.length:Int))+1)) <| ck (0≤r0.2.2.2.2.2.2) <| ck (r0.2.2.2.2.2.2<6) <| ck (kAt T85 ((thread.toNat*8))=some (some .i64)) <| ck (P2 T85 (Y1) ((thread.toNat*8))=true) <| ck (InK .i64 (r0.2.2.2.2.2.2+1)) <| E3 r0 thread ((E5 T85 Y1 r0.2.2.2.2.1 (thread.toNat*8) ((b7 T85 r0.2.2.2.2.1 (thread.toNat*8)),true,r0.2.2.2.2.2.2,0,0,1,0,0)),(E5 T86 Y0 r0.2.2.2.2.2.1 (r0.2.2.2.2.2.2.toNat*6) (thread,0,((r0.1.2.getD thread.toNat []).getD (b7 T85 r0.2.2.2.2.1 (thread.toNat*8)).toNat 0),0,((2*(r0.2.1.length:Int))+1),0)),(r0.2.2.2.2.2.2+1))
  else
  E3 r0 thread r0.2.2.2.2
/- (lineal/code.program).play -/
noncomputable def T2 (p:(List (List (Int×Int×Int×Int)))×(List (List Int))) (b1:(List Int)×(El T80)×Int×Int×Int×(El T85)×(El T86)×Int):Option ((List (List (Int×Int×Int×Int)))×(List (List Int))×(List Int)×(El T80)×Int×Int×Int×(El T85)×(El T86)×Int×Bool) :=
  some (p.1,p.2,b1.1,b1.2.1,b1.2.2.1,b1.2.2.2.1,b1.2.2.2.2.1,b1.2.2.2.2.2.1,b1.2.2.2.2.2.2.1,b1.2.2.2.2.2.2.2,true)
noncomputable def l8 (p:(List (List (Int×Int×Int×Int)))×(List (List Int))) (schedule:List Int) (st1:(List Int)×(El T80)×Int×Int×Int×(El T85)×(El T86)×Int×Int):Option (Step ((List Int)×(El T80)×Int×Int×Int×(El T85)×(El T86)×Int×Int) (Sum Unit ((List Int)×(El T80)×Int×Int×Int×(El T85)×(El T86)×Int))) :=
  if (decide (st1.2.2.2.2.2.2.2.2<(schedule.length:Int)))=true then
  ck (0≤st1.2.2.2.2.2.2.2.2) <| ck (st1.2.2.2.2.2.2.2.2<(schedule.length:Int)) <| (B6 (p,st1.1,st1.2.1,(st1.2.2.1,st1.2.2.2.1,st1.2.2.2.2.1),st1.2.2.2.2.2.1,st1.2.2.2.2.2.2.1,st1.2.2.2.2.2.2.2.1) (schedule.getD st1.2.2.2.2.2.2.2.2.toNat 0)).bind fun v0 =>
  if (!v0)=true then
  some (.done (Sum.inl ()))
  else
  (O0 (p,st1.1,st1.2.1,(st1.2.2.1,st1.2.2.2.1,st1.2.2.2.2.1),st1.2.2.2.2.2.1,st1.2.2.2.2.2.2.1,st1.2.2.2.2.2.2.2.1) (schedule.getD st1.2.2.2.2.2.2.2.2.toNat 0)).bind fun v0_2 =>
  ck (InK .i64 (st1.2.2.2.2.2.2.2.2+1)) <| some (.next (((st1.1.take st1.1.length)++[(schedule.getD st1.2.2.2.2.2.2.2.2.toNat 0)]),v0_2.1,v0_2.2.1,v0_2.2.2.1,v0_2.2.2.2.1,v0_2.2.2.2.2.1,v0_2.2.2.2.2.2.1,v0_2.2.2.2.2.2.2,(st1.2.2.2.2.2.2.2.2+1)))
  else
  some (.done (Sum.inr (st1.1,st1.2.1,st1.2.2.1,st1.2.2.2.1,st1.2.2.2.2.1,st1.2.2.2.2.2.1,st1.2.2.2.2.2.2.1,st1.2.2.2.2.2.2.2.1)))
noncomputable def C6 (p:(List (List (Int×Int×Int×Int)))×(List (List Int))) (schedule:List Int):Option ((List (List (Int×Int×Int×Int)))×(List (List Int))×(List Int)×(El T80)×Int×Int×Int×(El T85)×(El T86)×Int×Bool) :=
  if (decide (12<(schedule.length:Int)))=true then
  some ([],[],[],(Ty.dflt T80),0,0,0,(Ty.dflt T85),(Ty.dflt T86),0,false)
  else
  (j7 (l8 p schedule) ([],(Ty.dflt T80),0,0,0,(Ty.dflt T85),(Ty.dflt T86),0,0)).bind fun x=>match x with
  | .inl _=>(some ([],[],[],(Ty.dflt T80),0,0,0,(Ty.dflt T85),(Ty.dflt T86),0,false))
  | .inr r1=>(T2 p r1)
/- lineal/code.played -/
noncomputable def Q2 (c:List (List (Int×Int×Int×Int))) (use:List (List Int)) (schedule:List Int):Option ((List (List (Int×Int×Int×Int)))×(List (List Int))×(List Int)×(El T80)×Int×Int×Int×(El T85)×(El T86)×Int×Int) :=
  (R0 c use).bind fun v0 =>
  if (!(decide (v0=0)))=true then
  some ([],[],[],(Ty.dflt T80),0,0,0,(Ty.dflt T85),(Ty.dflt T86),0,v0)
  else
  (C6 (c,use) schedule).bind fun v0_2 =>
  if (!v0_2.2.2.2.2.2.2.2.2.2.2)=true then
  some ([],[],[],(Ty.dflt T80),0,0,0,(Ty.dflt T85),(Ty.dflt T86),0,2)
  else
  some (v0_2.1,v0_2.2.1,v0_2.2.2.1,v0_2.2.2.2.1,v0_2.2.2.2.2.1,v0_2.2.2.2.2.2.1,v0_2.2.2.2.2.2.2.1,v0_2.2.2.2.2.2.2.2.1,v0_2.2.2.2.2.2.2.2.2.1,v0_2.2.2.2.2.2.2.2.2.2.1,0)
/- slices.Clone[[]lineal/api.Call,lineal/api.Call] -/
noncomputable def a0W (s:ZH):Option (ZH) :=
  ck (s.length*48≤140737488355328) <| some s
/- (lineal/code.run).history -/
noncomputable def J3 (r0:((List (List (Int×Int×Int×Int)))×(List (List Int)))×(List Int)×(El T80)×(Int×Int×Int)×(El T85)×(El T86)×Int):Option (ZH) :=
  ck (0≤r0.2.2.2.2.2.2) <| ck (r0.2.2.2.2.2.2≤6) <| (a0W ((a2Y Y0 6 r0.2.2.2.2.2.1).take r0.2.2.2.2.2.2.toNat)).bind fun v0 =>
  some v0
/- lineal/code.Run -/
noncomputable def a1k (c:List (List (Int×Int×Int×Int))) (use:List (List Int)) (schedule:List Int):Option (ZH×Int) :=
  (Q2 c use schedule).bind fun v0 =>
  if (!(decide (v0.2.2.2.2.2.2.2.2.2.2=0)))=true then
  some ([],v0.2.2.2.2.2.2.2.2.2.2)
  else
  (J3 ((v0.1,v0.2.1),v0.2.2.1,v0.2.2.2.1,(v0.2.2.2.2.1,v0.2.2.2.2.2.1,v0.2.2.2.2.2.2.1),v0.2.2.2.2.2.2.2.1,v0.2.2.2.2.2.2.2.2.1,v0.2.2.2.2.2.2.2.2.2.1)).bind fun v0_2 =>
  some (v0_2,0)
/- lineal/lineallaw08.Sane -/
noncomputable def A5:Option Bool :=
  (a1k [[(1,0,0,0),(5,2,0,1),(2,0,2,0),(7,0,0,0)]] [[0],[0]] [0,0,1,1,0,0,1,1]).bind fun v0 =>
  if (decide (v0.2=0))=true then
  if (decide ((v0.1.length:Int)=2))=true then
  ck (0<(v0.1.length:Int)) <| ck (InK .i64 (v0.1.getD 0 (0,0,0,0,0,0)).1) <| ck (InK .i64 (v0.1.getD 0 (0,0,0,0,0,0)).2.1) <| ck (InK .i64 (v0.1.getD 0 (0,0,0,0,0,0)).2.2.1) <| ck (InK .i64 (v0.1.getD 0 (0,0,0,0,0,0)).2.2.2.1) <| ck (InK .i64 (v0.1.getD 0 (0,0,0,0,0,0)).2.2.2.2.1) <| ck (InK .i64 (v0.1.getD 0 (0,0,0,0,0,0)).2.2.2.2.2) <| ck (InK .i64 0) <| ck (InK .i64 0) <| ck (InK .i64 0) <| ck (InK .i64 0) <| ck (InK .i64 1) <| ck (InK .i64 12) <| if (decide ((v0.1.getD 0 (0,0,0,0,0,0))=(0,0,0,0,1,12)))=true then
  ck (1<(v0.1.length:Int)) <| ck (InK .i64 (v0.1.getD 1 (0,0,0,0,0,0)).1) <| ck (InK .i64 (v0.1.getD 1 (0,0,0,0,0,0)).2.1) <| ck (InK .i64 (v0.1.getD 1 (0,0,0,0,0,0)).2.2.1) <| ck (InK .i64 (v0.1.getD 1 (0,0,0,0,0,0)).2.2.2.1) <| ck (InK .i64 (v0.1.getD 1 (0,0,0,0,0,0)).2.2.2.2.1) <| ck (InK .i64 (v0.1.getD 1 (0,0,0,0,0,0)).2.2.2.2.2) <| ck (InK .i64 1) <| ck (InK .i64 0) <| ck (InK .i64 0) <| ck (InK .i64 0) <| ck (InK .i64 5) <| ck (InK .i64 16) <| some (decide ((v0.1.getD 1 (0,0,0,0,0,0))=(1,0,0,0,5,16)))
  else
  some false
  else
  some false
  else
  some false
/- lineal/linealref08.within -/
noncomputable def l7 (lo:Int) (n:Int) (hi:Int):Option Bool :=
  if (decide (lo≤n))=true then
  some (decide (n≤hi))
  else
  some false
/- lineal/linealref08.isRegister -/
noncomputable def j5 (n:Int):Option Bool :=
  (l7 0 n 3).bind fun v0 =>
  some v0
/- lineal/linealref08.isCell -/
noncomputable def y9 (n:Int):Option Bool :=
  (l7 0 n 2).bind fun v0 =>
  some v0
/- lineal/linealref08.isNumber -/
noncomputable def F1 (n:Int):Option Bool :=
  (l7 0 n 9).bind fun v0 =>
  some v0
/- lineal/linealref08.isLine -/
noncomputable def K3 (l:Int×Int×Int×Int) (lines:Int):Option Bool :=
  if (decide (l.1=1))=true then
  (j5 l.2.1).bind fun v0 =>
  if v0=true then
  (y9 l.2.2.1).bind fun v0_2 =>
  if v0_2=true then
  some (decide (l.2.2.2=0))
  else
  some false
  else
  some false
  else
  if (decide (l.1=2))=true then
  (y9 l.2.1).bind fun v0_3 =>
  if v0_3=true then
  (j5 l.2.2.1).bind fun v0_4 =>
  if v0_4=true then
  some (decide (l.2.2.2=0))
  else
  some false
  else
  some false
  else
  if (decide (l.1=3))=true then
  (y9 l.2.1).bind fun v0_5 =>
  if v0_5=true then
  (j5 l.2.2.1).bind fun v0_6 =>
  if v0_6=true then
  (j5 l.2.2.2).bind fun v0_7 =>
  some v0_7
  else
  some false
  else
  some false
  else
  if (decide (l.1=4))=true then
  (j5 l.2.1).bind fun v0_8 =>
  if v0_8=true then
  (F1 l.2.2.1).bind fun v0_9 =>
  if v0_9=true then
  some (decide (l.2.2.2=0))
  else
  some false
  else
  some false
  else
  if (decide (l.1=5))=true then
  (j5 l.2.1).bind fun v0_10 =>
  if v0_10=true then
  (j5 l.2.2.1).bind fun v0_11 =>
  if v0_11=true then
  (j5 l.2.2.2).bind fun v0_12 =>
  some v0_12
  else
  some false
  else
  some false
  else
  if (decide (l.1=6))=true then
  (j5 l.2.1).bind fun v0_13 =>
  if v0_13=true then
  ck (InK .i64 (lines - 1)) <| (l7 0 l.2.2.1 (lines - 1)).bind fun v0_14 =>
  if v0_14=true then
  some (decide (l.2.2.2=0))
  else
  some false
  else
  some false
  else
  if (decide (l.1=7))=true then
  (j5 l.2.1).bind fun v0_15 =>
  if v0_15=true then
  if (decide (l.2.2.1=0))=true then
  some (decide (l.2.2.2=0))
  else
  some false
  else
  some false
  else
  some false
/- lineal/linealref08.Valid -/
noncomputable def S2:Option Bool :=
  some true
noncomputable def M5 (st1:Int):Option (Step Int (Sum Unit Unit)) :=
  ck (InK .i64 (st1+1)) <| some (.next (st1+1))
noncomputable def M4 (c:List (List (Int×Int×Int×Int))) (st1:Int):Option (Step Int (Sum Unit Unit)) :=
  ck (0≤st1) <| ck (st1<(c.length:Int)) <| ck (0≤st1) <| ck (st1<(c.length:Int)) <| ck (InK .i64 (((c.getD st1.toNat []).length:Int) - 1)) <| ck (0≤(((c.getD st1.toNat []).length:Int) - 1)) <| ck ((((c.getD st1.toNat []).length:Int) - 1)<((c.getD st1.toNat []).length:Int)) <| if (!(decide (((c.getD st1.toNat []).getD (((c.getD st1.toNat []).length:Int) - 1).toNat (0,0,0,0)).1=7)))=true then
  some (.done (Sum.inl ()))
  else
  M5 st1
noncomputable def z8 (c:List (List (Int×Int×Int×Int))) (st1:Int) (st2:Int):Option (Step Int (Sum Unit Unit)) :=
  ck (0≤st1) <| ck (st1<(c.length:Int)) <| if (decide (st2<((c.getD st1.toNat []).length:Int)))=true then
  ck (0≤st1) <| ck (st1<(c.length:Int)) <| ck (0≤st2) <| ck (st2<((c.getD st1.toNat []).length:Int)) <| ck (0≤st1) <| ck (st1<(c.length:Int)) <| (K3 ((c.getD st1.toNat []).getD st2.toNat (0,0,0,0)) ((c.getD st1.toNat []).length:Int)).bind fun v0_3 =>
  if (!v0_3)=true then
  some (.done (Sum.inl ()))
  else
  ck (InK .i64 (st2+1)) <| some (.next (st2+1))
  else
  some (.done (Sum.inr ()))
noncomputable def z9 (c:List (List (Int×Int×Int×Int))) (st1:Int):Option (Step Int (Sum Unit Unit)) :=
  if (decide (st1<(c.length:Int)))=true then
  ck (0≤st1) <| ck (st1<(c.length:Int)) <| (l7 1 ((c.getD st1.toNat []).length:Int) 8).bind fun v0_2 =>
  if (!v0_2)=true then
  some (.done (Sum.inl ()))
  else
  (j7 (z8 c st1) 0).bind fun x=>match x with
  | .inl _=>(some (.done (Sum.inl ())))
  | .inr _=>(M4 c st1)
  else
  some (.done (Sum.inr ()))
noncomputable def G0 (c:List (List (Int×Int×Int×Int))):Option Bool :=
  (l7 1 (c.length:Int) 4).bind fun v0 =>
  if (!v0)=true then
  some false
  else
  (j7 (z9 c) 0).bind fun x=>match x with
  | .inl _=>(some false)
  | .inr _=>(S2)
/- lineal/linealref08.IsUse -/
noncomputable def S3:Option Bool :=
  some true
noncomputable def M6 (st1:Int):Option (Step Int (Sum Unit Unit)) :=
  ck (InK .i64 (st1+1)) <| some (.next (st1+1))
noncomputable def A3 (c:List (List (Int×Int×Int×Int))) (use:List (List Int)) (st1:Int) (st2:Int):Option (Step Int (Sum Unit Unit)) :=
  ck (0≤st1) <| ck (st1<(use.length:Int)) <| if (decide (st2<((use.getD st1.toNat []).length:Int)))=true then
  ck (0≤st1) <| ck (st1<(use.length:Int)) <| ck (0≤st2) <| ck (st2<((use.getD st1.toNat []).length:Int)) <| ck (InK .i64 ((c.length:Int) - 1)) <| (l7 0 ((use.getD st1.toNat []).getD st2.toNat 0) ((c.length:Int) - 1)).bind fun v0_2 =>
  if (!v0_2)=true then
  some (.done (Sum.inl ()))
  else
  ck (InK .i64 (st2+1)) <| some (.next (st2+1))
  else
  some (.done (Sum.inr ()))
noncomputable def A4 (c:List (List (Int×Int×Int×Int))) (use:List (List Int)) (st1:Int):Option (Step Int (Sum Unit Unit)) :=
  if (decide (st1<(use.length:Int)))=true then
  ck (0≤st1) <| ck (st1<(use.length:Int)) <| if (decide (3<((use.getD st1.toNat []).length:Int)))=true then
  some (.done (Sum.inl ()))
  else
  (j7 (A3 c use st1) 0).bind fun x=>match x with
  | .inl _=>(some (.done (Sum.inl ())))
  | .inr _=>(M6 st1)
  else
  some (.done (Sum.inr ()))
noncomputable def G4 (c:List (List (Int×Int×Int×Int))) (use:List (List Int)):Option Bool :=
  (l7 1 (use.length:Int) 2).bind fun v0 =>
  if (!v0)=true then
  some false
  else
  (j7 (A4 c use) 0).bind fun x=>match x with
  | .inl _=>(some false)
  | .inr _=>(S3)
/- lineal/linealref08.ValidUse -/
/- lineal/linealref08.asked -/
noncomputable def X9 (c:List (List (Int×Int×Int×Int))) (use:List (List Int)):Option Int :=
  (G0 c).bind fun v0 =>
  if (!v0)=true then
  some 80
  else
  (G4 c use).bind fun v0_2 =>
  if (!v0_2)=true then
  some 81
  else
  some 0
/- lineal/linealref08.Begin -/
noncomputable def a1B (c:List (List (Int×Int×Int×Int))) (use:List (List Int)) (o9:List Int):Option Unit :=
  ck (64*(use.length:Int)≤281474976710656) <| some ()
/- (*lineal/linealref08.Play).HasLine -/
/- (*lineal/linealref08.Play).Step -/
/- (*lineal/linealref08.Play).HasLine -/
noncomputable def K4 (t:Int) (p:List (List (Int×Int×Int×Int))) (p_2:List (List Int)) (p_3:List Int) (p_4:Int) (p_5:Int) (p_6:Int) (p_7:Int) (p_8:List (Int×Int×Bool×Int×Int×Int×Int×Int)) (p_9:ZH) (p_10:List Int):Option Bool :=
  ck (0≤t) <| ck (t<(p_8.length:Int)) <| if (p_8.getD t.toNat (0,0,false,0,0,0,0,0)).2.2.1=true then
  some true
  else
  ck (0≤t) <| ck (t<(p_8.length:Int)) <| ck (0≤t) <| ck (t<(p_2.length:Int)) <| some (decide ((p_8.getD t.toNat (0,0,false,0,0,0,0,0)).1<((p_2.getD t.toNat []).length:Int)))
/- (*lineal/linealref08.Play).Step -/
noncomputable def f9 (t:Int) (p_3:List Int) (p_4:Int) (b1:(List (Int×Int×Bool×Int×Int×Int×Int×Int))×ZH×(List Int)) (b2:(List (Int×Int×Bool×Int×Int×Int×Int×Int))×Int×Int×Int×ZH):Option ((List (Int×Int×Bool×Int×Int×Int×Int×Int))×Int×Int×Int×ZH×(List Int)) :=
  if (decide ((b1.2.1.getD (b1.1.getD t.toNat (0,0,false,0,0,0,0,0)).2.2.2.1.toNat (0,0,0,0,0,0)).2.2.1<(p_3.length:Int)))=true then
  ck (0≤(b1.2.1.getD (b1.1.getD t.toNat (0,0,false,0,0,0,0,0)).2.2.2.1.toNat (0,0,0,0,0,0)).2.2.1) <| ck ((b1.2.1.getD (b1.1.getD t.toNat (0,0,false,0,0,0,0,0)).2.2.2.1.toNat (0,0,0,0,0,0)).2.2.1<(p_3.length:Int)) <| if (decide ((p_3.getD (b1.2.1.getD (b1.1.getD t.toNat (0,0,false,0,0,0,0,0)).2.2.2.1.toNat (0,0,0,0,0,0)).2.2.1.toNat 0)=(b1.1.getD t.toNat (0,0,false,0,0,0,0,0)).2.1))=true then
  ck (t.toNat<b2.1.length) <| ck (0≤(b2.1.getD t.toNat (0,0,false,0,0,0,0,0)).2.2.2.1) <| ck ((b2.1.getD t.toNat (0,0,false,0,0,0,0,0)).2.2.2.1<(b1.2.2.length:Int)) <| ck ((b2.1.getD t.toNat (0,0,false,0,0,0,0,0)).2.2.2.1.toNat<b1.2.2.length) <| some (b2.1,b2.2.1,b2.2.2.1,b2.2.2.2.1,b2.2.2.2.2,(b1.2.2.set (b2.1.getD t.toNat (0,0,false,0,0,0,0,0)).2.2.2.1.toNat p_4))
  else
  some (b2.1,b2.2.1,b2.2.2.1,b2.2.2.2.1,b2.2.2.2.2,b1.2.2)
  else
  some (b2.1,b2.2.1,b2.2.2.1,b2.2.2.2.1,b2.2.2.2.2,b1.2.2)
noncomputable def o7 (t:Int) (p:List (List (Int×Int×Int×Int))) (p_3:List Int) (p_4:Int) (p_5:Int) (p_6:Int) (p_7:Int) (b1:(List (Int×Int×Bool×Int×Int×Int×Int×Int))×ZH×(List Int)):Option ((List (Int×Int×Bool×Int×Int×Int×Int×Int))×Int×Int×Int×ZH×(List Int)) :=
  ck (t.toNat<b1.1.length) <| ck (0≤(b1.1.getD t.toNat (0,0,false,0,0,0,0,0)).2.2.2.1) <| ck ((b1.1.getD t.toNat (0,0,false,0,0,0,0,0)).2.2.2.1<(b1.2.1.length:Int)) <| ck ((b1.1.getD t.toNat (0,0,false,0,0,0,0,0)).2.2.2.1.toNat<b1.2.1.length) <| ck (t.toNat<b1.1.length) <| ck (0≤(b1.2.1.getD (b1.1.getD t.toNat (0,0,false,0,0,0,0,0)).2.2.2.1.toNat (0,0,0,0,0,0)).2.2.1) <| ck ((b1.2.1.getD (b1.1.getD t.toNat (0,0,false,0,0,0,0,0)).2.2.2.1.toNat (0,0,0,0,0,0)).2.2.1<(p.length:Int)) <| ck (0≤(b1.1.getD t.toNat (0,0,false,0,0,0,0,0)).2.1) <| ck ((b1.1.getD t.toNat (0,0,false,0,0,0,0,0)).2.1<((p.getD (b1.2.1.getD (b1.1.getD t.toNat (0,0,false,0,0,0,0,0)).2.2.2.1.toNat (0,0,0,0,0,0)).2.2.1.toNat []).length:Int)) <| ck (InK .i64 ((b1.1.getD t.toNat (0,0,false,0,0,0,0,0)).2.1+1)) <| ck (t.toNat<b1.1.length) <| if (decide (((p.getD (b1.2.1.getD (b1.1.getD t.toNat (0,0,false,0,0,0,0,0)).2.2.2.1.toNat (0,0,0,0,0,0)).2.2.1.toNat []).getD (b1.1.getD t.toNat (0,0,false,0,0,0,0,0)).2.1.toNat (0,0,0,0)).1=1))=true then
  ck (0≤((p.getD (b1.2.1.getD (b1.1.getD t.toNat (0,0,false,0,0,0,0,0)).2.2.2.1.toNat (0,0,0,0,0,0)).2.2.1.toNat []).getD (b1.1.getD t.toNat (0,0,false,0,0,0,0,0)).2.1.toNat (0,0,0,0)).2.2.1) <| ck (((p.getD (b1.2.1.getD (b1.1.getD t.toNat (0,0,false,0,0,0,0,0)).2.2.2.1.toNat (0,0,0,0,0,0)).2.2.1.toNat []).getD (b1.1.getD t.toNat (0,0,false,0,0,0,0,0)).2.1.toNat (0,0,0,0)).2.2.1<3) <| if (decide (((p.getD (b1.2.1.getD (b1.1.getD t.toNat (0,0,false,0,0,0,0,0)).2.2.2.1.toNat (0,0,0,0,0,0)).2.2.1.toNat []).getD (b1.1.getD t.toNat (0,0,false,0,0,0,0,0)).2.1.toNat (0,0,0,0)).2.2.1=0))=true then
  ck (0≤((p.getD (b1.2.1.getD (b1.1.getD t.toNat (0,0,false,0,0,0,0,0)).2.2.2.1.toNat (0,0,0,0,0,0)).2.2.1.toNat []).getD (b1.1.getD t.toNat (0,0,false,0,0,0,0,0)).2.1.toNat (0,0,0,0)).2.1) <| ck (((p.getD (b1.2.1.getD (b1.1.getD t.toNat (0,0,false,0,0,0,0,0)).2.2.2.1.toNat (0,0,0,0,0,0)).2.2.1.toNat []).getD (b1.1.getD t.toNat (0,0,false,0,0,0,0,0)).2.1.toNat (0,0,0,0)).2.1<4) <| ck (t.toNat<(b1.1.set t.toNat ((b1.1.getD t.toNat (0,0,false,0,0,0,0,0)).1,((b1.1.getD t.toNat (0,0,false,0,0,0,0,0)).2.1+1),(b1.1.getD t.toNat (0,0,false,0,0,0,0,0)).2.2)).length) <| ck (kAt Y2 ((4+((p.getD (b1.2.1.getD (b1.1.getD t.toNat (0,0,false,0,0,0,0,0)).2.2.2.1.toNat (0,0,0,0,0,0)).2.2.1.toNat []).getD (b1.1.getD t.toNat (0,0,false,0,0,0,0,0)).2.1.toNat (0,0,0,0)).2.1.toNat*1))=some (some .i64)) <| f9 t p_3 p_4 b1 (((b1.1.set t.toNat ((b1.1.getD t.toNat (0,0,false,0,0,0,0,0)).1,((b1.1.getD t.toNat (0,0,false,0,0,0,0,0)).2.1+1),(b1.1.getD t.toNat (0,0,false,0,0,0,0,0)).2.2)).set t.toNat (g4 Y2 ((b1.1.set t.toNat ((b1.1.getD t.toNat (0,0,false,0,0,0,0,0)).1,((b1.1.getD t.toNat (0,0,false,0,0,0,0,0)).2.1+1),(b1.1.getD t.toNat (0,0,false,0,0,0,0,0)).2.2)).getD t.toNat (0,0,false,0,0,0,0,0)) (4+((p.getD (b1.2.1.getD (b1.1.getD t.toNat (0,0,false,0,0,0,0,0)).2.2.2.1.toNat (0,0,0,0,0,0)).2.2.1.toNat []).getD (b1.1.getD t.toNat (0,0,false,0,0,0,0,0)).2.1.toNat (0,0,0,0)).2.1.toNat*1) p_5)),p_5,p_6,p_7,b1.2.1)
  else
  if (decide (((p.getD (b1.2.1.getD (b1.1.getD t.toNat (0,0,false,0,0,0,0,0)).2.2.2.1.toNat (0,0,0,0,0,0)).2.2.1.toNat []).getD (b1.1.getD t.toNat (0,0,false,0,0,0,0,0)).2.1.toNat (0,0,0,0)).2.2.1=1))=true then
  ck (0≤((p.getD (b1.2.1.getD (b1.1.getD t.toNat (0,0,false,0,0,0,0,0)).2.2.2.1.toNat (0,0,0,0,0,0)).2.2.1.toNat []).getD (b1.1.getD t.toNat (0,0,false,0,0,0,0,0)).2.1.toNat (0,0,0,0)).2.1) <| ck (((p.getD (b1.2.1.getD (b1.1.getD t.toNat (0,0,false,0,0,0,0,0)).2.2.2.1.toNat (0,0,0,0,0,0)).2.2.1.toNat []).getD (b1.1.getD t.toNat (0,0,false,0,0,0,0,0)).2.1.toNat (0,0,0,0)).2.1<4) <| ck (t.toNat<(b1.1.set t.toNat ((b1.1.getD t.toNat (0,0,false,0,0,0,0,0)).1,((b1.1.getD t.toNat (0,0,false,0,0,0,0,0)).2.1+1),(b1.1.getD t.toNat (0,0,false,0,0,0,0,0)).2.2)).length) <| ck (kAt Y2 ((4+((p.getD (b1.2.1.getD (b1.1.getD t.toNat (0,0,false,0,0,0,0,0)).2.2.2.1.toNat (0,0,0,0,0,0)).2.2.1.toNat []).getD (b1.1.getD t.toNat (0,0,false,0,0,0,0,0)).2.1.toNat (0,0,0,0)).2.1.toNat*1))=some (some .i64)) <| f9 t p_3 p_4 b1 (((b1.1.set t.toNat ((b1.1.getD t.toNat (0,0,false,0,0,0,0,0)).1,((b1.1.getD t.toNat (0,0,false,0,0,0,0,0)).2.1+1),(b1.1.getD t.toNat (0,0,false,0,0,0,0,0)).2.2)).set t.toNat (g4 Y2 ((b1.1.set t.toNat ((b1.1.getD t.toNat (0,0,false,0,0,0,0,0)).1,((b1.1.getD t.toNat (0,0,false,0,0,0,0,0)).2.1+1),(b1.1.getD t.toNat (0,0,false,0,0,0,0,0)).2.2)).getD t.toNat (0,0,false,0,0,0,0,0)) (4+((p.getD (b1.2.1.getD (b1.1.getD t.toNat (0,0,false,0,0,0,0,0)).2.2.2.1.toNat (0,0,0,0,0,0)).2.2.1.toNat []).getD (b1.1.getD t.toNat (0,0,false,0,0,0,0,0)).2.1.toNat (0,0,0,0)).2.1.toNat*1) p_6)),p_5,p_6,p_7,b1.2.1)
  else
  ck (0≤((p.getD (b1.2.1.getD (b1.1.getD t.toNat (0,0,false,0,0,0,0,0)).2.2.2.1.toNat (0,0,0,0,0,0)).2.2.1.toNat []).getD (b1.1.getD t.toNat (0,0,false,0,0,0,0,0)).2.1.toNat (0,0,0,0)).2.1) <| ck (((p.getD (b1.2.1.getD (b1.1.getD t.toNat (0,0,false,0,0,0,0,0)).2.2.2.1.toNat (0,0,0,0,0,0)).2.2.1.toNat []).getD (b1.1.getD t.toNat (0,0,false,0,0,0,0,0)).2.1.toNat (0,0,0,0)).2.1<4) <| ck (t.toNat<(b1.1.set t.toNat ((b1.1.getD t.toNat (0,0,false,0,0,0,0,0)).1,((b1.1.getD t.toNat (0,0,false,0,0,0,0,0)).2.1+1),(b1.1.getD t.toNat (0,0,false,0,0,0,0,0)).2.2)).length) <| ck (kAt Y2 ((4+((p.getD (b1.2.1.getD (b1.1.getD t.toNat (0,0,false,0,0,0,0,0)).2.2.2.1.toNat (0,0,0,0,0,0)).2.2.1.toNat []).getD (b1.1.getD t.toNat (0,0,false,0,0,0,0,0)).2.1.toNat (0,0,0,0)).2.1.toNat*1))=some (some .i64)) <| f9 t p_3 p_4 b1 (((b1.1.set t.toNat ((b1.1.getD t.toNat (0,0,false,0,0,0,0,0)).1,((b1.1.getD t.toNat (0,0,false,0,0,0,0,0)).2.1+1),(b1.1.getD t.toNat (0,0,false,0,0,0,0,0)).2.2)).set t.toNat (g4 Y2 ((b1.1.set t.toNat ((b1.1.getD t.toNat (0,0,false,0,0,0,0,0)).1,((b1.1.getD t.toNat (0,0,false,0,0,0,0,0)).2.1+1),(b1.1.getD t.toNat (0,0,false,0,0,0,0,0)).2.2)).getD t.toNat (0,0,false,0,0,0,0,0)) (4+((p.getD (b1.2.1.getD (b1.1.getD t.toNat (0,0,false,0,0,0,0,0)).2.2.2.1.toNat (0,0,0,0,0,0)).2.2.1.toNat []).getD (b1.1.getD t.toNat (0,0,false,0,0,0,0,0)).2.1.toNat (0,0,0,0)).2.1.toNat*1) p_7)),p_5,p_6,p_7,b1.2.1)
  else
  if (decide (((p.getD (b1.2.1.getD (b1.1.getD t.toNat (0,0,false,0,0,0,0,0)).2.2.2.1.toNat (0,0,0,0,0,0)).2.2.1.toNat []).getD (b1.1.getD t.toNat (0,0,false,0,0,0,0,0)).2.1.toNat (0,0,0,0)).1=2))=true then
  ck (0≤((p.getD (b1.2.1.getD (b1.1.getD t.toNat (0,0,false,0,0,0,0,0)).2.2.2.1.toNat (0,0,0,0,0,0)).2.2.1.toNat []).getD (b1.1.getD t.toNat (0,0,false,0,0,0,0,0)).2.1.toNat (0,0,0,0)).2.2.1) <| ck (((p.getD (b1.2.1.getD (b1.1.getD t.toNat (0,0,false,0,0,0,0,0)).2.2.2.1.toNat (0,0,0,0,0,0)).2.2.1.toNat []).getD (b1.1.getD t.toNat (0,0,false,0,0,0,0,0)).2.1.toNat (0,0,0,0)).2.2.1<4) <| ck (t.toNat<(b1.1.set t.toNat ((b1.1.getD t.toNat (0,0,false,0,0,0,0,0)).1,((b1.1.getD t.toNat (0,0,false,0,0,0,0,0)).2.1+1),(b1.1.getD t.toNat (0,0,false,0,0,0,0,0)).2.2)).length) <| ck (kAt Y2 ((4+((p.getD (b1.2.1.getD (b1.1.getD t.toNat (0,0,false,0,0,0,0,0)).2.2.2.1.toNat (0,0,0,0,0,0)).2.2.1.toNat []).getD (b1.1.getD t.toNat (0,0,false,0,0,0,0,0)).2.1.toNat (0,0,0,0)).2.2.1.toNat*1))=some (some .i64)) <| ck (0≤((p.getD (b1.2.1.getD (b1.1.getD t.toNat (0,0,false,0,0,0,0,0)).2.2.2.1.toNat (0,0,0,0,0,0)).2.2.1.toNat []).getD (b1.1.getD t.toNat (0,0,false,0,0,0,0,0)).2.1.toNat (0,0,0,0)).2.1) <| ck (((p.getD (b1.2.1.getD (b1.1.getD t.toNat (0,0,false,0,0,0,0,0)).2.2.2.1.toNat (0,0,0,0,0,0)).2.2.1.toNat []).getD (b1.1.getD t.toNat (0,0,false,0,0,0,0,0)).2.1.toNat (0,0,0,0)).2.1<3) <| if (decide (((p.getD (b1.2.1.getD (b1.1.getD t.toNat (0,0,false,0,0,0,0,0)).2.2.2.1.toNat (0,0,0,0,0,0)).2.2.1.toNat []).getD (b1.1.getD t.toNat (0,0,false,0,0,0,0,0)).2.1.toNat (0,0,0,0)).2.1=0))=true then
  f9 t p_3 p_4 b1 ((b1.1.set t.toNat ((b1.1.getD t.toNat (0,0,false,0,0,0,0,0)).1,((b1.1.getD t.toNat (0,0,false,0,0,0,0,0)).2.1+1),(b1.1.getD t.toNat (0,0,false,0,0,0,0,0)).2.2)),(b7 Y2 ((b1.1.set t.toNat ((b1.1.getD t.toNat (0,0,false,0,0,0,0,0)).1,((b1.1.getD t.toNat (0,0,false,0,0,0,0,0)).2.1+1),(b1.1.getD t.toNat (0,0,false,0,0,0,0,0)).2.2)).getD t.toNat (0,0,false,0,0,0,0,0)) (4+((p.getD (b1.2.1.getD (b1.1.getD t.toNat (0,0,false,0,0,0,0,0)).2.2.2.1.toNat (0,0,0,0,0,0)).2.2.1.toNat []).getD (b1.1.getD t.toNat (0,0,false,0,0,0,0,0)).2.1.toNat (0,0,0,0)).2.2.1.toNat*1)),p_6,p_7,b1.2.1)
  else
  if (decide (((p.getD (b1.2.1.getD (b1.1.getD t.toNat (0,0,false,0,0,0,0,0)).2.2.2.1.toNat (0,0,0,0,0,0)).2.2.1.toNat []).getD (b1.1.getD t.toNat (0,0,false,0,0,0,0,0)).2.1.toNat (0,0,0,0)).2.1=1))=true then
  f9 t p_3 p_4 b1 ((b1.1.set t.toNat ((b1.1.getD t.toNat (0,0,false,0,0,0,0,0)).1,((b1.1.getD t.toNat (0,0,false,0,0,0,0,0)).2.1+1),(b1.1.getD t.toNat (0,0,false,0,0,0,0,0)).2.2)),p_5,(b7 Y2 ((b1.1.set t.toNat ((b1.1.getD t.toNat (0,0,false,0,0,0,0,0)).1,((b1.1.getD t.toNat (0,0,false,0,0,0,0,0)).2.1+1),(b1.1.getD t.toNat (0,0,false,0,0,0,0,0)).2.2)).getD t.toNat (0,0,false,0,0,0,0,0)) (4+((p.getD (b1.2.1.getD (b1.1.getD t.toNat (0,0,false,0,0,0,0,0)).2.2.2.1.toNat (0,0,0,0,0,0)).2.2.1.toNat []).getD (b1.1.getD t.toNat (0,0,false,0,0,0,0,0)).2.1.toNat (0,0,0,0)).2.2.1.toNat*1)),p_7,b1.2.1)
  else
  f9 t p_3 p_4 b1 ((b1.1.set t.toNat ((b1.1.getD t.toNat (0,0,false,0,0,0,0,0)).1,((b1.1.getD t.toNat (0,0,false,0,0,0,0,0)).2.1+1),(b1.1.getD t.toNat (0,0,false,0,0,0,0,0)).2.2)),p_5,p_6,(b7 Y2 ((b1.1.set t.toNat ((b1.1.getD t.toNat (0,0,false,0,0,0,0,0)).1,((b1.1.getD t.toNat (0,0,false,0,0,0,0,0)).2.1+1),(b1.1.getD t.toNat (0,0,false,0,0,0,0,0)).2.2)).getD t.toNat (0,0,false,0,0,0,0,0)) (4+((p.getD (b1.2.1.getD (b1.1.getD t.toNat (0,0,false,0,0,0,0,0)).2.2.2.1.toNat (0,0,0,0,0,0)).2.2.1.toNat []).getD (b1.1.getD t.toNat (0,0,false,0,0,0,0,0)).2.1.toNat (0,0,0,0)).2.2.1.toNat*1)),b1.2.1)
  else
  if (decide (((p.getD (b1.2.1.getD (b1.1.getD t.toNat (0,0,false,0,0,0,0,0)).2.2.2.1.toNat (0,0,0,0,0,0)).2.2.1.toNat []).getD (b1.1.getD t.toNat (0,0,false,0,0,0,0,0)).2.1.toNat (0,0,0,0)).1=3))=true then
  ck (0≤((p.getD (b1.2.1.getD (b1.1.getD t.toNat (0,0,false,0,0,0,0,0)).2.2.2.1.toNat (0,0,0,0,0,0)).2.2.1.toNat []).getD (b1.1.getD t.toNat (0,0,false,0,0,0,0,0)).2.1.toNat (0,0,0,0)).2.1) <| ck (((p.getD (b1.2.1.getD (b1.1.getD t.toNat (0,0,false,0,0,0,0,0)).2.2.2.1.toNat (0,0,0,0,0,0)).2.2.1.toNat []).getD (b1.1.getD t.toNat (0,0,false,0,0,0,0,0)).2.1.toNat (0,0,0,0)).2.1<3) <| if (decide (((p.getD (b1.2.1.getD (b1.1.getD t.toNat (0,0,false,0,0,0,0,0)).2.2.2.1.toNat (0,0,0,0,0,0)).2.2.1.toNat []).getD (b1.1.getD t.toNat (0,0,false,0,0,0,0,0)).2.1.toNat (0,0,0,0)).2.1=0))=true then
  ck (0≤((p.getD (b1.2.1.getD (b1.1.getD t.toNat (0,0,false,0,0,0,0,0)).2.2.2.1.toNat (0,0,0,0,0,0)).2.2.1.toNat []).getD (b1.1.getD t.toNat (0,0,false,0,0,0,0,0)).2.1.toNat (0,0,0,0)).2.2.1) <| ck (((p.getD (b1.2.1.getD (b1.1.getD t.toNat (0,0,false,0,0,0,0,0)).2.2.2.1.toNat (0,0,0,0,0,0)).2.2.1.toNat []).getD (b1.1.getD t.toNat (0,0,false,0,0,0,0,0)).2.1.toNat (0,0,0,0)).2.2.1<4) <| ck (t.toNat<(b1.1.set t.toNat ((b1.1.getD t.toNat (0,0,false,0,0,0,0,0)).1,((b1.1.getD t.toNat (0,0,false,0,0,0,0,0)).2.1+1),(b1.1.getD t.toNat (0,0,false,0,0,0,0,0)).2.2)).length) <| ck (kAt Y2 ((4+((p.getD (b1.2.1.getD (b1.1.getD t.toNat (0,0,false,0,0,0,0,0)).2.2.2.1.toNat (0,0,0,0,0,0)).2.2.1.toNat []).getD (b1.1.getD t.toNat (0,0,false,0,0,0,0,0)).2.1.toNat (0,0,0,0)).2.2.1.toNat*1))=some (some .i64)) <| if (decide (p_5=(b7 Y2 ((b1.1.set t.toNat ((b1.1.getD t.toNat (0,0,false,0,0,0,0,0)).1,((b1.1.getD t.toNat (0,0,false,0,0,0,0,0)).2.1+1),(b1.1.getD t.toNat (0,0,false,0,0,0,0,0)).2.2)).getD t.toNat (0,0,false,0,0,0,0,0)) (4+((p.getD (b1.2.1.getD (b1.1.getD t.toNat (0,0,false,0,0,0,0,0)).2.2.2.1.toNat (0,0,0,0,0,0)).2.2.1.toNat []).getD (b1.1.getD t.toNat (0,0,false,0,0,0,0,0)).2.1.toNat (0,0,0,0)).2.2.1.toNat*1))))=true then
  ck (0≤((p.getD (b1.2.1.getD (b1.1.getD t.toNat (0,0,false,0,0,0,0,0)).2.2.2.1.toNat (0,0,0,0,0,0)).2.2.1.toNat []).getD (b1.1.getD t.toNat (0,0,false,0,0,0,0,0)).2.1.toNat (0,0,0,0)).2.2.2) <| ck (((p.getD (b1.2.1.getD (b1.1.getD t.toNat (0,0,false,0,0,0,0,0)).2.2.2.1.toNat (0,0,0,0,0,0)).2.2.1.toNat []).getD (b1.1.getD t.toNat (0,0,false,0,0,0,0,0)).2.1.toNat (0,0,0,0)).2.2.2<4) <| ck (t.toNat<(b1.1.set t.toNat ((b1.1.getD t.toNat (0,0,false,0,0,0,0,0)).1,((b1.1.getD t.toNat (0,0,false,0,0,0,0,0)).2.1+1),(b1.1.getD t.toNat (0,0,false,0,0,0,0,0)).2.2)).length) <| ck (kAt Y2 ((4+((p.getD (b1.2.1.getD (b1.1.getD t.toNat (0,0,false,0,0,0,0,0)).2.2.2.1.toNat (0,0,0,0,0,0)).2.2.1.toNat []).getD (b1.1.getD t.toNat (0,0,false,0,0,0,0,0)).2.1.toNat (0,0,0,0)).2.2.2.toNat*1))=some (some .i64)) <| ck (t.toNat<(b1.1.set t.toNat ((b1.1.getD t.toNat (0,0,false,0,0,0,0,0)).1,((b1.1.getD t.toNat (0,0,false,0,0,0,0,0)).2.1+1),(b1.1.getD t.toNat (0,0,false,0,0,0,0,0)).2.2)).length) <| f9 t p_3 p_4 b1 (((b1.1.set t.toNat ((b1.1.getD t.toNat (0,0,false,0,0,0,0,0)).1,((b1.1.getD t.toNat (0,0,false,0,0,0,0,0)).2.1+1),(b1.1.getD t.toNat (0,0,false,0,0,0,0,0)).2.2)).set t.toNat (((b1.1.set t.toNat ((b1.1.getD t.toNat (0,0,false,0,0,0,0,0)).1,((b1.1.getD t.toNat (0,0,false,0,0,0,0,0)).2.1+1),(b1.1.getD t.toNat (0,0,false,0,0,0,0,0)).2.2)).getD t.toNat (0,0,false,0,0,0,0,0)).1,((b1.1.set t.toNat ((b1.1.getD t.toNat (0,0,false,0,0,0,0,0)).1,((b1.1.getD t.toNat (0,0,false,0,0,0,0,0)).2.1+1),(b1.1.getD t.toNat (0,0,false,0,0,0,0,0)).2.2)).getD t.toNat (0,0,false,0,0,0,0,0)).2.1,((b1.1.set t.toNat ((b1.1.getD t.toNat (0,0,false,0,0,0,0,0)).1,((b1.1.getD t.toNat (0,0,false,0,0,0,0,0)).2.1+1),(b1.1.getD t.toNat (0,0,false,0,0,0,0,0)).2.2)).getD t.toNat (0,0,false,0,0,0,0,0)).2.2.1,((b1.1.set t.toNat ((b1.1.getD t.toNat (0,0,false,0,0,0,0,0)).1,((b1.1.getD t.toNat (0,0,false,0,0,0,0,0)).2.1+1),(b1.1.getD t.toNat (0,0,false,0,0,0,0,0)).2.2)).getD t.toNat (0,0,false,0,0,0,0,0)).2.2.2.1,((b1.1.set t.toNat ((b1.1.getD t.toNat (0,0,false,0,0,0,0,0)).1,((b1.1.getD t.toNat (0,0,false,0,0,0,0,0)).2.1+1),(b1.1.getD t.toNat (0,0,false,0,0,0,0,0)).2.2)).getD t.toNat (0,0,false,0,0,0,0,0)).2.2.2.2.1,((b1.1.set t.toNat ((b1.1.getD t.toNat (0,0,false,0,0,0,0,0)).1,((b1.1.getD t.toNat (0,0,false,0,0,0,0,0)).2.1+1),(b1.1.getD t.toNat (0,0,false,0,0,0,0,0)).2.2)).getD t.toNat (0,0,false,0,0,0,0,0)).2.2.2.2.2.1,((b1.1.set t.toNat ((b1.1.getD t.toNat (0,0,false,0,0,0,0,0)).1,((b1.1.getD t.toNat (0,0,false,0,0,0,0,0)).2.1+1),(b1.1.getD t.toNat (0,0,false,0,0,0,0,0)).2.2)).getD t.toNat (0,0,false,0,0,0,0,0)).2.2.2.2.2.2.1,1)),(b7 Y2 ((b1.1.set t.toNat ((b1.1.getD t.toNat (0,0,false,0,0,0,0,0)).1,((b1.1.getD t.toNat (0,0,false,0,0,0,0,0)).2.1+1),(b1.1.getD t.toNat (0,0,false,0,0,0,0,0)).2.2)).getD t.toNat (0,0,false,0,0,0,0,0)) (4+((p.getD (b1.2.1.getD (b1.1.getD t.toNat (0,0,false,0,0,0,0,0)).2.2.2.1.toNat (0,0,0,0,0,0)).2.2.1.toNat []).getD (b1.1.getD t.toNat (0,0,false,0,0,0,0,0)).2.1.toNat (0,0,0,0)).2.2.2.toNat*1)),p_6,p_7,b1.2.1)
  else
  ck (t.toNat<(b1.1.set t.toNat ((b1.1.getD t.toNat (0,0,false,0,0,0,0,0)).1,((b1.1.getD t.toNat (0,0,false,0,0,0,0,0)).2.1+1),(b1.1.getD t.toNat (0,0,false,0,0,0,0,0)).2.2)).length) <| f9 t p_3 p_4 b1 (((b1.1.set t.toNat ((b1.1.getD t.toNat (0,0,false,0,0,0,0,0)).1,((b1.1.getD t.toNat (0,0,false,0,0,0,0,0)).2.1+1),(b1.1.getD t.toNat (0,0,false,0,0,0,0,0)).2.2)).set t.toNat (((b1.1.set t.toNat ((b1.1.getD t.toNat (0,0,false,0,0,0,0,0)).1,((b1.1.getD t.toNat (0,0,false,0,0,0,0,0)).2.1+1),(b1.1.getD t.toNat (0,0,false,0,0,0,0,0)).2.2)).getD t.toNat (0,0,false,0,0,0,0,0)).1,((b1.1.set t.toNat ((b1.1.getD t.toNat (0,0,false,0,0,0,0,0)).1,((b1.1.getD t.toNat (0,0,false,0,0,0,0,0)).2.1+1),(b1.1.getD t.toNat (0,0,false,0,0,0,0,0)).2.2)).getD t.toNat (0,0,false,0,0,0,0,0)).2.1,((b1.1.set t.toNat ((b1.1.getD t.toNat (0,0,false,0,0,0,0,0)).1,((b1.1.getD t.toNat (0,0,false,0,0,0,0,0)).2.1+1),(b1.1.getD t.toNat (0,0,false,0,0,0,0,0)).2.2)).getD t.toNat (0,0,false,0,0,0,0,0)).2.2.1,((b1.1.set t.toNat ((b1.1.getD t.toNat (0,0,false,0,0,0,0,0)).1,((b1.1.getD t.toNat (0,0,false,0,0,0,0,0)).2.1+1),(b1.1.getD t.toNat (0,0,false,0,0,0,0,0)).2.2)).getD t.toNat (0,0,false,0,0,0,0,0)).2.2.2.1,((b1.1.set t.toNat ((b1.1.getD t.toNat (0,0,false,0,0,0,0,0)).1,((b1.1.getD t.toNat (0,0,false,0,0,0,0,0)).2.1+1),(b1.1.getD t.toNat (0,0,false,0,0,0,0,0)).2.2)).getD t.toNat (0,0,false,0,0,0,0,0)).2.2.2.2.1,((b1.1.set t.toNat ((b1.1.getD t.toNat (0,0,false,0,0,0,0,0)).1,((b1.1.getD t.toNat (0,0,false,0,0,0,0,0)).2.1+1),(b1.1.getD t.toNat (0,0,false,0,0,0,0,0)).2.2)).getD t.toNat (0,0,false,0,0,0,0,0)).2.2.2.2.2.1,((b1.1.set t.toNat ((b1.1.getD t.toNat (0,0,false,0,0,0,0,0)).1,((b1.1.getD t.toNat (0,0,false,0,0,0,0,0)).2.1+1),(b1.1.getD t.toNat (0,0,false,0,0,0,0,0)).2.2)).getD t.toNat (0,0,false,0,0,0,0,0)).2.2.2.2.2.2.1,0)),p_5,p_6,p_7,b1.2.1)
  else
  if (decide (((p.getD (b1.2.1.getD (b1.1.getD t.toNat (0,0,false,0,0,0,0,0)).2.2.2.1.toNat (0,0,0,0,0,0)).2.2.1.toNat []).getD (b1.1.getD t.toNat (0,0,false,0,0,0,0,0)).2.1.toNat (0,0,0,0)).2.1=1))=true then
  ck (0≤((p.getD (b1.2.1.getD (b1.1.getD t.toNat (0,0,false,0,0,0,0,0)).2.2.2.1.toNat (0,0,0,0,0,0)).2.2.1.toNat []).getD (b1.1.getD t.toNat (0,0,false,0,0,0,0,0)).2.1.toNat (0,0,0,0)).2.2.1) <| ck (((p.getD (b1.2.1.getD (b1.1.getD t.toNat (0,0,false,0,0,0,0,0)).2.2.2.1.toNat (0,0,0,0,0,0)).2.2.1.toNat []).getD (b1.1.getD t.toNat (0,0,false,0,0,0,0,0)).2.1.toNat (0,0,0,0)).2.2.1<4) <| ck (t.toNat<(b1.1.set t.toNat ((b1.1.getD t.toNat (0,0,false,0,0,0,0,0)).1,((b1.1.getD t.toNat (0,0,false,0,0,0,0,0)).2.1+1),(b1.1.getD t.toNat (0,0,false,0,0,0,0,0)).2.2)).length) <| ck (kAt Y2 ((4+((p.getD (b1.2.1.getD (b1.1.getD t.toNat (0,0,false,0,0,0,0,0)).2.2.2.1.toNat (0,0,0,0,0,0)).2.2.1.toNat []).getD (b1.1.getD t.toNat (0,0,false,0,0,0,0,0)).2.1.toNat (0,0,0,0)).2.2.1.toNat*1))=some (some .i64)) <| if (decide (p_6=(b7 Y2 ((b1.1.set t.toNat ((b1.1.getD t.toNat (0,0,false,0,0,0,0,0)).1,((b1.1.getD t.toNat (0,0,false,0,0,0,0,0)).2.1+1),(b1.1.getD t.toNat (0,0,false,0,0,0,0,0)).2.2)).getD t.toNat (0,0,false,0,0,0,0,0)) (4+((p.getD (b1.2.1.getD (b1.1.getD t.toNat (0,0,false,0,0,0,0,0)).2.2.2.1.toNat (0,0,0,0,0,0)).2.2.1.toNat []).getD (b1.1.getD t.toNat (0,0,false,0,0,0,0,0)).2.1.toNat (0,0,0,0)).2.2.1.toNat*1))))=true then
  ck (0≤((p.getD (b1.2.1.getD (b1.1.getD t.toNat (0,0,false,0,0,0,0,0)).2.2.2.1.toNat (0,0,0,0,0,0)).2.2.1.toNat []).getD (b1.1.getD t.toNat (0,0,false,0,0,0,0,0)).2.1.toNat (0,0,0,0)).2.2.2) <| ck (((p.getD (b1.2.1.getD (b1.1.getD t.toNat (0,0,false,0,0,0,0,0)).2.2.2.1.toNat (0,0,0,0,0,0)).2.2.1.toNat []).getD (b1.1.getD t.toNat (0,0,false,0,0,0,0,0)).2.1.toNat (0,0,0,0)).2.2.2<4) <| ck (t.toNat<(b1.1.set t.toNat ((b1.1.getD t.toNat (0,0,false,0,0,0,0,0)).1,((b1.1.getD t.toNat (0,0,false,0,0,0,0,0)).2.1+1),(b1.1.getD t.toNat (0,0,false,0,0,0,0,0)).2.2)).length) <| ck (kAt Y2 ((4+((p.getD (b1.2.1.getD (b1.1.getD t.toNat (0,0,false,0,0,0,0,0)).2.2.2.1.toNat (0,0,0,0,0,0)).2.2.1.toNat []).getD (b1.1.getD t.toNat (0,0,false,0,0,0,0,0)).2.1.toNat (0,0,0,0)).2.2.2.toNat*1))=some (some .i64)) <| ck (t.toNat<(b1.1.set t.toNat ((b1.1.getD t.toNat (0,0,false,0,0,0,0,0)).1,((b1.1.getD t.toNat (0,0,false,0,0,0,0,0)).2.1+1),(b1.1.getD t.toNat (0,0,false,0,0,0,0,0)).2.2)).length) <| f9 t p_3 p_4 b1 (((b1.1.set t.toNat ((b1.1.getD t.toNat (0,0,false,0,0,0,0,0)).1,((b1.1.getD t.toNat (0,0,false,0,0,0,0,0)).2.1+1),(b1.1.getD t.toNat (0,0,false,0,0,0,0,0)).2.2)).set t.toNat (((b1.1.set t.toNat ((b1.1.getD t.toNat (0,0,false,0,0,0,0,0)).1,((b1.1.getD t.toNat (0,0,false,0,0,0,0,0)).2.1+1),(b1.1.getD t.toNat (0,0,false,0,0,0,0,0)).2.2)).getD t.toNat (0,0,false,0,0,0,0,0)).1,((b1.1.set t.toNat ((b1.1.getD t.toNat (0,0,false,0,0,0,0,0)).1,((b1.1.getD t.toNat (0,0,false,0,0,0,0,0)).2.1+1),(b1.1.getD t.toNat (0,0,false,0,0,0,0,0)).2.2)).getD t.toNat (0,0,false,0,0,0,0,0)).2.1,((b1.1.set t.toNat ((b1.1.getD t.toNat (0,0,false,0,0,0,0,0)).1,((b1.1.getD t.toNat (0,0,false,0,0,0,0,0)).2.1+1),(b1.1.getD t.toNat (0,0,false,0,0,0,0,0)).2.2)).getD t.toNat (0,0,false,0,0,0,0,0)).2.2.1,((b1.1.set t.toNat ((b1.1.getD t.toNat (0,0,false,0,0,0,0,0)).1,((b1.1.getD t.toNat (0,0,false,0,0,0,0,0)).2.1+1),(b1.1.getD t.toNat (0,0,false,0,0,0,0,0)).2.2)).getD t.toNat (0,0,false,0,0,0,0,0)).2.2.2.1,((b1.1.set t.toNat ((b1.1.getD t.toNat (0,0,false,0,0,0,0,0)).1,((b1.1.getD t.toNat (0,0,false,0,0,0,0,0)).2.1+1),(b1.1.getD t.toNat (0,0,false,0,0,0,0,0)).2.2)).getD t.toNat (0,0,false,0,0,0,0,0)).2.2.2.2.1,((b1.1.set t.toNat ((b1.1.getD t.toNat (0,0,false,0,0,0,0,0)).1,((b1.1.getD t.toNat (0,0,false,0,0,0,0,0)).2.1+1),(b1.1.getD t.toNat (0,0,false,0,0,0,0,0)).2.2)).getD t.toNat (0,0,false,0,0,0,0,0)).2.2.2.2.2.1,((b1.1.set t.toNat ((b1.1.getD t.toNat (0,0,false,0,0,0,0,0)).1,((b1.1.getD t.toNat (0,0,false,0,0,0,0,0)).2.1+1),(b1.1.getD t.toNat (0,0,false,0,0,0,0,0)).2.2)).getD t.toNat (0,0,false,0,0,0,0,0)).2.2.2.2.2.2.1,1)),p_5,(b7 Y2 ((b1.1.set t.toNat ((b1.1.getD t.toNat (0,0,false,0,0,0,0,0)).1,((b1.1.getD t.toNat (0,0,false,0,0,0,0,0)).2.1+1),(b1.1.getD t.toNat (0,0,false,0,0,0,0,0)).2.2)).getD t.toNat (0,0,false,0,0,0,0,0)) (4+((p.getD (b1.2.1.getD (b1.1.getD t.toNat (0,0,false,0,0,0,0,0)).2.2.2.1.toNat (0,0,0,0,0,0)).2.2.1.toNat []).getD (b1.1.getD t.toNat (0,0,false,0,0,0,0,0)).2.1.toNat (0,0,0,0)).2.2.2.toNat*1)),p_7,b1.2.1)
  else
  ck (t.toNat<(b1.1.set t.toNat ((b1.1.getD t.toNat (0,0,false,0,0,0,0,0)).1,((b1.1.getD t.toNat (0,0,false,0,0,0,0,0)).2.1+1),(b1.1.getD t.toNat (0,0,false,0,0,0,0,0)).2.2)).length) <| f9 t p_3 p_4 b1 (((b1.1.set t.toNat ((b1.1.getD t.toNat (0,0,false,0,0,0,0,0)).1,((b1.1.getD t.toNat (0,0,false,0,0,0,0,0)).2.1+1),(b1.1.getD t.toNat (0,0,false,0,0,0,0,0)).2.2)).set t.toNat (((b1.1.set t.toNat ((b1.1.getD t.toNat (0,0,false,0,0,0,0,0)).1,((b1.1.getD t.toNat (0,0,false,0,0,0,0,0)).2.1+1),(b1.1.getD t.toNat (0,0,false,0,0,0,0,0)).2.2)).getD t.toNat (0,0,false,0,0,0,0,0)).1,((b1.1.set t.toNat ((b1.1.getD t.toNat (0,0,false,0,0,0,0,0)).1,((b1.1.getD t.toNat (0,0,false,0,0,0,0,0)).2.1+1),(b1.1.getD t.toNat (0,0,false,0,0,0,0,0)).2.2)).getD t.toNat (0,0,false,0,0,0,0,0)).2.1,((b1.1.set t.toNat ((b1.1.getD t.toNat (0,0,false,0,0,0,0,0)).1,((b1.1.getD t.toNat (0,0,false,0,0,0,0,0)).2.1+1),(b1.1.getD t.toNat (0,0,false,0,0,0,0,0)).2.2)).getD t.toNat (0,0,false,0,0,0,0,0)).2.2.1,((b1.1.set t.toNat ((b1.1.getD t.toNat (0,0,false,0,0,0,0,0)).1,((b1.1.getD t.toNat (0,0,false,0,0,0,0,0)).2.1+1),(b1.1.getD t.toNat (0,0,false,0,0,0,0,0)).2.2)).getD t.toNat (0,0,false,0,0,0,0,0)).2.2.2.1,((b1.1.set t.toNat ((b1.1.getD t.toNat (0,0,false,0,0,0,0,0)).1,((b1.1.getD t.toNat (0,0,false,0,0,0,0,0)).2.1+1),(b1.1.getD t.toNat (0,0,false,0,0,0,0,0)).2.2)).getD t.toNat (0,0,false,0,0,0,0,0)).2.2.2.2.1,((b1.1.set t.toNat ((b1.1.getD t.toNat (0,0,false,0,0,0,0,0)).1,((b1.1.getD t.toNat (0,0,false,0,0,0,0,0)).2.1+1),(b1.1.getD t.toNat (0,0,false,0,0,0,0,0)).2.2)).getD t.toNat (0,0,false,0,0,0,0,0)).2.2.2.2.2.1,((b1.1.set t.toNat ((b1.1.getD t.toNat (0,0,false,0,0,0,0,0)).1,((b1.1.getD t.toNat (0,0,false,0,0,0,0,0)).2.1+1),(b1.1.getD t.toNat (0,0,false,0,0,0,0,0)).2.2)).getD t.toNat (0,0,false,0,0,0,0,0)).2.2.2.2.2.2.1,0)),p_5,p_6,p_7,b1.2.1)
  else
  ck (0≤((p.getD (b1.2.1.getD (b1.1.getD t.toNat (0,0,false,0,0,0,0,0)).2.2.2.1.toNat (0,0,0,0,0,0)).2.2.1.toNat []).getD (b1.1.getD t.toNat (0,0,false,0,0,0,0,0)).2.1.toNat (0,0,0,0)).2.2.1) <| ck (((p.getD (b1.2.1.getD (b1.1.getD t.toNat (0,0,false,0,0,0,0,0)).2.2.2.1.toNat (0,0,0,0,0,0)).2.2.1.toNat []).getD (b1.1.getD t.toNat (0,0,false,0,0,0,0,0)).2.1.toNat (0,0,0,0)).2.2.1<4) <| ck (t.toNat<(b1.1.set t.toNat ((b1.1.getD t.toNat (0,0,false,0,0,0,0,0)).1,((b1.1.getD t.toNat (0,0,false,0,0,0,0,0)).2.1+1),(b1.1.getD t.toNat (0,0,false,0,0,0,0,0)).2.2)).length) <| ck (kAt Y2 ((4+((p.getD (b1.2.1.getD (b1.1.getD t.toNat (0,0,false,0,0,0,0,0)).2.2.2.1.toNat (0,0,0,0,0,0)).2.2.1.toNat []).getD (b1.1.getD t.toNat (0,0,false,0,0,0,0,0)).2.1.toNat (0,0,0,0)).2.2.1.toNat*1))=some (some .i64)) <| if (decide (p_7=(b7 Y2 ((b1.1.set t.toNat ((b1.1.getD t.toNat (0,0,false,0,0,0,0,0)).1,((b1.1.getD t.toNat (0,0,false,0,0,0,0,0)).2.1+1),(b1.1.getD t.toNat (0,0,false,0,0,0,0,0)).2.2)).getD t.toNat (0,0,false,0,0,0,0,0)) (4+((p.getD (b1.2.1.getD (b1.1.getD t.toNat (0,0,false,0,0,0,0,0)).2.2.2.1.toNat (0,0,0,0,0,0)).2.2.1.toNat []).getD (b1.1.getD t.toNat (0,0,false,0,0,0,0,0)).2.1.toNat (0,0,0,0)).2.2.1.toNat*1))))=true then
  ck (0≤((p.getD (b1.2.1.getD (b1.1.getD t.toNat (0,0,false,0,0,0,0,0)).2.2.2.1.toNat (0,0,0,0,0,0)).2.2.1.toNat []).getD (b1.1.getD t.toNat (0,0,false,0,0,0,0,0)).2.1.toNat (0,0,0,0)).2.2.2) <| ck (((p.getD (b1.2.1.getD (b1.1.getD t.toNat (0,0,false,0,0,0,0,0)).2.2.2.1.toNat (0,0,0,0,0,0)).2.2.1.toNat []).getD (b1.1.getD t.toNat (0,0,false,0,0,0,0,0)).2.1.toNat (0,0,0,0)).2.2.2<4) <| ck (t.toNat<(b1.1.set t.toNat ((b1.1.getD t.toNat (0,0,false,0,0,0,0,0)).1,((b1.1.getD t.toNat (0,0,false,0,0,0,0,0)).2.1+1),(b1.1.getD t.toNat (0,0,false,0,0,0,0,0)).2.2)).length) <| ck (kAt Y2 ((4+((p.getD (b1.2.1.getD (b1.1.getD t.toNat (0,0,false,0,0,0,0,0)).2.2.2.1.toNat (0,0,0,0,0,0)).2.2.1.toNat []).getD (b1.1.getD t.toNat (0,0,false,0,0,0,0,0)).2.1.toNat (0,0,0,0)).2.2.2.toNat*1))=some (some .i64)) <| ck (t.toNat<(b1.1.set t.toNat ((b1.1.getD t.toNat (0,0,false,0,0,0,0,0)).1,((b1.1.getD t.toNat (0,0,false,0,0,0,0,0)).2.1+1),(b1.1.getD t.toNat (0,0,false,0,0,0,0,0)).2.2)).length) <| f9 t p_3 p_4 b1 (((b1.1.set t.toNat ((b1.1.getD t.toNat (0,0,false,0,0,0,0,0)).1,((b1.1.getD t.toNat (0,0,false,0,0,0,0,0)).2.1+1),(b1.1.getD t.toNat (0,0,false,0,0,0,0,0)).2.2)).set t.toNat (((b1.1.set t.toNat ((b1.1.getD t.toNat (0,0,false,0,0,0,0,0)).1,((b1.1.getD t.toNat (0,0,false,0,0,0,0,0)).2.1+1),(b1.1.getD t.toNat (0,0,false,0,0,0,0,0)).2.2)).getD t.toNat (0,0,false,0,0,0,0,0)).1,((b1.1.set t.toNat ((b1.1.getD t.toNat (0,0,false,0,0,0,0,0)).1,((b1.1.getD t.toNat (0,0,false,0,0,0,0,0)).2.1+1),(b1.1.getD t.toNat (0,0,false,0,0,0,0,0)).2.2)).getD t.toNat (0,0,false,0,0,0,0,0)).2.1,((b1.1.set t.toNat ((b1.1.getD t.toNat (0,0,false,0,0,0,0,0)).1,((b1.1.getD t.toNat (0,0,false,0,0,0,0,0)).2.1+1),(b1.1.getD t.toNat (0,0,false,0,0,0,0,0)).2.2)).getD t.toNat (0,0,false,0,0,0,0,0)).2.2.1,((b1.1.set t.toNat ((b1.1.getD t.toNat (0,0,false,0,0,0,0,0)).1,((b1.1.getD t.toNat (0,0,false,0,0,0,0,0)).2.1+1),(b1.1.getD t.toNat (0,0,false,0,0,0,0,0)).2.2)).getD t.toNat (0,0,false,0,0,0,0,0)).2.2.2.1,((b1.1.set t.toNat ((b1.1.getD t.toNat (0,0,false,0,0,0,0,0)).1,((b1.1.getD t.toNat (0,0,false,0,0,0,0,0)).2.1+1),(b1.1.getD t.toNat (0,0,false,0,0,0,0,0)).2.2)).getD t.toNat (0,0,false,0,0,0,0,0)).2.2.2.2.1,((b1.1.set t.toNat ((b1.1.getD t.toNat (0,0,false,0,0,0,0,0)).1,((b1.1.getD t.toNat (0,0,false,0,0,0,0,0)).2.1+1),(b1.1.getD t.toNat (0,0,false,0,0,0,0,0)).2.2)).getD t.toNat (0,0,false,0,0,0,0,0)).2.2.2.2.2.1,((b1.1.set t.toNat ((b1.1.getD t.toNat (0,0,false,0,0,0,0,0)).1,((b1.1.getD t.toNat (0,0,false,0,0,0,0,0)).2.1+1),(b1.1.getD t.toNat (0,0,false,0,0,0,0,0)).2.2)).getD t.toNat (0,0,false,0,0,0,0,0)).2.2.2.2.2.2.1,1)),p_5,p_6,(b7 Y2 ((b1.1.set t.toNat ((b1.1.getD t.toNat (0,0,false,0,0,0,0,0)).1,((b1.1.getD t.toNat (0,0,false,0,0,0,0,0)).2.1+1),(b1.1.getD t.toNat (0,0,false,0,0,0,0,0)).2.2)).getD t.toNat (0,0,false,0,0,0,0,0)) (4+((p.getD (b1.2.1.getD (b1.1.getD t.toNat (0,0,false,0,0,0,0,0)).2.2.2.1.toNat (0,0,0,0,0,0)).2.2.1.toNat []).getD (b1.1.getD t.toNat (0,0,false,0,0,0,0,0)).2.1.toNat (0,0,0,0)).2.2.2.toNat*1)),b1.2.1)
  else
  ck (t.toNat<(b1.1.set t.toNat ((b1.1.getD t.toNat (0,0,false,0,0,0,0,0)).1,((b1.1.getD t.toNat (0,0,false,0,0,0,0,0)).2.1+1),(b1.1.getD t.toNat (0,0,false,0,0,0,0,0)).2.2)).length) <| f9 t p_3 p_4 b1 (((b1.1.set t.toNat ((b1.1.getD t.toNat (0,0,false,0,0,0,0,0)).1,((b1.1.getD t.toNat (0,0,false,0,0,0,0,0)).2.1+1),(b1.1.getD t.toNat (0,0,false,0,0,0,0,0)).2.2)).set t.toNat (((b1.1.set t.toNat ((b1.1.getD t.toNat (0,0,false,0,0,0,0,0)).1,((b1.1.getD t.toNat (0,0,false,0,0,0,0,0)).2.1+1),(b1.1.getD t.toNat (0,0,false,0,0,0,0,0)).2.2)).getD t.toNat (0,0,false,0,0,0,0,0)).1,((b1.1.set t.toNat ((b1.1.getD t.toNat (0,0,false,0,0,0,0,0)).1,((b1.1.getD t.toNat (0,0,false,0,0,0,0,0)).2.1+1),(b1.1.getD t.toNat (0,0,false,0,0,0,0,0)).2.2)).getD t.toNat (0,0,false,0,0,0,0,0)).2.1,((b1.1.set t.toNat ((b1.1.getD t.toNat (0,0,false,0,0,0,0,0)).1,((b1.1.getD t.toNat (0,0,false,0,0,0,0,0)).2.1+1),(b1.1.getD t.toNat (0,0,false,0,0,0,0,0)).2.2)).getD t.toNat (0,0,false,0,0,0,0,0)).2.2.1,((b1.1.set t.toNat ((b1.1.getD t.toNat (0,0,false,0,0,0,0,0)).1,((b1.1.getD t.toNat (0,0,false,0,0,0,0,0)).2.1+1),(b1.1.getD t.toNat (0,0,false,0,0,0,0,0)).2.2)).getD t.toNat (0,0,false,0,0,0,0,0)).2.2.2.1,((b1.1.set t.toNat ((b1.1.getD t.toNat (0,0,false,0,0,0,0,0)).1,((b1.1.getD t.toNat (0,0,false,0,0,0,0,0)).2.1+1),(b1.1.getD t.toNat (0,0,false,0,0,0,0,0)).2.2)).getD t.toNat (0,0,false,0,0,0,0,0)).2.2.2.2.1,((b1.1.set t.toNat ((b1.1.getD t.toNat (0,0,false,0,0,0,0,0)).1,((b1.1.getD t.toNat (0,0,false,0,0,0,0,0)).2.1+1),(b1.1.getD t.toNat (0,0,false,0,0,0,0,0)).2.2)).getD t.toNat (0,0,false,0,0,0,0,0)).2.2.2.2.2.1,((b1.1.set t.toNat ((b1.1.getD t.toNat (0,0,false,0,0,0,0,0)).1,((b1.1.getD t.toNat (0,0,false,0,0,0,0,0)).2.1+1),(b1.1.getD t.toNat (0,0,false,0,0,0,0,0)).2.2)).getD t.toNat (0,0,false,0,0,0,0,0)).2.2.2.2.2.2.1,0)),p_5,p_6,p_7,b1.2.1)
  else
  if (decide (((p.getD (b1.2.1.getD (b1.1.getD t.toNat (0,0,false,0,0,0,0,0)).2.2.2.1.toNat (0,0,0,0,0,0)).2.2.1.toNat []).getD (b1.1.getD t.toNat (0,0,false,0,0,0,0,0)).2.1.toNat (0,0,0,0)).1=4))=true then
  ck (0≤((p.getD (b1.2.1.getD (b1.1.getD t.toNat (0,0,false,0,0,0,0,0)).2.2.2.1.toNat (0,0,0,0,0,0)).2.2.1.toNat []).getD (b1.1.getD t.toNat (0,0,false,0,0,0,0,0)).2.1.toNat (0,0,0,0)).2.1) <| ck (((p.getD (b1.2.1.getD (b1.1.getD t.toNat (0,0,false,0,0,0,0,0)).2.2.2.1.toNat (0,0,0,0,0,0)).2.2.1.toNat []).getD (b1.1.getD t.toNat (0,0,false,0,0,0,0,0)).2.1.toNat (0,0,0,0)).2.1<4) <| ck (t.toNat<(b1.1.set t.toNat ((b1.1.getD t.toNat (0,0,false,0,0,0,0,0)).1,((b1.1.getD t.toNat (0,0,false,0,0,0,0,0)).2.1+1),(b1.1.getD t.toNat (0,0,false,0,0,0,0,0)).2.2)).length) <| ck (kAt Y2 ((4+((p.getD (b1.2.1.getD (b1.1.getD t.toNat (0,0,false,0,0,0,0,0)).2.2.2.1.toNat (0,0,0,0,0,0)).2.2.1.toNat []).getD (b1.1.getD t.toNat (0,0,false,0,0,0,0,0)).2.1.toNat (0,0,0,0)).2.1.toNat*1))=some (some .i64)) <| f9 t p_3 p_4 b1 (((b1.1.set t.toNat ((b1.1.getD t.toNat (0,0,false,0,0,0,0,0)).1,((b1.1.getD t.toNat (0,0,false,0,0,0,0,0)).2.1+1),(b1.1.getD t.toNat (0,0,false,0,0,0,0,0)).2.2)).set t.toNat (g4 Y2 ((b1.1.set t.toNat ((b1.1.getD t.toNat (0,0,false,0,0,0,0,0)).1,((b1.1.getD t.toNat (0,0,false,0,0,0,0,0)).2.1+1),(b1.1.getD t.toNat (0,0,false,0,0,0,0,0)).2.2)).getD t.toNat (0,0,false,0,0,0,0,0)) (4+((p.getD (b1.2.1.getD (b1.1.getD t.toNat (0,0,false,0,0,0,0,0)).2.2.2.1.toNat (0,0,0,0,0,0)).2.2.1.toNat []).getD (b1.1.getD t.toNat (0,0,false,0,0,0,0,0)).2.1.toNat (0,0,0,0)).2.1.toNat*1) ((p.getD (b1.2.1.getD (b1.1.getD t.toNat (0,0,false,0,0,0,0,0)).2.2.2.1.toNat (0,0,0,0,0,0)).2.2.1.toNat []).getD (b1.1.getD t.toNat (0,0,false,0,0,0,0,0)).2.1.toNat (0,0,0,0)).2.2.1)),p_5,p_6,p_7,b1.2.1)
  else
  if (decide (((p.getD (b1.2.1.getD (b1.1.getD t.toNat (0,0,false,0,0,0,0,0)).2.2.2.1.toNat (0,0,0,0,0,0)).2.2.1.toNat []).getD (b1.1.getD t.toNat (0,0,false,0,0,0,0,0)).2.1.toNat (0,0,0,0)).1=5))=true then
  ck (0≤((p.getD (b1.2.1.getD (b1.1.getD t.toNat (0,0,false,0,0,0,0,0)).2.2.2.1.toNat (0,0,0,0,0,0)).2.2.1.toNat []).getD (b1.1.getD t.toNat (0,0,false,0,0,0,0,0)).2.1.toNat (0,0,0,0)).2.2.1) <| ck (((p.getD (b1.2.1.getD (b1.1.getD t.toNat (0,0,false,0,0,0,0,0)).2.2.2.1.toNat (0,0,0,0,0,0)).2.2.1.toNat []).getD (b1.1.getD t.toNat (0,0,false,0,0,0,0,0)).2.1.toNat (0,0,0,0)).2.2.1<4) <| ck (t.toNat<(b1.1.set t.toNat ((b1.1.getD t.toNat (0,0,false,0,0,0,0,0)).1,((b1.1.getD t.toNat (0,0,false,0,0,0,0,0)).2.1+1),(b1.1.getD t.toNat (0,0,false,0,0,0,0,0)).2.2)).length) <| ck (kAt Y2 ((4+((p.getD (b1.2.1.getD (b1.1.getD t.toNat (0,0,false,0,0,0,0,0)).2.2.2.1.toNat (0,0,0,0,0,0)).2.2.1.toNat []).getD (b1.1.getD t.toNat (0,0,false,0,0,0,0,0)).2.1.toNat (0,0,0,0)).2.2.1.toNat*1))=some (some .i64)) <| ck (0≤((p.getD (b1.2.1.getD (b1.1.getD t.toNat (0,0,false,0,0,0,0,0)).2.2.2.1.toNat (0,0,0,0,0,0)).2.2.1.toNat []).getD (b1.1.getD t.toNat (0,0,false,0,0,0,0,0)).2.1.toNat (0,0,0,0)).2.2.2) <| ck (((p.getD (b1.2.1.getD (b1.1.getD t.toNat (0,0,false,0,0,0,0,0)).2.2.2.1.toNat (0,0,0,0,0,0)).2.2.1.toNat []).getD (b1.1.getD t.toNat (0,0,false,0,0,0,0,0)).2.1.toNat (0,0,0,0)).2.2.2<4) <| ck (t.toNat<(b1.1.set t.toNat ((b1.1.getD t.toNat (0,0,false,0,0,0,0,0)).1,((b1.1.getD t.toNat (0,0,false,0,0,0,0,0)).2.1+1),(b1.1.getD t.toNat (0,0,false,0,0,0,0,0)).2.2)).length) <| ck (kAt Y2 ((4+((p.getD (b1.2.1.getD (b1.1.getD t.toNat (0,0,false,0,0,0,0,0)).2.2.2.1.toNat (0,0,0,0,0,0)).2.2.1.toNat []).getD (b1.1.getD t.toNat (0,0,false,0,0,0,0,0)).2.1.toNat (0,0,0,0)).2.2.2.toNat*1))=some (some .i64)) <| ck (InK .i64 ((b7 Y2 ((b1.1.set t.toNat ((b1.1.getD t.toNat (0,0,false,0,0,0,0,0)).1,((b1.1.getD t.toNat (0,0,false,0,0,0,0,0)).2.1+1),(b1.1.getD t.toNat (0,0,false,0,0,0,0,0)).2.2)).getD t.toNat (0,0,false,0,0,0,0,0)) (4+((p.getD (b1.2.1.getD (b1.1.getD t.toNat (0,0,false,0,0,0,0,0)).2.2.2.1.toNat (0,0,0,0,0,0)).2.2.1.toNat []).getD (b1.1.getD t.toNat (0,0,false,0,0,0,0,0)).2.1.toNat (0,0,0,0)).2.2.1.toNat*1))+(b7 Y2 ((b1.1.set t.toNat ((b1.1.getD t.toNat (0,0,false,0,0,0,0,0)).1,((b1.1.getD t.toNat (0,0,false,0,0,0,0,0)).2.1+1),(b1.1.getD t.toNat (0,0,false,0,0,0,0,0)).2.2)).getD t.toNat (0,0,false,0,0,0,0,0)) (4+((p.getD (b1.2.1.getD (b1.1.getD t.toNat (0,0,false,0,0,0,0,0)).2.2.2.1.toNat (0,0,0,0,0,0)).2.2.1.toNat []).getD (b1.1.getD t.toNat (0,0,false,0,0,0,0,0)).2.1.toNat (0,0,0,0)).2.2.2.toNat*1)))) <| ck (0≤((b7 Y2 ((b1.1.set t.toNat ((b1.1.getD t.toNat (0,0,false,0,0,0,0,0)).1,((b1.1.getD t.toNat (0,0,false,0,0,0,0,0)).2.1+1),(b1.1.getD t.toNat (0,0,false,0,0,0,0,0)).2.2)).getD t.toNat (0,0,false,0,0,0,0,0)) (4+((p.getD (b1.2.1.getD (b1.1.getD t.toNat (0,0,false,0,0,0,0,0)).2.2.2.1.toNat (0,0,0,0,0,0)).2.2.1.toNat []).getD (b1.1.getD t.toNat (0,0,false,0,0,0,0,0)).2.1.toNat (0,0,0,0)).2.2.1.toNat*1))+(b7 Y2 ((b1.1.set t.toNat ((b1.1.getD t.toNat (0,0,false,0,0,0,0,0)).1,((b1.1.getD t.toNat (0,0,false,0,0,0,0,0)).2.1+1),(b1.1.getD t.toNat (0,0,false,0,0,0,0,0)).2.2)).getD t.toNat (0,0,false,0,0,0,0,0)) (4+((p.getD (b1.2.1.getD (b1.1.getD t.toNat (0,0,false,0,0,0,0,0)).2.2.2.1.toNat (0,0,0,0,0,0)).2.2.1.toNat []).getD (b1.1.getD t.toNat (0,0,false,0,0,0,0,0)).2.1.toNat (0,0,0,0)).2.2.2.toNat*1)))) <| ck (0≤((p.getD (b1.2.1.getD (b1.1.getD t.toNat (0,0,false,0,0,0,0,0)).2.2.2.1.toNat (0,0,0,0,0,0)).2.2.1.toNat []).getD (b1.1.getD t.toNat (0,0,false,0,0,0,0,0)).2.1.toNat (0,0,0,0)).2.1) <| ck (((p.getD (b1.2.1.getD (b1.1.getD t.toNat (0,0,false,0,0,0,0,0)).2.2.2.1.toNat (0,0,0,0,0,0)).2.2.1.toNat []).getD (b1.1.getD t.toNat (0,0,false,0,0,0,0,0)).2.1.toNat (0,0,0,0)).2.1<4) <| ck (t.toNat<(b1.1.set t.toNat ((b1.1.getD t.toNat (0,0,false,0,0,0,0,0)).1,((b1.1.getD t.toNat (0,0,false,0,0,0,0,0)).2.1+1),(b1.1.getD t.toNat (0,0,false,0,0,0,0,0)).2.2)).length) <| ck (kAt Y2 ((4+((p.getD (b1.2.1.getD (b1.1.getD t.toNat (0,0,false,0,0,0,0,0)).2.2.2.1.toNat (0,0,0,0,0,0)).2.2.1.toNat []).getD (b1.1.getD t.toNat (0,0,false,0,0,0,0,0)).2.1.toNat (0,0,0,0)).2.1.toNat*1))=some (some .i64)) <| f9 t p_3 p_4 b1 (((b1.1.set t.toNat ((b1.1.getD t.toNat (0,0,false,0,0,0,0,0)).1,((b1.1.getD t.toNat (0,0,false,0,0,0,0,0)).2.1+1),(b1.1.getD t.toNat (0,0,false,0,0,0,0,0)).2.2)).set t.toNat (g4 Y2 ((b1.1.set t.toNat ((b1.1.getD t.toNat (0,0,false,0,0,0,0,0)).1,((b1.1.getD t.toNat (0,0,false,0,0,0,0,0)).2.1+1),(b1.1.getD t.toNat (0,0,false,0,0,0,0,0)).2.2)).getD t.toNat (0,0,false,0,0,0,0,0)) (4+((p.getD (b1.2.1.getD (b1.1.getD t.toNat (0,0,false,0,0,0,0,0)).2.2.2.1.toNat (0,0,0,0,0,0)).2.2.1.toNat []).getD (b1.1.getD t.toNat (0,0,false,0,0,0,0,0)).2.1.toNat (0,0,0,0)).2.1.toNat*1) (((b7 Y2 ((b1.1.set t.toNat ((b1.1.getD t.toNat (0,0,false,0,0,0,0,0)).1,((b1.1.getD t.toNat (0,0,false,0,0,0,0,0)).2.1+1),(b1.1.getD t.toNat (0,0,false,0,0,0,0,0)).2.2)).getD t.toNat (0,0,false,0,0,0,0,0)) (4+((p.getD (b1.2.1.getD (b1.1.getD t.toNat (0,0,false,0,0,0,0,0)).2.2.2.1.toNat (0,0,0,0,0,0)).2.2.1.toNat []).getD (b1.1.getD t.toNat (0,0,false,0,0,0,0,0)).2.1.toNat (0,0,0,0)).2.2.1.toNat*1))+(b7 Y2 ((b1.1.set t.toNat ((b1.1.getD t.toNat (0,0,false,0,0,0,0,0)).1,((b1.1.getD t.toNat (0,0,false,0,0,0,0,0)).2.1+1),(b1.1.getD t.toNat (0,0,false,0,0,0,0,0)).2.2)).getD t.toNat (0,0,false,0,0,0,0,0)) (4+((p.getD (b1.2.1.getD (b1.1.getD t.toNat (0,0,false,0,0,0,0,0)).2.2.2.1.toNat (0,0,0,0,0,0)).2.2.1.toNat []).getD (b1.1.getD t.toNat (0,0,false,0,0,0,0,0)).2.1.toNat (0,0,0,0)).2.2.2.toNat*1))) % 10))),p_5,p_6,p_7,b1.2.1)
  else
  if (decide (((p.getD (b1.2.1.getD (b1.1.getD t.toNat (0,0,false,0,0,0,0,0)).2.2.2.1.toNat (0,0,0,0,0,0)).2.2.1.toNat []).getD (b1.1.getD t.toNat (0,0,false,0,0,0,0,0)).2.1.toNat (0,0,0,0)).1=6))=true then
  ck (0≤((p.getD (b1.2.1.getD (b1.1.getD t.toNat (0,0,false,0,0,0,0,0)).2.2.2.1.toNat (0,0,0,0,0,0)).2.2.1.toNat []).getD (b1.1.getD t.toNat (0,0,false,0,0,0,0,0)).2.1.toNat (0,0,0,0)).2.1) <| ck (((p.getD (b1.2.1.getD (b1.1.getD t.toNat (0,0,false,0,0,0,0,0)).2.2.2.1.toNat (0,0,0,0,0,0)).2.2.1.toNat []).getD (b1.1.getD t.toNat (0,0,false,0,0,0,0,0)).2.1.toNat (0,0,0,0)).2.1<4) <| ck (t.toNat<(b1.1.set t.toNat ((b1.1.getD t.toNat (0,0,false,0,0,0,0,0)).1,((b1.1.getD t.toNat (0,0,false,0,0,0,0,0)).2.1+1),(b1.1.getD t.toNat (0,0,false,0,0,0,0,0)).2.2)).length) <| ck (kAt Y2 ((4+((p.getD (b1.2.1.getD (b1.1.getD t.toNat (0,0,false,0,0,0,0,0)).2.2.2.1.toNat (0,0,0,0,0,0)).2.2.1.toNat []).getD (b1.1.getD t.toNat (0,0,false,0,0,0,0,0)).2.1.toNat (0,0,0,0)).2.1.toNat*1))=some (some .i64)) <| if (decide ((b7 Y2 ((b1.1.set t.toNat ((b1.1.getD t.toNat (0,0,false,0,0,0,0,0)).1,((b1.1.getD t.toNat (0,0,false,0,0,0,0,0)).2.1+1),(b1.1.getD t.toNat (0,0,false,0,0,0,0,0)).2.2)).getD t.toNat (0,0,false,0,0,0,0,0)) (4+((p.getD (b1.2.1.getD (b1.1.getD t.toNat (0,0,false,0,0,0,0,0)).2.2.2.1.toNat (0,0,0,0,0,0)).2.2.1.toNat []).getD (b1.1.getD t.toNat (0,0,false,0,0,0,0,0)).2.1.toNat (0,0,0,0)).2.1.toNat*1))=0))=true then
  ck (t.toNat<(b1.1.set t.toNat ((b1.1.getD t.toNat (0,0,false,0,0,0,0,0)).1,((b1.1.getD t.toNat (0,0,false,0,0,0,0,0)).2.1+1),(b1.1.getD t.toNat (0,0,false,0,0,0,0,0)).2.2)).length) <| f9 t p_3 p_4 b1 (((b1.1.set t.toNat ((b1.1.getD t.toNat (0,0,false,0,0,0,0,0)).1,((b1.1.getD t.toNat (0,0,false,0,0,0,0,0)).2.1+1),(b1.1.getD t.toNat (0,0,false,0,0,0,0,0)).2.2)).set t.toNat (((b1.1.set t.toNat ((b1.1.getD t.toNat (0,0,false,0,0,0,0,0)).1,((b1.1.getD t.toNat (0,0,false,0,0,0,0,0)).2.1+1),(b1.1.getD t.toNat (0,0,false,0,0,0,0,0)).2.2)).getD t.toNat (0,0,false,0,0,0,0,0)).1,((p.getD (b1.2.1.getD (b1.1.getD t.toNat (0,0,false,0,0,0,0,0)).2.2.2.1.toNat (0,0,0,0,0,0)).2.2.1.toNat []).getD (b1.1.getD t.toNat (0,0,false,0,0,0,0,0)).2.1.toNat (0,0,0,0)).2.2.1,((b1.1.set t.toNat ((b1.1.getD t.toNat (0,0,false,0,0,0,0,0)).1,((b1.1.getD t.toNat (0,0,false,0,0,0,0,0)).2.1+1),(b1.1.getD t.toNat (0,0,false,0,0,0,0,0)).2.2)).getD t.toNat (0,0,false,0,0,0,0,0)).2.2)),p_5,p_6,p_7,b1.2.1)
  else
  f9 t p_3 p_4 b1 ((b1.1.set t.toNat ((b1.1.getD t.toNat (0,0,false,0,0,0,0,0)).1,((b1.1.getD t.toNat (0,0,false,0,0,0,0,0)).2.1+1),(b1.1.getD t.toNat (0,0,false,0,0,0,0,0)).2.2)),p_5,p_6,p_7,b1.2.1)
  else
  if (decide (((p.getD (b1.2.1.getD (b1.1.getD t.toNat (0,0,false,0,0,0,0,0)).2.2.2.1.toNat (0,0,0,0,0,0)).2.2.1.toNat []).getD (b1.1.getD t.toNat (0,0,false,0,0,0,0,0)).2.1.toNat (0,0,0,0)).1=7))=true then
  ck (t.toNat<(b1.1.set t.toNat ((b1.1.getD t.toNat (0,0,false,0,0,0,0,0)).1,((b1.1.getD t.toNat (0,0,false,0,0,0,0,0)).2.1+1),(b1.1.getD t.toNat (0,0,false,0,0,0,0,0)).2.2)).length) <| ck (InK .i64 (2*p_4)) <| ck (InK .i64 ((2*p_4)+2)) <| ck (0≤((b1.1.set t.toNat ((b1.1.getD t.toNat (0,0,false,0,0,0,0,0)).1,((b1.1.getD t.toNat (0,0,false,0,0,0,0,0)).2.1+1),(b1.1.getD t.toNat (0,0,false,0,0,0,0,0)).2.2)).getD t.toNat (0,0,false,0,0,0,0,0)).2.2.2.1) <| ck (((b1.1.set t.toNat ((b1.1.getD t.toNat (0,0,false,0,0,0,0,0)).1,((b1.1.getD t.toNat (0,0,false,0,0,0,0,0)).2.1+1),(b1.1.getD t.toNat (0,0,false,0,0,0,0,0)).2.2)).getD t.toNat (0,0,false,0,0,0,0,0)).2.2.2.1<(b1.2.1.length:Int)) <| ck (((b1.1.set t.toNat ((b1.1.getD t.toNat (0,0,false,0,0,0,0,0)).1,((b1.1.getD t.toNat (0,0,false,0,0,0,0,0)).2.1+1),(b1.1.getD t.toNat (0,0,false,0,0,0,0,0)).2.2)).getD t.toNat (0,0,false,0,0,0,0,0)).2.2.2.1.toNat<b1.2.1.length) <| ck (t.toNat<(b1.1.set t.toNat ((b1.1.getD t.toNat (0,0,false,0,0,0,0,0)).1,((b1.1.getD t.toNat (0,0,false,0,0,0,0,0)).2.1+1),(b1.1.getD t.toNat (0,0,false,0,0,0,0,0)).2.2)).length) <| ck (0≤((p.getD (b1.2.1.getD (b1.1.getD t.toNat (0,0,false,0,0,0,0,0)).2.2.2.1.toNat (0,0,0,0,0,0)).2.2.1.toNat []).getD (b1.1.getD t.toNat (0,0,false,0,0,0,0,0)).2.1.toNat (0,0,0,0)).2.1) <| ck (((p.getD (b1.2.1.getD (b1.1.getD t.toNat (0,0,false,0,0,0,0,0)).2.2.2.1.toNat (0,0,0,0,0,0)).2.2.1.toNat []).getD (b1.1.getD t.toNat (0,0,false,0,0,0,0,0)).2.1.toNat (0,0,0,0)).2.1<4) <| ck (t.toNat<(b1.1.set t.toNat ((b1.1.getD t.toNat (0,0,false,0,0,0,0,0)).1,((b1.1.getD t.toNat (0,0,false,0,0,0,0,0)).2.1+1),(b1.1.getD t.toNat (0,0,false,0,0,0,0,0)).2.2)).length) <| ck (kAt Y2 ((4+((p.getD (b1.2.1.getD (b1.1.getD t.toNat (0,0,false,0,0,0,0,0)).2.2.2.1.toNat (0,0,0,0,0,0)).2.2.1.toNat []).getD (b1.1.getD t.toNat (0,0,false,0,0,0,0,0)).2.1.toNat (0,0,0,0)).2.1.toNat*1))=some (some .i64)) <| ck (0≤((b1.1.set t.toNat ((b1.1.getD t.toNat (0,0,false,0,0,0,0,0)).1,((b1.1.getD t.toNat (0,0,false,0,0,0,0,0)).2.1+1),(b1.1.getD t.toNat (0,0,false,0,0,0,0,0)).2.2)).getD t.toNat (0,0,false,0,0,0,0,0)).2.2.2.1) <| ck (((b1.1.set t.toNat ((b1.1.getD t.toNat (0,0,false,0,0,0,0,0)).1,((b1.1.getD t.toNat (0,0,false,0,0,0,0,0)).2.1+1),(b1.1.getD t.toNat (0,0,false,0,0,0,0,0)).2.2)).getD t.toNat (0,0,false,0,0,0,0,0)).2.2.2.1<((b1.2.1.set ((b1.1.set t.toNat ((b1.1.getD t.toNat (0,0,false,0,0,0,0,0)).1,((b1.1.getD t.toNat (0,0,false,0,0,0,0,0)).2.1+1),(b1.1.getD t.toNat (0,0,false,0,0,0,0,0)).2.2)).getD t.toNat (0,0,false,0,0,0,0,0)).2.2.2.1.toNat ((b1.2.1.getD ((b1.1.set t.toNat ((b1.1.getD t.toNat (0,0,false,0,0,0,0,0)).1,((b1.1.getD t.toNat (0,0,false,0,0,0,0,0)).2.1+1),(b1.1.getD t.toNat (0,0,false,0,0,0,0,0)).2.2)).getD t.toNat (0,0,false,0,0,0,0,0)).2.2.2.1.toNat (0,0,0,0,0,0)).1,(b1.2.1.getD ((b1.1.set t.toNat ((b1.1.getD t.toNat (0,0,false,0,0,0,0,0)).1,((b1.1.getD t.toNat (0,0,false,0,0,0,0,0)).2.1+1),(b1.1.getD t.toNat (0,0,false,0,0,0,0,0)).2.2)).getD t.toNat (0,0,false,0,0,0,0,0)).2.2.2.1.toNat (0,0,0,0,0,0)).2.1,(b1.2.1.getD ((b1.1.set t.toNat ((b1.1.getD t.toNat (0,0,false,0,0,0,0,0)).1,((b1.1.getD t.toNat (0,0,false,0,0,0,0,0)).2.1+1),(b1.1.getD t.toNat (0,0,false,0,0,0,0,0)).2.2)).getD t.toNat (0,0,false,0,0,0,0,0)).2.2.2.1.toNat (0,0,0,0,0,0)).2.2.1,(b1.2.1.getD ((b1.1.set t.toNat ((b1.1.getD t.toNat (0,0,false,0,0,0,0,0)).1,((b1.1.getD t.toNat (0,0,false,0,0,0,0,0)).2.1+1),(b1.1.getD t.toNat (0,0,false,0,0,0,0,0)).2.2)).getD t.toNat (0,0,false,0,0,0,0,0)).2.2.2.1.toNat (0,0,0,0,0,0)).2.2.2.1,(b1.2.1.getD ((b1.1.set t.toNat ((b1.1.getD t.toNat (0,0,false,0,0,0,0,0)).1,((b1.1.getD t.toNat (0,0,false,0,0,0,0,0)).2.1+1),(b1.1.getD t.toNat (0,0,false,0,0,0,0,0)).2.2)).getD t.toNat (0,0,false,0,0,0,0,0)).2.2.2.1.toNat (0,0,0,0,0,0)).2.2.2.2.1,((2*p_4)+2))).length:Int)) <| ck (((b1.1.set t.toNat ((b1.1.getD t.toNat (0,0,false,0,0,0,0,0)).1,((b1.1.getD t.toNat (0,0,false,0,0,0,0,0)).2.1+1),(b1.1.getD t.toNat (0,0,false,0,0,0,0,0)).2.2)).getD t.toNat (0,0,false,0,0,0,0,0)).2.2.2.1.toNat<(b1.2.1.set ((b1.1.set t.toNat ((b1.1.getD t.toNat (0,0,false,0,0,0,0,0)).1,((b1.1.getD t.toNat (0,0,false,0,0,0,0,0)).2.1+1),(b1.1.getD t.toNat (0,0,false,0,0,0,0,0)).2.2)).getD t.toNat (0,0,false,0,0,0,0,0)).2.2.2.1.toNat ((b1.2.1.getD ((b1.1.set t.toNat ((b1.1.getD t.toNat (0,0,false,0,0,0,0,0)).1,((b1.1.getD t.toNat (0,0,false,0,0,0,0,0)).2.1+1),(b1.1.getD t.toNat (0,0,false,0,0,0,0,0)).2.2)).getD t.toNat (0,0,false,0,0,0,0,0)).2.2.2.1.toNat (0,0,0,0,0,0)).1,(b1.2.1.getD ((b1.1.set t.toNat ((b1.1.getD t.toNat (0,0,false,0,0,0,0,0)).1,((b1.1.getD t.toNat (0,0,false,0,0,0,0,0)).2.1+1),(b1.1.getD t.toNat (0,0,false,0,0,0,0,0)).2.2)).getD t.toNat (0,0,false,0,0,0,0,0)).2.2.2.1.toNat (0,0,0,0,0,0)).2.1,(b1.2.1.getD ((b1.1.set t.toNat ((b1.1.getD t.toNat (0,0,false,0,0,0,0,0)).1,((b1.1.getD t.toNat (0,0,false,0,0,0,0,0)).2.1+1),(b1.1.getD t.toNat (0,0,false,0,0,0,0,0)).2.2)).getD t.toNat (0,0,false,0,0,0,0,0)).2.2.2.1.toNat (0,0,0,0,0,0)).2.2.1,(b1.2.1.getD ((b1.1.set t.toNat ((b1.1.getD t.toNat (0,0,false,0,0,0,0,0)).1,((b1.1.getD t.toNat (0,0,false,0,0,0,0,0)).2.1+1),(b1.1.getD t.toNat (0,0,false,0,0,0,0,0)).2.2)).getD t.toNat (0,0,false,0,0,0,0,0)).2.2.2.1.toNat (0,0,0,0,0,0)).2.2.2.1,(b1.2.1.getD ((b1.1.set t.toNat ((b1.1.getD t.toNat (0,0,false,0,0,0,0,0)).1,((b1.1.getD t.toNat (0,0,false,0,0,0,0,0)).2.1+1),(b1.1.getD t.toNat (0,0,false,0,0,0,0,0)).2.2)).getD t.toNat (0,0,false,0,0,0,0,0)).2.2.2.1.toNat (0,0,0,0,0,0)).2.2.2.2.1,((2*p_4)+2))).length) <| ck (t.toNat<(b1.1.set t.toNat ((b1.1.getD t.toNat (0,0,false,0,0,0,0,0)).1,((b1.1.getD t.toNat (0,0,false,0,0,0,0,0)).2.1+1),(b1.1.getD t.toNat (0,0,false,0,0,0,0,0)).2.2)).length) <| f9 t p_3 p_4 b1 (((b1.1.set t.toNat ((b1.1.getD t.toNat (0,0,false,0,0,0,0,0)).1,((b1.1.getD t.toNat (0,0,false,0,0,0,0,0)).2.1+1),(b1.1.getD t.toNat (0,0,false,0,0,0,0,0)).2.2)).set t.toNat (((b1.1.set t.toNat ((b1.1.getD t.toNat (0,0,false,0,0,0,0,0)).1,((b1.1.getD t.toNat (0,0,false,0,0,0,0,0)).2.1+1),(b1.1.getD t.toNat (0,0,false,0,0,0,0,0)).2.2)).getD t.toNat (0,0,false,0,0,0,0,0)).1,((b1.1.set t.toNat ((b1.1.getD t.toNat (0,0,false,0,0,0,0,0)).1,((b1.1.getD t.toNat (0,0,false,0,0,0,0,0)).2.1+1),(b1.1.getD t.toNat (0,0,false,0,0,0,0,0)).2.2)).getD t.toNat (0,0,false,0,0,0,0,0)).2.1,false,((b1.1.set t.toNat ((b1.1.getD t.toNat (0,0,false,0,0,0,0,0)).1,((b1.1.getD t.toNat (0,0,false,0,0,0,0,0)).2.1+1),(b1.1.getD t.toNat (0,0,false,0,0,0,0,0)).2.2)).getD t.toNat (0,0,false,0,0,0,0,0)).2.2.2)),p_5,p_6,p_7,((b1.2.1.set ((b1.1.set t.toNat ((b1.1.getD t.toNat (0,0,false,0,0,0,0,0)).1,((b1.1.getD t.toNat (0,0,false,0,0,0,0,0)).2.1+1),(b1.1.getD t.toNat (0,0,false,0,0,0,0,0)).2.2)).getD t.toNat (0,0,false,0,0,0,0,0)).2.2.2.1.toNat ((b1.2.1.getD ((b1.1.set t.toNat ((b1.1.getD t.toNat (0,0,false,0,0,0,0,0)).1,((b1.1.getD t.toNat (0,0,false,0,0,0,0,0)).2.1+1),(b1.1.getD t.toNat (0,0,false,0,0,0,0,0)).2.2)).getD t.toNat (0,0,false,0,0,0,0,0)).2.2.2.1.toNat (0,0,0,0,0,0)).1,(b1.2.1.getD ((b1.1.set t.toNat ((b1.1.getD t.toNat (0,0,false,0,0,0,0,0)).1,((b1.1.getD t.toNat (0,0,false,0,0,0,0,0)).2.1+1),(b1.1.getD t.toNat (0,0,false,0,0,0,0,0)).2.2)).getD t.toNat (0,0,false,0,0,0,0,0)).2.2.2.1.toNat (0,0,0,0,0,0)).2.1,(b1.2.1.getD ((b1.1.set t.toNat ((b1.1.getD t.toNat (0,0,false,0,0,0,0,0)).1,((b1.1.getD t.toNat (0,0,false,0,0,0,0,0)).2.1+1),(b1.1.getD t.toNat (0,0,false,0,0,0,0,0)).2.2)).getD t.toNat (0,0,false,0,0,0,0,0)).2.2.2.1.toNat (0,0,0,0,0,0)).2.2.1,(b1.2.1.getD ((b1.1.set t.toNat ((b1.1.getD t.toNat (0,0,false,0,0,0,0,0)).1,((b1.1.getD t.toNat (0,0,false,0,0,0,0,0)).2.1+1),(b1.1.getD t.toNat (0,0,false,0,0,0,0,0)).2.2)).getD t.toNat (0,0,false,0,0,0,0,0)).2.2.2.1.toNat (0,0,0,0,0,0)).2.2.2.1,(b1.2.1.getD ((b1.1.set t.toNat ((b1.1.getD t.toNat (0,0,false,0,0,0,0,0)).1,((b1.1.getD t.toNat (0,0,false,0,0,0,0,0)).2.1+1),(b1.1.getD t.toNat (0,0,false,0,0,0,0,0)).2.2)).getD t.toNat (0,0,false,0,0,0,0,0)).2.2.2.1.toNat (0,0,0,0,0,0)).2.2.2.2.1,((2*p_4)+2))).set ((b1.1.set t.toNat ((b1.1.getD t.toNat (0,0,false,0,0,0,0,0)).1,((b1.1.getD t.toNat (0,0,false,0,0,0,0,0)).2.1+1),(b1.1.getD t.toNat (0,0,false,0,0,0,0,0)).2.2)).getD t.toNat (0,0,false,0,0,0,0,0)).2.2.2.1.toNat (((b1.2.1.set ((b1.1.set t.toNat ((b1.1.getD t.toNat (0,0,false,0,0,0,0,0)).1,((b1.1.getD t.toNat (0,0,false,0,0,0,0,0)).2.1+1),(b1.1.getD t.toNat (0,0,false,0,0,0,0,0)).2.2)).getD t.toNat (0,0,false,0,0,0,0,0)).2.2.2.1.toNat ((b1.2.1.getD ((b1.1.set t.toNat ((b1.1.getD t.toNat (0,0,false,0,0,0,0,0)).1,((b1.1.getD t.toNat (0,0,false,0,0,0,0,0)).2.1+1),(b1.1.getD t.toNat (0,0,false,0,0,0,0,0)).2.2)).getD t.toNat (0,0,false,0,0,0,0,0)).2.2.2.1.toNat (0,0,0,0,0,0)).1,(b1.2.1.getD ((b1.1.set t.toNat ((b1.1.getD t.toNat (0,0,false,0,0,0,0,0)).1,((b1.1.getD t.toNat (0,0,false,0,0,0,0,0)).2.1+1),(b1.1.getD t.toNat (0,0,false,0,0,0,0,0)).2.2)).getD t.toNat (0,0,false,0,0,0,0,0)).2.2.2.1.toNat (0,0,0,0,0,0)).2.1,(b1.2.1.getD ((b1.1.set t.toNat ((b1.1.getD t.toNat (0,0,false,0,0,0,0,0)).1,((b1.1.getD t.toNat (0,0,false,0,0,0,0,0)).2.1+1),(b1.1.getD t.toNat (0,0,false,0,0,0,0,0)).2.2)).getD t.toNat (0,0,false,0,0,0,0,0)).2.2.2.1.toNat (0,0,0,0,0,0)).2.2.1,(b1.2.1.getD ((b1.1.set t.toNat ((b1.1.getD t.toNat (0,0,false,0,0,0,0,0)).1,((b1.1.getD t.toNat (0,0,false,0,0,0,0,0)).2.1+1),(b1.1.getD t.toNat (0,0,false,0,0,0,0,0)).2.2)).getD t.toNat (0,0,false,0,0,0,0,0)).2.2.2.1.toNat (0,0,0,0,0,0)).2.2.2.1,(b1.2.1.getD ((b1.1.set t.toNat ((b1.1.getD t.toNat (0,0,false,0,0,0,0,0)).1,((b1.1.getD t.toNat (0,0,false,0,0,0,0,0)).2.1+1),(b1.1.getD t.toNat (0,0,false,0,0,0,0,0)).2.2)).getD t.toNat (0,0,false,0,0,0,0,0)).2.2.2.1.toNat (0,0,0,0,0,0)).2.2.2.2.1,((2*p_4)+2))).getD ((b1.1.set t.toNat ((b1.1.getD t.toNat (0,0,false,0,0,0,0,0)).1,((b1.1.getD t.toNat (0,0,false,0,0,0,0,0)).2.1+1),(b1.1.getD t.toNat (0,0,false,0,0,0,0,0)).2.2)).getD t.toNat (0,0,false,0,0,0,0,0)).2.2.2.1.toNat (0,0,0,0,0,0)).1,((b1.2.1.set ((b1.1.set t.toNat ((b1.1.getD t.toNat (0,0,false,0,0,0,0,0)).1,((b1.1.getD t.toNat (0,0,false,0,0,0,0,0)).2.1+1),(b1.1.getD t.toNat (0,0,false,0,0,0,0,0)).2.2)).getD t.toNat (0,0,false,0,0,0,0,0)).2.2.2.1.toNat ((b1.2.1.getD ((b1.1.set t.toNat ((b1.1.getD t.toNat (0,0,false,0,0,0,0,0)).1,((b1.1.getD t.toNat (0,0,false,0,0,0,0,0)).2.1+1),(b1.1.getD t.toNat (0,0,false,0,0,0,0,0)).2.2)).getD t.toNat (0,0,false,0,0,0,0,0)).2.2.2.1.toNat (0,0,0,0,0,0)).1,(b1.2.1.getD ((b1.1.set t.toNat ((b1.1.getD t.toNat (0,0,false,0,0,0,0,0)).1,((b1.1.getD t.toNat (0,0,false,0,0,0,0,0)).2.1+1),(b1.1.getD t.toNat (0,0,false,0,0,0,0,0)).2.2)).getD t.toNat (0,0,false,0,0,0,0,0)).2.2.2.1.toNat (0,0,0,0,0,0)).2.1,(b1.2.1.getD ((b1.1.set t.toNat ((b1.1.getD t.toNat (0,0,false,0,0,0,0,0)).1,((b1.1.getD t.toNat (0,0,false,0,0,0,0,0)).2.1+1),(b1.1.getD t.toNat (0,0,false,0,0,0,0,0)).2.2)).getD t.toNat (0,0,false,0,0,0,0,0)).2.2.2.1.toNat (0,0,0,0,0,0)).2.2.1,(b1.2.1.getD ((b1.1.set t.toNat ((b1.1.getD t.toNat (0,0,false,0,0,0,0,0)).1,((b1.1.getD t.toNat (0,0,false,0,0,0,0,0)).2.1+1),(b1.1.getD t.toNat (0,0,false,0,0,0,0,0)).2.2)).getD t.toNat (0,0,false,0,0,0,0,0)).2.2.2.1.toNat (0,0,0,0,0,0)).2.2.2.1,(b1.2.1.getD ((b1.1.set t.toNat ((b1.1.getD t.toNat (0,0,false,0,0,0,0,0)).1,((b1.1.getD t.toNat (0,0,false,0,0,0,0,0)).2.1+1),(b1.1.getD t.toNat (0,0,false,0,0,0,0,0)).2.2)).getD t.toNat (0,0,false,0,0,0,0,0)).2.2.2.1.toNat (0,0,0,0,0,0)).2.2.2.2.1,((2*p_4)+2))).getD ((b1.1.set t.toNat ((b1.1.getD t.toNat (0,0,false,0,0,0,0,0)).1,((b1.1.getD t.toNat (0,0,false,0,0,0,0,0)).2.1+1),(b1.1.getD t.toNat (0,0,false,0,0,0,0,0)).2.2)).getD t.toNat (0,0,false,0,0,0,0,0)).2.2.2.1.toNat (0,0,0,0,0,0)).2.1,((b1.2.1.set ((b1.1.set t.toNat ((b1.1.getD t.toNat (0,0,false,0,0,0,0,0)).1,((b1.1.getD t.toNat (0,0,false,0,0,0,0,0)).2.1+1),(b1.1.getD t.toNat (0,0,false,0,0,0,0,0)).2.2)).getD t.toNat (0,0,false,0,0,0,0,0)).2.2.2.1.toNat ((b1.2.1.getD ((b1.1.set t.toNat ((b1.1.getD t.toNat (0,0,false,0,0,0,0,0)).1,((b1.1.getD t.toNat (0,0,false,0,0,0,0,0)).2.1+1),(b1.1.getD t.toNat (0,0,false,0,0,0,0,0)).2.2)).getD t.toNat (0,0,false,0,0,0,0,0)).2.2.2.1.toNat (0,0,0,0,0,0)).1,(b1.2.1.getD ((b1.1.set t.toNat ((b1.1.getD t.toNat (0,0,false,0,0,0,0,0)).1,((b1.1.getD t.toNat (0,0,false,0,0,0,0,0)).2.1+1),(b1.1.getD t.toNat (0,0,false,0,0,0,0,0)).2.2)).getD t.toNat (0,0,false,0,0,0,0,0)).2.2.2.1.toNat (0,0,0,0,0,0)).2.1,(b1.2.1.getD ((b1.1.set t.toNat ((b1.1.getD t.toNat (0,0,false,0,0,0,0,0)).1,((b1.1.getD t.toNat (0,0,false,0,0,0,0,0)).2.1+1),(b1.1.getD t.toNat (0,0,false,0,0,0,0,0)).2.2)).getD t.toNat (0,0,false,0,0,0,0,0)).2.2.2.1.toNat (0,0,0,0,0,0)).2.2.1,(b1.2.1.getD ((b1.1.set t.toNat ((b1.1.getD t.toNat (0,0,false,0,0,0,0,0)).1,((b1.1.getD t.toNat (0,0,false,0,0,0,0,0)).2.1+1),(b1.1.getD t.toNat (0,0,false,0,0,0,0,0)).2.2)).getD t.toNat (0,0,false,0,0,0,0,0)).2.2.2.1.toNat (0,0,0,0,0,0)).2.2.2.1,(b1.2.1.getD ((b1.1.set t.toNat ((b1.1.getD t.toNat (0,0,false,0,0,0,0,0)).1,((b1.1.getD t.toNat (0,0,false,0,0,0,0,0)).2.1+1),(b1.1.getD t.toNat (0,0,false,0,0,0,0,0)).2.2)).getD t.toNat (0,0,false,0,0,0,0,0)).2.2.2.1.toNat (0,0,0,0,0,0)).2.2.2.2.1,((2*p_4)+2))).getD ((b1.1.set t.toNat ((b1.1.getD t.toNat (0,0,false,0,0,0,0,0)).1,((b1.1.getD t.toNat (0,0,false,0,0,0,0,0)).2.1+1),(b1.1.getD t.toNat (0,0,false,0,0,0,0,0)).2.2)).getD t.toNat (0,0,false,0,0,0,0,0)).2.2.2.1.toNat (0,0,0,0,0,0)).2.2.1,(b7 Y2 ((b1.1.set t.toNat ((b1.1.getD t.toNat (0,0,false,0,0,0,0,0)).1,((b1.1.getD t.toNat (0,0,false,0,0,0,0,0)).2.1+1),(b1.1.getD t.toNat (0,0,false,0,0,0,0,0)).2.2)).getD t.toNat (0,0,false,0,0,0,0,0)) (4+((p.getD (b1.2.1.getD (b1.1.getD t.toNat (0,0,false,0,0,0,0,0)).2.2.2.1.toNat (0,0,0,0,0,0)).2.2.1.toNat []).getD (b1.1.getD t.toNat (0,0,false,0,0,0,0,0)).2.1.toNat (0,0,0,0)).2.1.toNat*1)),((b1.2.1.set ((b1.1.set t.toNat ((b1.1.getD t.toNat (0,0,false,0,0,0,0,0)).1,((b1.1.getD t.toNat (0,0,false,0,0,0,0,0)).2.1+1),(b1.1.getD t.toNat (0,0,false,0,0,0,0,0)).2.2)).getD t.toNat (0,0,false,0,0,0,0,0)).2.2.2.1.toNat ((b1.2.1.getD ((b1.1.set t.toNat ((b1.1.getD t.toNat (0,0,false,0,0,0,0,0)).1,((b1.1.getD t.toNat (0,0,false,0,0,0,0,0)).2.1+1),(b1.1.getD t.toNat (0,0,false,0,0,0,0,0)).2.2)).getD t.toNat (0,0,false,0,0,0,0,0)).2.2.2.1.toNat (0,0,0,0,0,0)).1,(b1.2.1.getD ((b1.1.set t.toNat ((b1.1.getD t.toNat (0,0,false,0,0,0,0,0)).1,((b1.1.getD t.toNat (0,0,false,0,0,0,0,0)).2.1+1),(b1.1.getD t.toNat (0,0,false,0,0,0,0,0)).2.2)).getD t.toNat (0,0,false,0,0,0,0,0)).2.2.2.1.toNat (0,0,0,0,0,0)).2.1,(b1.2.1.getD ((b1.1.set t.toNat ((b1.1.getD t.toNat (0,0,false,0,0,0,0,0)).1,((b1.1.getD t.toNat (0,0,false,0,0,0,0,0)).2.1+1),(b1.1.getD t.toNat (0,0,false,0,0,0,0,0)).2.2)).getD t.toNat (0,0,false,0,0,0,0,0)).2.2.2.1.toNat (0,0,0,0,0,0)).2.2.1,(b1.2.1.getD ((b1.1.set t.toNat ((b1.1.getD t.toNat (0,0,false,0,0,0,0,0)).1,((b1.1.getD t.toNat (0,0,false,0,0,0,0,0)).2.1+1),(b1.1.getD t.toNat (0,0,false,0,0,0,0,0)).2.2)).getD t.toNat (0,0,false,0,0,0,0,0)).2.2.2.1.toNat (0,0,0,0,0,0)).2.2.2.1,(b1.2.1.getD ((b1.1.set t.toNat ((b1.1.getD t.toNat (0,0,false,0,0,0,0,0)).1,((b1.1.getD t.toNat (0,0,false,0,0,0,0,0)).2.1+1),(b1.1.getD t.toNat (0,0,false,0,0,0,0,0)).2.2)).getD t.toNat (0,0,false,0,0,0,0,0)).2.2.2.1.toNat (0,0,0,0,0,0)).2.2.2.2.1,((2*p_4)+2))).getD ((b1.1.set t.toNat ((b1.1.getD t.toNat (0,0,false,0,0,0,0,0)).1,((b1.1.getD t.toNat (0,0,false,0,0,0,0,0)).2.1+1),(b1.1.getD t.toNat (0,0,false,0,0,0,0,0)).2.2)).getD t.toNat (0,0,false,0,0,0,0,0)).2.2.2.1.toNat (0,0,0,0,0,0)).2.2.2.2)))
  else
  f9 t p_3 p_4 b1 ((b1.1.set t.toNat ((b1.1.getD t.toNat (0,0,false,0,0,0,0,0)).1,((b1.1.getD t.toNat (0,0,false,0,0,0,0,0)).2.1+1),(b1.1.getD t.toNat (0,0,false,0,0,0,0,0)).2.2)),p_5,p_6,p_7,b1.2.1)
noncomputable def G3 (t:Int) (p:List (List (Int×Int×Int×Int))) (p_2:List (List Int)) (p_3:List Int) (p_4:Int) (p_5:Int) (p_6:Int) (p_7:Int) (p_8:List (Int×Int×Bool×Int×Int×Int×Int×Int)) (p_9:ZH) (p_10:List Int):Option ((List (Int×Int×Bool×Int×Int×Int×Int×Int))×Int×Int×Int×ZH×(List Int)) :=
  ck (0≤t) <| ck (t<(p_8.length:Int)) <| ck (InK .i64 (p_4+1)) <| if (!(p_8.getD t.toNat (0,0,false,0,0,0,0,0)).2.2.1)=true then
  ck (InK .i64 ((p_8.getD t.toNat (0,0,false,0,0,0,0,0)).1+1)) <| ck (0≤t) <| ck (t<(p_2.length:Int)) <| ck (InK .i64 (((p_8.set t.toNat (((p_8.getD t.toNat (0,0,false,0,0,0,0,0)).1+1),0,true,(p_9.length:Int),0,1,0,0)).getD t.toNat (0,0,false,0,0,0,0,0)).1 - 1)) <| ck (0≤(((p_8.set t.toNat (((p_8.getD t.toNat (0,0,false,0,0,0,0,0)).1+1),0,true,(p_9.length:Int),0,1,0,0)).getD t.toNat (0,0,false,0,0,0,0,0)).1 - 1)) <| ck ((((p_8.set t.toNat (((p_8.getD t.toNat (0,0,false,0,0,0,0,0)).1+1),0,true,(p_9.length:Int),0,1,0,0)).getD t.toNat (0,0,false,0,0,0,0,0)).1 - 1)<((p_2.getD t.toNat []).length:Int)) <| ck (InK .i64 (2*p_4)) <| ck (InK .i64 ((2*p_4)+1)) <| ck ((p_9.length+1)*48≤140737488355328) <| ck ((p_10.length+1)*8≤140737488355328) <| o7 t p p_3 p_4 p_5 p_6 p_7 ((p_8.set t.toNat (((p_8.getD t.toNat (0,0,false,0,0,0,0,0)).1+1),0,true,(p_9.length:Int),0,1,0,0)),(p_9++[(t,0,((p_2.getD t.toNat []).getD (((p_8.set t.toNat (((p_8.getD t.toNat (0,0,false,0,0,0,0,0)).1+1),0,true,(p_9.length:Int),0,1,0,0)).getD t.toNat (0,0,false,0,0,0,0,0)).1 - 1).toNat 0),0,((2*p_4)+1),0)]),(p_10++[(-1)]))
  else
  o7 t p p_3 p_4 p_5 p_6 p_7 (p_8,p_9,p_10)
/- lineal/linealref08.played -/
noncomputable def a21 (b1:(List (Int×Int×Bool×Int×Int×Int×Int×Int))×Int×Int×Int×Int×ZH×(List Int)):Option (Sum Unit ((List (Int×Int×Bool×Int×Int×Int×Int×Int))×Int×Int×Int×Int×ZH×(List Int))) :=
  some (Sum.inr b1)
noncomputable def m8 (c:List (List (Int×Int×Int×Int))) (use:List (List Int)) (schedule:List Int) (o9:List Int) (st1:(List (Int×Int×Bool×Int×Int×Int×Int×Int))×Int×Int×Int×Int×ZH×(List Int)×Int):Option (Step ((List (Int×Int×Bool×Int×Int×Int×Int×Int))×Int×Int×Int×Int×ZH×(List Int)×Int) (Sum Unit ((List (Int×Int×Bool×Int×Int×Int×Int×Int))×Int×Int×Int×Int×ZH×(List Int)))) :=
  if (decide (st1.2.2.2.2.2.2.2<(schedule.length:Int)))=true then
  ck (0≤st1.2.2.2.2.2.2.2) <| ck (st1.2.2.2.2.2.2.2<(schedule.length:Int)) <| ck (InK .i64 ((use.length:Int) - 1)) <| (l7 0 (schedule.getD st1.2.2.2.2.2.2.2.toNat 0) ((use.length:Int) - 1)).bind fun v0_2 =>
  if (!v0_2)=true then
  some (.done (Sum.inl ()))
  else
  ck (0≤st1.2.2.2.2.2.2.2) <| ck (st1.2.2.2.2.2.2.2<(schedule.length:Int)) <| (K4 (schedule.getD st1.2.2.2.2.2.2.2.toNat 0) c use o9 st1.2.1 st1.2.2.1 st1.2.2.2.1 st1.2.2.2.2.1 st1.1 st1.2.2.2.2.2.1 st1.2.2.2.2.2.2.1).bind fun v0_3 =>
  if (!v0_3)=true then
  some (.done (Sum.inl ()))
  else
  ck (0≤st1.2.2.2.2.2.2.2) <| ck (st1.2.2.2.2.2.2.2<(schedule.length:Int)) <| (G3 (schedule.getD st1.2.2.2.2.2.2.2.toNat 0) c use o9 st1.2.1 st1.2.2.1 st1.2.2.2.1 st1.2.2.2.2.1 st1.1 st1.2.2.2.2.2.1 st1.2.2.2.2.2.2.1).bind fun v0_4 =>
  ck (InK .i64 (st1.2.2.2.2.2.2.2+1)) <| some (.next (v0_4.1,(st1.2.1+1),v0_4.2.1,v0_4.2.2.1,v0_4.2.2.2.1,v0_4.2.2.2.2.1,v0_4.2.2.2.2.2,(st1.2.2.2.2.2.2.2+1)))
  else
  some (.done (Sum.inr (st1.1,st1.2.1,st1.2.2.1,st1.2.2.2.1,st1.2.2.2.2.1,st1.2.2.2.2.2.1,st1.2.2.2.2.2.2.1)))
noncomputable def K1 (c:List (List (Int×Int×Int×Int))) (use:List (List Int)) (schedule:List Int) (o9:List Int):Option (Sum Unit ((List (Int×Int×Bool×Int×Int×Int×Int×Int))×Int×Int×Int×Int×ZH×(List Int))) :=
  if (decide (12<(schedule.length:Int)))=true then
  some (Sum.inl ())
  else
  (a1B c use o9).bind fun v0 =>
  (j7 (m8 c use schedule o9) ((List.replicate use.length ((0,0,false,0,0,0,0,0):Int×Int×Bool×Int×Int×Int×Int×Int)),0,0,0,0,[],[],0)).bind fun x=>match x with
  | .inl _=>(some (Sum.inl ()))
  | .inr r1=>(a21 r1)
/- lineal/linealref08.run -/
noncomputable def a0M (c:List (List (Int×Int×Int×Int))) (use:List (List Int)) (schedule:List Int):Option (Sum Int ((List (Int×Int×Bool×Int×Int×Int×Int×Int))×Int×Int×Int×Int×ZH×(List Int))) :=
  (X9 c use).bind fun v0 =>
  if (!(decide (v0=0)))=true then
  some (Sum.inl v0)
  else
  (K1 c use schedule []).bind fun v0_2=>match v0_2 with
  | .inl v0_3=>(some (Sum.inl 2))
  | .inr v0_4=>(some (Sum.inr v0_4))
/- lineal/linealref08.Run -/
/- lineal/linealref02.Same -/
/- slices.Clone[[]int,int] -/
/- lineal/code.Cells -/
/- lineal/linealref08.Cells -/
/- (lineal/code.run).left -/
noncomputable def a0d (b1:(List Int)):Option ((List Int)) :=
  some b1
noncomputable def P8 (r0:((List (List (Int×Int×Int×Int)))×(List (List Int)))×(List Int)×(El T80)×(Int×Int×Int)×(El T85)×(El T86)×Int) (st1:(List Int)×Int):Option (Step ((List Int)×Int) ((List Int))) :=
  if (decide (st1.2<(r0.1.2.length:Int)))=true then
  (B6 r0 st1.2).bind fun v0 =>
  if v0=true then
  ck ((st1.1.length+1)*8≤140737488355328) <| ck (InK .i64 (st1.2+1)) <| some (.next ((st1.1++[st1.2]),(st1.2+1)))
  else
  ck (InK .i64 (st1.2+1)) <| some (.next (st1.1,(st1.2+1)))
  else
  some (.done st1.1)
noncomputable def E7 (r0:((List (List (Int×Int×Int×Int)))×(List (List Int)))×(List Int)×(El T80)×(Int×Int×Int)×(El T85)×(El T86)×Int):Option ((List Int)) :=
  (j7 (P8 r0) ([],0)).bind fun r1 =>
  a0d r1
/- lineal/code.Left -/
noncomputable def X3 (c:List (List (Int×Int×Int×Int))) (use:List (List Int)) (schedule:List Int):Option ((List Int)×Int) :=
  (Q2 c use schedule).bind fun v0 =>
  if (!(decide (v0.2.2.2.2.2.2.2.2.2.2=0)))=true then
  some ([],v0.2.2.2.2.2.2.2.2.2.2)
  else
  (E7 ((v0.1,v0.2.1),v0.2.2.1,v0.2.2.2.1,(v0.2.2.2.2.1,v0.2.2.2.2.2.1,v0.2.2.2.2.2.2.1),v0.2.2.2.2.2.2.2.1,v0.2.2.2.2.2.2.2.2.1,v0.2.2.2.2.2.2.2.2.2.1)).bind fun v0_2 =>
  some (v0_2,0)
/- lineal/linealref08.Left -/
/- lineal/linealref08.SameInts -/
/- lineal/lineallaw08.CodeRuns -/
/- lineal/linealref01.isTable -/
noncomputable def I0:Option Bool :=
  some true
noncomputable def H9 (st1:Int):Option (Step Int (Sum Unit Unit)) :=
  ck (InK .i64 (st1+1)) <| some (.next (st1+1))
noncomputable def C0 (l:List (List Int)) (limit:Int) (st1:Int) (st2:Int):Option (Step Int (Sum Unit Unit)) :=
  if (decide (st2<((l.getD st1.toNat []).length:Int)))=true then
  ck (0≤st2) <| ck (st2<((l.getD st1.toNat []).length:Int)) <| if (decide (((l.getD st1.toNat []).getD st2.toNat 0)<0))=true then
  some (.done (Sum.inl ()))
  else
  if (decide (limit≤((l.getD st1.toNat []).getD st2.toNat 0)))=true then
  some (.done (Sum.inl ()))
  else
  ck (InK .i64 (st2+1)) <| some (.next (st2+1))
  else
  some (.done (Sum.inr ()))
noncomputable def C2 (s:Int×Int×(List (List Int))×(List (List Int))) (l:List (List Int)) (limit:Int) (st1:Int):Option (Step Int (Sum Unit Unit)) :=
  if (decide (st1<(l.length:Int)))=true then
  ck (0≤st1) <| ck (st1<(l.length:Int)) <| if (!(decide (((l.getD st1.toNat []).length:Int)=s.2.1)))=true then
  some (.done (Sum.inl ()))
  else
  (j7 (C0 l limit st1) 0).bind fun x=>match x with
  | .inl _=>(some (.done (Sum.inl ())))
  | .inr _=>(H9 st1)
  else
  some (.done (Sum.inr ()))
noncomputable def D0 (s:Int×Int×(List (List Int))×(List (List Int))) (l:List (List Int)) (limit:Int):Option Bool :=
  if (!(decide ((l.length:Int)=s.1)))=true then
  some false
  else
  (j7 (C2 s l limit) 0).bind fun x=>match x with
  | .inl _=>(some false)
  | .inr _=>(I0)
/- lineal/linealref01.Valid -/
noncomputable def M7 (s:Int×Int×(List (List Int))×(List (List Int))):Option Bool :=
  if (decide (1≤s.1))=true then
  if (decide (s.1≤8))=true then
  if (decide (1≤s.2.1))=true then
  if (decide (s.2.1≤4))=true then
  (D0 s s.2.2.1 s.1).bind fun v0 =>
  if v0=true then
  (D0 s s.2.2.2 6).bind fun v0_2 =>
  some v0_2
  else
  some false
  else
  some false
  else
  some false
  else
  some false
  else
  some false
/- lineal/lineallaw08.IsCase -/
noncomputable def K5 (x0:(Int×Int×(List (List Int))×(List (List Int)))×(List (List (Int×Int×Int×Int)))×(List (List Int))):Option Bool :=
  (N0 x0).bind fun v0 =>
  if (!v0)=true then
  (G0 x0.2.1).bind fun v0_2 =>
  if v0_2=true then
  (M7 x0.1).bind fun v0_3 =>
  if v0_3=true then
  if (decide (x0.1.2.1=(x0.2.1.length:Int)))=true then
  (G4 x0.2.1 x0.2.2).bind fun v0_4 =>
  some v0_4
  else
  some false
  else
  some false
  else
  some false
  else
  some false
/- lineal/lineallaw08.schedule -/
noncomputable def G5 (x0:(Int×Int×(List (List Int))×(List (List Int)))×(List (List (Int×Int×Int×Int)))×(List (List Int))) (b2_2:(List Int)):Option ((List Int)×Bool×Bool) :=
  (X3 x0.2.1 x0.2.2 b2_2).bind fun v0_2 =>
  some (b2_2,(decide ((v0_2.1.length:Int)=0)),(decide (v0_2.2=0)))
noncomputable def u7 (x0:(Int×Int×(List (List Int))×(List (List Int)))×(List (List (Int×Int×Int×Int)))×(List (List Int))) (st1:(List Int)×Int) (b2:Int):Option (Step ((List Int)×Int) (Sum ((List Int)×Bool×Bool) ((List Int)))) :=
  if (decide (b2<0))=true then
  some (.done (Sum.inl ([],false,false)))
  else
  if (decide ((x0.2.2.length:Int)≤b2))=true then
  some (.done (Sum.inl ([],false,false)))
  else
  ck ((st1.1.length+1)*8≤140737488355328) <| ck (InK .i64 (st1.2+1)) <| some (.next ((st1.1++[b2]),(st1.2+1)))
noncomputable def i8 (x0:(Int×Int×(List (List Int))×(List (List Int)))×(List (List (Int×Int×Int×Int)))×(List (List Int))) (picks:List Int) (steps:Int) (st1:(List Int)×Int):Option (Step ((List Int)×Int) (Sum ((List Int)×Bool×Bool) ((List Int)))) :=
  if (decide (st1.2<steps))=true then
  (X3 x0.2.1 x0.2.2 st1.1).bind fun v0 =>
  if (!(decide (v0.2=0)))=true then
  some (.done (Sum.inl ([],false,false)))
  else
  if (decide ((v0.1.length:Int)=0))=true then
  some (.done (Sum.inl (st1.1,true,true)))
  else
  ck (0<(v0.1.length:Int)) <| if (decide (st1.2<(picks.length:Int)))=true then
  ck (0≤st1.2) <| ck (st1.2<(picks.length:Int)) <| ck (InK .i64 (picks.getD st1.2.toNat 0)) <| ck (0≤(picks.getD st1.2.toNat 0)) <| ck (0<(v0.1.length:Int)) <| ck (0≤((picks.getD st1.2.toNat 0) % (v0.1.length:Int))) <| ck (((picks.getD st1.2.toNat 0) % (v0.1.length:Int))<(v0.1.length:Int)) <| u7 x0 st1 (v0.1.getD ((picks.getD st1.2.toNat 0) % (v0.1.length:Int)).toNat 0)
  else
  u7 x0 st1 (v0.1.getD 0 0)
  else
  some (.done (Sum.inr st1.1))
noncomputable def F2 (x0:(Int×Int×(List (List Int))×(List (List Int)))×(List (List (Int×Int×Int×Int)))×(List (List Int))) (picks:List Int) (steps:Int):Option ((List Int)×Bool×Bool) :=
  (j7 (i8 x0 picks steps) ([],0)).bind fun x=>match x with
  | .inl r1=>(some r1)
  | .inr r1_2=>(G5 x0 r1_2)
/- lineal/history.within -/
noncomputable def y7 (n:Int) (least:Int) (most:Int):Option Bool :=
  if (decide (least≤n))=true then
  some (decide (n≤most))
  else
  some false
/- lineal/history.isCall -/
noncomputable def G8 (c:Int×Int×Int×Int×Int×Int) (b1:Bool) (b2:Bool):Option Bool :=
  (y7 c.1 0 3).bind fun v0 =>
  if v0=true then
  (y7 c.2.1 0 1).bind fun v0_2 =>
  if v0_2=true then
  (y7 c.2.2.1 0 3).bind fun v0_3 =>
  if v0_3=true then
  (y7 c.2.2.2.1 0 9).bind fun v0_4 =>
  if v0_4=true then
  (y7 c.2.2.2.2.1 1 100).bind fun v0_5 =>
  if v0_5=true then
  if b1=true then
  some true
  else
  some b2
  else
  some false
  else
  some false
  else
  some false
  else
  some false
  else
  some false
noncomputable def N6 (c:Int×Int×Int×Int×Int×Int) (b1:Bool):Option Bool :=
  if (decide (c.2.2.2.2.1<c.2.2.2.2.2))=true then
  G8 c b1 (decide (c.2.2.2.2.2≤100))
  else
  G8 c b1 false
noncomputable def S6 (c:Int×Int×Int×Int×Int×Int):Option Bool :=
  if (decide (c.2.2.2.2.2=0))=true then
  N6 c (decide (c.2.2.2.1=0))
  else
  N6 c false
/- lineal/history.before -/
noncomputable def K7 (a:Int×Int×Int×Int×Int×Int) (b:Int×Int×Int×Int×Int×Int):Option Bool :=
  if (!(decide (a.2.2.2.2.2=0)))=true then
  some (decide (a.2.2.2.2.2<b.2.2.2.2.1))
  else
  some false
/- lineal/history.apart -/
noncomputable def J0 (a:Int×Int×Int×Int×Int×Int) (b:Int×Int×Int×Int×Int×Int):Option Bool :=
  if (!(decide (a.1=b.1)))=true then
  some true
  else
  (K7 a b).bind fun v0 =>
  if v0=true then
  some true
  else
  (K7 b a).bind fun v0_2 =>
  some v0_2
noncomputable def V1 (a:Int×Int×Int×Int×Int×Int) (b:Int×Int×Int×Int×Int×Int):Option Bool :=
  if (decide (a.2.2.2.2.1=b.2.2.2.2.1))=true then
  some false
  else
  if (decide (a.2.2.2.2.1=b.2.2.2.2.2))=true then
  some false
  else
  if (decide (a.2.2.2.2.2=b.2.2.2.2.1))=true then
  some false
  else
  if (decide (a.2.2.2.2.2=b.2.2.2.2.2))=true then
  if (!(decide (a.2.2.2.2.2=0)))=true then
  some false
  else
  J0 a b
  else
  J0 a b
/- lineal/history.Valid -/
noncomputable def U0:Option Bool :=
  some true
noncomputable def T9 (st1:Int):Option (Step Int (Sum Unit Unit)) :=
  ck (InK .i64 (st1+1)) <| some (.next (st1+1))
noncomputable def J1 (h0:ZH) (st1:Int) (st2:Int):Option (Step Int (Sum Unit Unit)) :=
  if (decide (st2<((h0.take st1.toNat).length:Int)))=true then
  ck (0≤st2) <| ck (st2<((h0.take st1.toNat).length:Int)) <| (V1 (h0.getD st1.toNat (0,0,0,0,0,0)) ((h0.take st1.toNat).getD st2.toNat (0,0,0,0,0,0))).bind fun v0_2 =>
  if (!v0_2)=true then
  some (.done (Sum.inl ()))
  else
  ck (InK .i64 (st2+1)) <| some (.next (st2+1))
  else
  some (.done (Sum.inr ()))
noncomputable def J2 (h0:ZH) (st1:Int):Option (Step Int (Sum Unit Unit)) :=
  if (decide (st1<(h0.length:Int)))=true then
  ck (0≤st1) <| ck (st1<(h0.length:Int)) <| (S6 (h0.getD st1.toNat (0,0,0,0,0,0))).bind fun v0 =>
  if (!v0)=true then
  some (.done (Sum.inl ()))
  else
  ck (0≤st1) <| ck (st1≤(h0.length:Int)) <| (j7 (J1 h0 st1) 0).bind fun x=>match x with
  | .inl _=>(some (.done (Sum.inl ())))
  | .inr _=>(T9 st1)
  else
  some (.done (Sum.inr ()))
noncomputable def V2 (h0:ZH):Option Bool :=
  if (decide (8<(h0.length:Int)))=true then
  some false
  else
  (j7 (J2 h0) 0).bind fun x=>match x with
  | .inl _=>(some false)
  | .inr _=>(U0)
/- lineal/history.check -/
/- lineal/history.Until$1$1 -/
/- lineal/history.those -/
/- lineal/history.Until$1 -/
/- lineal/history.told[[]lineal/api.Call] -/
/- lineal/history.Until -/
/- lineal/history.By$1$1 -/
/- lineal/history.those -/
/- lineal/history.By$1 -/
/- lineal/history.told[[]lineal/api.Call] -/
/- lineal/history.By -/
/- lineal/lineallaw08.CodeBegins -/
/- (lineal/spec.machine).isState -/
noncomputable def E9 (m:Int×Int×(List (List Int))×(List (List Int))) (n:Int):Option Bool :=
  if (decide (0≤n))=true then
  some (decide (n<m.1))
  else
  some false
/- lineal/spec.all -/
noncomputable def a1v:Option Bool :=
  some true
noncomputable def a0s (is0:Int×Int×(List (List Int))×(List (List Int))) (numbers:List Int) (st1:Int):Option (Step Int (Sum Unit Unit)) :=
  if (decide (st1<(numbers.length:Int)))=true then
  ck (0≤st1) <| ck (st1<(numbers.length:Int)) <| (E9 is0 (numbers.getD st1.toNat 0)).bind fun v0 =>
  if (!v0)=true then
  some (.done (Sum.inl ()))
  else
  ck (InK .i64 (st1+1)) <| some (.next (st1+1))
  else
  some (.done (Sum.inr ()))
noncomputable def a3g (is0:Int×Int×(List (List Int))×(List (List Int))) (numbers:List Int):Option Bool :=
  (j7 (a0s is0 numbers) 0).bind fun x=>match x with
  | .inl _=>(some false)
  | .inr _=>(a1v)
/- (lineal/spec.machine).isTable -/
noncomputable def F7:Option Bool :=
  some true
noncomputable def z7 (m:Int×Int×(List (List Int))×(List (List Int))) (table:List (List Int)) (is0:Int×Int×(List (List Int))×(List (List Int))) (st1:Int):Option (Step Int (Sum Unit Unit)) :=
  if (decide (st1<(table.length:Int)))=true then
  ck (0≤st1) <| ck (st1<(table.length:Int)) <| if (!(decide (((table.getD st1.toNat []).length:Int)=m.2.1)))=true then
  some (.done (Sum.inl ()))
  else
  (a3g is0 (table.getD st1.toNat [])).bind fun v0 =>
  if (!v0)=true then
  some (.done (Sum.inl ()))
  else
  ck (InK .i64 (st1+1)) <| some (.next (st1+1))
  else
  some (.done (Sum.inr ()))
noncomputable def E8 (m:Int×Int×(List (List Int))×(List (List Int))) (table:List (List Int)) (is0:Int×Int×(List (List Int))×(List (List Int))):Option Bool :=
  if (!(decide ((table.length:Int)=m.1)))=true then
  some false
  else
  (j7 (z7 m table is0) 0).bind fun x=>match x with
  | .inl _=>(some false)
  | .inr _=>(F7)
/- lineal/spec.isAnswer -/
noncomputable def U7 (n:Int):Option Bool :=
  if (decide (0≤n))=true then
  some (decide (n≤5))
  else
  some false
/- lineal/spec.all -/
noncomputable def a0l:Option Bool :=
  some true
noncomputable def U8 (numbers:List Int) (st1:Int):Option (Step Int (Sum Unit Unit)) :=
  if (decide (st1<(numbers.length:Int)))=true then
  ck (0≤st1) <| ck (st1<(numbers.length:Int)) <| (U7 (numbers.getD st1.toNat 0)).bind fun v0 =>
  if (!v0)=true then
  some (.done (Sum.inl ()))
  else
  ck (InK .i64 (st1+1)) <| some (.next (st1+1))
  else
  some (.done (Sum.inr ()))
noncomputable def a03 (numbers:List Int):Option Bool :=
  (j7 (U8 numbers) 0).bind fun x=>match x with
  | .inl _=>(some false)
  | .inr _=>(a0l)
/- (lineal/spec.machine).isTable -/
noncomputable def D5:Option Bool :=
  some true
noncomputable def v8 (m:Int×Int×(List (List Int))×(List (List Int))) (table:List (List Int)) (st1:Int):Option (Step Int (Sum Unit Unit)) :=
  if (decide (st1<(table.length:Int)))=true then
  ck (0≤st1) <| ck (st1<(table.length:Int)) <| if (!(decide (((table.getD st1.toNat []).length:Int)=m.2.1)))=true then
  some (.done (Sum.inl ()))
  else
  (a03 (table.getD st1.toNat [])).bind fun v0 =>
  if (!v0)=true then
  some (.done (Sum.inl ()))
  else
  ck (InK .i64 (st1+1)) <| some (.next (st1+1))
  else
  some (.done (Sum.inr ()))
noncomputable def B8 (m:Int×Int×(List (List Int))×(List (List Int))) (table:List (List Int)):Option Bool :=
  if (!(decide ((table.length:Int)=m.1)))=true then
  some false
  else
  (j7 (v8 m table) 0).bind fun x=>match x with
  | .inl _=>(some false)
  | .inr _=>(D5)
/- lineal/spec.Valid -/
noncomputable def a0a (s:Int×Int×(List (List Int))×(List (List Int))):Option Bool :=
  if (decide (s.1<1))=true then
  some false
  else
  if (decide (8<s.1))=true then
  some false
  else
  if (decide (s.2.1<1))=true then
  some false
  else
  if (decide (4<s.2.1))=true then
  some false
  else
  (E8 s s.2.2.1 s).bind fun v0 =>
  if v0=true then
  (B8 s s.2.2.2).bind fun v0_2 =>
  some v0_2
  else
  some false
/- lineal/code.checkSpec -/
noncomputable def P9 (s:Int×Int×(List (List Int))×(List (List Int))) (c:List (List (Int×Int×Int×Int))):Option Int :=
  (a0e c).bind fun v0 =>
  if (!v0)=true then
  some 80
  else
  (a0a s).bind fun v0_2 =>
  if (!v0_2)=true then
  some 10
  else
  if (!(decide (s.2.1=(c.length:Int))))=true then
  some 10
  else
  some 0
/- lineal/spec.checked -/
/- (lineal/spec.machine).isCall -/
/- lineal/spec.all -/
/- (lineal/spec.machine).isWord -/
/- (lineal/spec.machine).run -/
noncomputable def b0N (m:Int×Int×(List (List Int))×(List (List Int))) (word:List Int) (st1:(List Int)×Int×Int):Option (Step ((List Int)×Int×Int) ((List Int)×Int)) :=
  if (decide (st1.2.2<(word.length:Int)))=true then
  ck (0≤st1.2.2) <| ck (st1.2.2<(word.length:Int)) <| ck (0≤st1.2.1) <| ck (st1.2.1<(m.2.2.2.length:Int)) <| ck (0≤(word.getD st1.2.2.toNat 0)) <| ck ((word.getD st1.2.2.toNat 0)<((m.2.2.2.getD st1.2.1.toNat []).length:Int)) <| ck ((st1.1.length+1)*8≤140737488355328) <| ck (0≤st1.2.1) <| ck (st1.2.1<(m.2.2.1.length:Int)) <| ck (0≤(word.getD st1.2.2.toNat 0)) <| ck ((word.getD st1.2.2.toNat 0)<((m.2.2.1.getD st1.2.1.toNat []).length:Int)) <| ck (InK .i64 (st1.2.2+1)) <| some (.next ((st1.1++[((m.2.2.2.getD st1.2.1.toNat []).getD (word.getD st1.2.2.toNat 0).toNat 0)]),((m.2.2.1.getD st1.2.1.toNat []).getD (word.getD st1.2.2.toNat 0).toNat 0),(st1.2.2+1)))
  else
  some (.done (st1.1,st1.2.1))
/- lineal/spec.Run -/
/- (lineal/code.program).runs -/
noncomputable def Z3 (p:(List (List (Int×Int×Int×Int)))×(List (List Int))) (steps:Int):Option Unit :=
  some ()
/- (lineal/code.run).isOver -/
/- slices.Equal[[]int,int] -/
/- slices.Backward[[]int,int] -/
noncomputable def V8 (s:List Int):Option Unit :=
  some ()
/- slices.Backward[[]int,int]$1 -/
noncomputable def p4 (S R:Type) (a1:List Int) (yl:Int×Int→S→Option (Step S R)) (st1:Int×S):Option (Step (Int×S) (Sum R S)) :=
  if (decide (0≤st1.1))=true then
  ck (0≤st1.1) <| ck (st1.1<(a1.length:Int)) <| (yl (st1.1,(a1.getD st1.1.toNat 0)) st1.2).bind fun x=>match x with
  | .next s=>(ck (InK .i64 (st1.1 - 1)) <| some (.next ((st1.1 - 1),s)))
  | .done e=>(some (.done (Sum.inl e)))
  else
  some (.done (Sum.inr st1.2))
noncomputable def w8 (S R:Type) (a1:List Int) (yl:Int×Int→S→Option (Step S R)) (s0:S):Option (Sum S R) :=
  ck (InK .i64 ((a1.length:Int) - 1)) <| (j7 (p4 S R a1 yl) (((a1.length:Int) - 1),s0)).bind fun x=>match x with
  | .inl r1=>(some (Sum.inr r1))
  | .inr r1_2=>(some (Sum.inl r1_2))
/- (lineal/code.program).runs$1 -/
noncomputable def v7 (S R:Type) (b1:(List (((List (List (Int×Int×Int×Int)))×(List (List Int)))×(List Int)×(El T80)×(Int×Int×Int)×(El T85)×(El T86)×Int))×S):Option (Step ((List (((List (List (Int×Int×Int×Int)))×(List (List Int)))×(List Int)×(El T80)×(Int×Int×Int)×(El T85)×(El T86)×Int))×S) (Sum R S)) :=
  some (.next b1)
noncomputable def i7 (S R:Type) (st1:(List (((List (List (Int×Int×Int×Int)))×(List (List Int)))×(List Int)×(El T80)×(Int×Int×Int)×(El T85)×(El T86)×Int))×S) (y2:Int×Int) (st2:(List (((List (List (Int×Int×Int×Int)))×(List (List Int)))×(List Int)×(El T80)×(Int×Int×Int)×(El T85)×(El T86)×Int))):Option (Step ((List (((List (List (Int×Int×Int×Int)))×(List (List Int)))×(List Int)×(El T80)×(Int×Int×Int)×(El T85)×(El T86)×Int))) Empty) :=
  (O0 (st1.1.getD ((st1.1.length:Int) - 1).toNat (([],[]),[],(Ty.dflt T80),(0,0,0),(Ty.dflt T85),(Ty.dflt T86),0)) y2.2).bind fun v0_3 =>
  ck ((st2.length+1)*712≤140737488355328) <| some (.next (st2++[((st1.1.getD ((st1.1.length:Int) - 1).toNat (([],[]),[],(Ty.dflt T80),(0,0,0),(Ty.dflt T85),(Ty.dflt T86),0)).1,(((st1.1.getD ((st1.1.length:Int) - 1).toNat (([],[]),[],(Ty.dflt T80),(0,0,0),(Ty.dflt T85),(Ty.dflt T86),0)).2.1.take (st1.1.getD ((st1.1.length:Int) - 1).toNat (([],[]),[],(Ty.dflt T80),(0,0,0),(Ty.dflt T85),(Ty.dflt T86),0)).2.1.length)++[y2.2]),v0_3.1,(v0_3.2.1,v0_3.2.2.1,v0_3.2.2.2.1),v0_3.2.2.2.2)]))
noncomputable def j9 (S R:Type) (a2:Int) (yl:(((List (List (Int×Int×Int×Int)))×(List (List Int)))×(List Int)×(El T80)×(Int×Int×Int)×(El T85)×(El T86)×Int)→S→Option (Step S R)) (st1:(List (((List (List (Int×Int×Int×Int)))×(List (List Int)))×(List Int)×(El T80)×(Int×Int×Int)×(El T85)×(El T86)×Int))×S):Option (Step ((List (((List (List (Int×Int×Int×Int)))×(List (List Int)))×(List Int)×(El T80)×(Int×Int×Int)×(El T85)×(El T86)×Int))×S) (Sum R S)) :=
  if (decide (0<(st1.1.length:Int)))=true then
  ck (InK .i64 ((st1.1.length:Int) - 1)) <| ck (0≤((st1.1.length:Int) - 1)) <| ck (((st1.1.length:Int) - 1)<(st1.1.length:Int)) <| ck (InK .i64 ((st1.1.length:Int) - 1)) <| ck (0≤((st1.1.length:Int) - 1)) <| ck (((st1.1.length:Int) - 1)≤(st1.1.length:Int)) <| (E7 (st1.1.getD ((st1.1.length:Int) - 1).toNat (([],[]),[],(Ty.dflt T80),(0,0,0),(Ty.dflt T85),(Ty.dflt T86),0))).bind fun v0 =>
  if (decide ((v0.length:Int)=0))=true then
  (yl (st1.1.getD ((st1.1.length:Int) - 1).toNat (([],[]),[],(Ty.dflt T80),(0,0,0),(Ty.dflt T85),(Ty.dflt T86),0)) st1.2).bind fun x=>match x with
  | .next s=>(v7 S R ((st1.1.take ((st1.1.length:Int) - 1).toNat),s))
  | .done e=>(some (.done (Sum.inl e)))
  else
  if (decide (((st1.1.getD ((st1.1.length:Int) - 1).toNat (([],[]),[],(Ty.dflt T80),(0,0,0),(Ty.dflt T85),(Ty.dflt T86),0)).2.1.length:Int)=a2))=true then
  (yl (st1.1.getD ((st1.1.length:Int) - 1).toNat (([],[]),[],(Ty.dflt T80),(0,0,0),(Ty.dflt T85),(Ty.dflt T86),0)) st1.2).bind fun x=>match x with
  | .next s_2=>(v7 S R ((st1.1.take ((st1.1.length:Int) - 1).toNat),s_2))
  | .done e_2=>(some (.done (Sum.inl e_2)))
  else
  (V8 v0).bind fun v0_2 =>
  (w8 ((List (((List (List (Int×Int×Int×Int)))×(List (List Int)))×(List Int)×(El T80)×(Int×Int×Int)×(El T85)×(El T86)×Int))) Empty v0 (i7 S R st1) (st1.1.take ((st1.1.length:Int) - 1).toNat)).bind fun x=>match x with
  | .inl st2_2=>(v7 S R (st2_2,st1.2))
  | .inr r=>r.elim
  else
  some (.done (Sum.inr st1.2))
noncomputable def H6 (S R:Type) (a1:(List (List (Int×Int×Int×Int)))×(List (List Int))) (a2:Int) (yl:(((List (List (Int×Int×Int×Int)))×(List (List Int)))×(List Int)×(El T80)×(Int×Int×Int)×(El T85)×(El T86)×Int)→S→Option (Step S R)) (s0:S):Option (Sum S R) :=
  (j7 (j9 S R a2 yl) ([(a1,[],(Ty.dflt T80),(0,0,0),(Ty.dflt T85),(Ty.dflt T86),0)],s0)).bind fun x=>match x with
  | .inl r1=>(some (Sum.inr r1))
  | .inr r1_2=>(some (Sum.inl r1_2))
/- lineal/code.Follows -/
/- lineal/linealref08.isSpec -/
/- (*lineal/linealref08.Play).Over -/
/- (*lineal/linealref08.Play).Over -/
/- lineal/linealref08.Follows -/
/- slices.Clone[[]lineal/api.Line,lineal/api.Line] -/
/- lineal/code.exchanged$1 -/
/- lineal/code.exchanged -/
/- lineal/code.Swapped -/
/- lineal/linealref08.other -/
/- lineal/linealref08.Swapped -/
/- lineal/linealref08.SameCode -/
/- lineal/lineallaw08.CodeFollows -/
/- lineal/code.runsOf -/
noncomputable def T1 (c:List (List (Int×Int×Int×Int))) (use:List (List Int)) (steps:Int):Option (Sum Int Unit) :=
  (R0 c use).bind fun v0 =>
  if (!(decide (v0=0)))=true then
  some (Sum.inl v0)
  else
  (C7 steps 13).bind fun v0_2 =>
  if (!v0_2)=true then
  some (Sum.inl 2)
  else
  (Z3 (c,use) steps).bind fun v0_3 =>
  some (Sum.inr ())
/- cmp.isNaN[int] -/
/- cmp.Compare[int] -/
/- cmp.Or[int] -/
/- lineal/code.compareCalls -/
/- slices.CompareFunc[[]lineal/api.Call,[]lineal/api.Call,lineal/api.Call,lineal/api.Call] -/
/- lineal/code.compareHistories -/
/- slices.insertionSortCmpFunc[[]lineal/api.Call] -/
/- slices.pdqsortCmpFunc[[]lineal/api.Call] -/
/- slices.SortFunc[[][]lineal/api.Call,[]lineal/api.Call] -/
/- slices.Equal[[]lineal/api.Call,lineal/api.Call] -/
/- slices.CompactFunc[[][]lineal/api.Call,[]lineal/api.Call] -/
/- lineal/code.Histories -/
/- lineal/linealref08.SameHistories -/
/- lineal/code.Schedules -/
/- lineal/lineallaw08.CodeTurns -/
/- lineal/history.checkSpecs -/
noncomputable def R5:Option Int :=
  some 0
noncomputable def y6 (specs:ZS) (st1:Int):Option (Step Int (Sum Unit Unit)) :=
  if (decide (st1<(specs.length:Int)))=true then
  ck (0≤st1) <| ck (st1<(specs.length:Int)) <| (a0a (specs.getD st1.toNat (0,0,[],[]))).bind fun v0_2 =>
  if (!v0_2)=true then
  some (.done (Sum.inl ()))
  else
  ck (InK .i64 (st1+1)) <| some (.next (st1+1))
  else
  some (.done (Sum.inr ()))
noncomputable def K6 (specs:ZS):Option Int :=
  (y7 (specs.length:Int) 1 2).bind fun v0 =>
  if (!v0)=true then
  some 10
  else
  (j7 (y6 specs) 0).bind fun x=>match x with
  | .inl _=>(some 10)
  | .inr _=>(R5)
/- lineal/history.fits -/
noncomputable def a0N:Option Bool :=
  some true
noncomputable def M0 (specs:ZS) (h0:ZH) (st1:Int):Option (Step Int (Sum Unit Unit)) :=
  if (decide (st1<(h0.length:Int)))=true then
  ck (0≤st1) <| ck (st1<(h0.length:Int)) <| if (decide ((specs.length:Int)≤(h0.getD st1.toNat (0,0,0,0,0,0)).2.1))=true then
  some (.done (Sum.inl ()))
  else
  ck (0≤(h0.getD st1.toNat (0,0,0,0,0,0)).2.1) <| ck ((h0.getD st1.toNat (0,0,0,0,0,0)).2.1<(specs.length:Int)) <| if (decide ((specs.getD (h0.getD st1.toNat (0,0,0,0,0,0)).2.1.toNat (0,0,[],[])).2.1≤(h0.getD st1.toNat (0,0,0,0,0,0)).2.2.1))=true then
  some (.done (Sum.inl ()))
  else
  ck (InK .i64 (st1+1)) <| some (.next (st1+1))
  else
  some (.done (Sum.inr ()))
noncomputable def Y9 (specs:ZS) (h0:ZH):Option Bool :=
  (j7 (M0 specs h0) 0).bind fun x=>match x with
  | .inl _=>(some false)
  | .inr _=>(a0N)
/- lineal/history.checkFor -/
noncomputable def P6 (specs:ZS) (h0:ZH):Option Int :=
  (K6 specs).bind fun v0 =>
  if (!(decide (v0=0)))=true then
  some v0
  else
  (V2 h0).bind fun v0_2 =>
  if (!v0_2)=true then
  some 20
  else
  (Y9 specs h0).bind fun v0_3 =>
  if (!v0_3)=true then
  some 20
  else
  some 0
/- lineal/history.newSearch -/
noncomputable def R8 (specs:ZS) (h0:ZH):Option Unit :=
  some ()
/- (lineal/history.place).has -/
noncomputable def C5 (p:(Int×Int)×Int) (call:Int):Option Unit :=
  ck (0≤call) <| some ()
/- (lineal/history.search).full -/
noncomputable def Q6:Option Bool :=
  some true
noncomputable def v6 (s_2:ZH) (at0:(Int×Int)×Int) (st1:Int):Option (Step Int (Sum Unit Unit)) :=
  if (decide (st1<(s_2.length:Int)))=true then
  ck (0≤st1) <| ck (st1<(s_2.length:Int)) <| if (!(decide ((s_2.getD st1.toNat (0,0,0,0,0,0)).2.2.2.2.2=0)))=true then
  (C5 at0 st1).bind fun v0 =>
  if (!(!(decide ((a4v .u64 at0.2 (a1O .u64 1 st1))=0))))=true then
  some (.done (Sum.inl ()))
  else
  ck (InK .i64 (st1+1)) <| some (.next (st1+1))
  else
  ck (InK .i64 (st1+1)) <| some (.next (st1+1))
  else
  some (.done (Sum.inr ()))
noncomputable def H5 (s:ZS) (s_2:ZH) (at0:(Int×Int)×Int):Option Bool :=
  (j7 (v6 s_2 at0) 0).bind fun x=>match x with
  | .inl _=>(some false)
  | .inr _=>(Q6)
/- (lineal/history.search).steps -/
noncomputable def N5 (s:ZS) (s_2:ZH) (at0:(Int×Int)×Int):Option Unit :=
  some ()
/- lineal/history.inTime -/
noncomputable def S7 (a:Int×Int×Int×Int×Int×Int) (b:Int×Int×Int×Int×Int×Int):Option Bool :=
  (K7 b a).bind fun v0 =>
  some v0
/- (lineal/history.search).ready -/
noncomputable def P5:Option Bool :=
  some true
noncomputable def u9 (s_2:ZH) (at0:(Int×Int)×Int) (call:Int) (st1:Int):Option (Step Int (Sum Unit Unit)) :=
  if (decide (st1<(s_2.length:Int)))=true then
  ck (0≤st1) <| ck (st1<(s_2.length:Int)) <| ck (0≤call) <| ck (call<(s_2.length:Int)) <| (S7 (s_2.getD call.toNat (0,0,0,0,0,0)) (s_2.getD st1.toNat (0,0,0,0,0,0))).bind fun v0_2 =>
  if v0_2=true then
  (C5 at0 st1).bind fun v0_3 =>
  if (!(!(decide ((a4v .u64 at0.2 (a1O .u64 1 st1))=0))))=true then
  some (.done (Sum.inl ()))
  else
  ck (InK .i64 (st1+1)) <| some (.next (st1+1))
  else
  ck (InK .i64 (st1+1)) <| some (.next (st1+1))
  else
  some (.done (Sum.inr ()))
noncomputable def F4 (s:ZS) (s_2:ZH) (at0:(Int×Int)×Int) (call:Int):Option Bool :=
  (C5 at0 call).bind fun v0 =>
  if (!(decide ((a4v .u64 at0.2 (a1O .u64 1 call))=0)))=true then
  some false
  else
  (j7 (u9 s_2 at0 call) 0).bind fun x=>match x with
  | .inl _=>(some false)
  | .inr _=>(P5)
/- (*lineal/history.states).answer -/
noncomputable def t5 (c:Int×Int×Int×Int×Int×Int) (b1:Int×Int×Int×(List (List Int))×(List (List Int))×Int) (b2:Int×Int×Int):Option (Int×Int×Int) :=
  ck (0≤b1.2.2.2.2.2) <| ck (b1.2.2.2.2.2<(b1.2.2.2.2.1.length:Int)) <| ck (0≤c.2.2.1) <| ck (c.2.2.1<((b1.2.2.2.2.1.getD b1.2.2.2.2.2.toNat []).length:Int)) <| some (((b1.2.2.2.2.1.getD b1.2.2.2.2.2.toNat []).getD c.2.2.1.toNat 0),b2.2)
noncomputable def t6 (c:Int×Int×Int×Int×Int×Int) (s:(Int×Int)×Int) (b1:Int×Int×Int×(List (List Int))×(List (List Int))×Int):Option (Int×Int×Int) :=
  ck (0≤b1.2.2.2.2.2) <| ck (b1.2.2.2.2.2<(b1.2.2.2.1.length:Int)) <| ck (0≤c.2.2.1) <| ck (c.2.2.1<((b1.2.2.2.1.getD b1.2.2.2.2.2.toNat []).length:Int)) <| ck (0≤b1.1) <| ck (b1.1<2) <| if (decide (b1.1=0))=true then
  t5 c b1 (0,((b1.2.2.2.1.getD b1.2.2.2.2.2.toNat []).getD c.2.2.1.toNat 0),s.1.2)
  else
  t5 c b1 (1,s.1.1,((b1.2.2.2.1.getD b1.2.2.2.2.2.toNat []).getD c.2.2.1.toNat 0))
noncomputable def D7 (specs:ZS) (c:Int×Int×Int×Int×Int×Int) (s:(Int×Int)×Int):Option (Int×Int×Int) :=
  ck (0≤c.2.1) <| ck (c.2.1<(specs.length:Int)) <| ck (0≤c.2.1) <| ck (c.2.1<2) <| if (decide (c.2.1=0))=true then
  t6 c s (0,(specs.getD 0 (0,0,[],[])).1,(specs.getD 0 (0,0,[],[])).2.1,(specs.getD 0 (0,0,[],[])).2.2.1,(specs.getD 0 (0,0,[],[])).2.2.2,s.1.1)
  else
  t6 c s (1,(specs.getD 1 (0,0,[],[])).1,(specs.getD 1 (0,0,[],[])).2.1,(specs.getD 1 (0,0,[],[])).2.2.1,(specs.getD 1 (0,0,[],[])).2.2.2,s.1.2)
/- (*lineal/history.states).allow -/
noncomputable def F3 (specs:ZS) (c:Int×Int×Int×Int×Int×Int) (s:(Int×Int)×Int):Option (Bool×Int×Int) :=
  (D7 specs c s).bind fun v0 =>
  if (decide (c.2.2.2.2.2=0))=true then
  some (true,v0.2)
  else
  some ((decide (v0.1=c.2.2.2.1)),v0.2)
/- (lineal/history.search).steps$1 -/
noncomputable def s6 (S R:Type) (a1:ZS) (a1_2:ZH) (a2:(Int×Int)×Int) (yl:Int×((Int×Int)×Int)→S→Option (Step S R)) (st1:Int×S):Option (Step (Int×S) (Sum R S)) :=
  if (decide (st1.1<(a1_2.length:Int)))=true then
  ck (0≤st1.1) <| ck (st1.1<(a1_2.length:Int)) <| (F4 a1 a1_2 a2 st1.1).bind fun v0 =>
  if (!v0)=true then
  ck (InK .i64 (st1.1+1)) <| some (.next ((st1.1+1),st1.2))
  else
  (F3 a1 (a1_2.getD st1.1.toNat (0,0,0,0,0,0)) a2).bind fun v0_2 =>
  if (!v0_2.1)=true then
  ck (InK .i64 (st1.1+1)) <| some (.next ((st1.1+1),st1.2))
  else
  ck (0≤st1.1) <| (yl (st1.1,v0_2.2,(ior .u64 a2.2 (a1O .u64 1 st1.1))) st1.2).bind fun x=>match x with
  | .next s=>(ck (InK .i64 (st1.1+1)) <| some (.next ((st1.1+1),s)))
  | .done e=>(some (.done (Sum.inl e)))
  else
  some (.done (Sum.inr st1.2))
noncomputable def C4 (S R:Type) (a1:ZS) (a1_2:ZH) (a2:(Int×Int)×Int) (yl:Int×((Int×Int)×Int)→S→Option (Step S R)) (s0:S):Option (Sum S R) :=
  (j7 (s6 S R a1 a1_2 a2 yl) (0,s0)).bind fun x=>match x with
  | .inl r1=>(some (Sum.inr r1))
  | .inr r1_2=>(some (Sum.inl r1_2))
/- (lineal/history.search).count -/
noncomputable def G7 (at0:(Int×Int)×Int) (b2:ZM×Int):Option (Int×ZM) :=
  ck (InK .i64 at0.1.1) <| ck (InK .i64 at0.1.2) <| ck (InK .u64 at0.2) <| some (b2.2,(a0L b2.1 at0 b2.2))
noncomputable def r5 (slf:ZS→ZH→((Int×Int)×Int)→ZM→Option (Int×ZM)) (s:ZS) (s_2:ZH) (y1:Int×((Int×Int)×Int)) (st1:ZM×Int):Option (Step (ZM×Int) Empty) :=
  (slf s s_2 y1.2 st1.1).bind fun v0_3 =>
  ck (InK .i64 (st1.2+v0_3.1)) <| some (.next (v0_3.2,(st1.2+v0_3.1)))
noncomputable def v5 (slf:ZS→ZH→((Int×Int)×Int)→ZM→Option (Int×ZM)) (s:ZS) (s_2:ZH) (at0:(Int×Int)×Int) (s_3:ZM) (b1:Int):Option (Int×ZM) :=
  (N5 s s_2 at0).bind fun v0_2 =>
  (C4 (ZM×Int) Empty s s_2 at0 (r5 slf s s_2) (s_3,b1)).bind fun x=>match x with
  | .inl st1_2=>(G7 at0 st1_2)
  | .inr r=>r.elim
noncomputable def D8 (slf:ZS→ZH→((Int×Int)×Int)→ZM→Option (Int×ZM)) (s:ZS) (s_2:ZH) (at0:(Int×Int)×Int) (s_3:ZM):Option (Int×ZM) :=
  ck (InK .i64 at0.1.1) <| ck (InK .i64 at0.1.2) <| ck (InK .u64 at0.2) <| if (a1L s_3 at0)=true then
  some ((a2a 0 s_3 at0),s_3)
  else
  (H5 s s_2 at0).bind fun v0 =>
  if v0=true then
  v5 slf s s_2 at0 s_3 1
  else
  v5 slf s s_2 at0 s_3 0
noncomputable def s4 (n:Nat):ZS→ZH→((Int×Int)×Int)→ZM→Option (Int×ZM):=Nat.rec (motive:=fun _=>ZS→ZH→((Int×Int)×Int)→ZM→Option (Int×ZM)) (fun _ _ _ _=>none) (fun _ slf=>D8 slf) n
/- lineal/history.Linear$1 -/
noncomputable def U1 (a0:ZS) (a1:ZH):Option Bool :=
  (R8 a0 a1).bind fun v0 =>
  (s4 H4 a0 a1 ((0,0),0) []).bind fun v0_2 =>
  some (decide (0<v0_2.1))
/- lineal/history.told[bool] -/
noncomputable def Y8 (c0:ZS) (c1:ZH):Option Bool :=
  (U1 c0 c1).bind fun v0 =>
  some v0
/- lineal/history.told[bool] -/
noncomputable def a1c (err:Int) (c0:ZS) (c1:ZH):Option Unit :=
  some ()
/- lineal/history.Linear -/
noncomputable def K8 (specs:ZS) (h0:ZH):Option (Bool×Int) :=
  (P6 specs h0).bind fun v0 =>
  if (decide (v0=0))=true then
  (Y8 specs h0).bind fun v0_2 =>
  some (v0_2,0)
  else
  (a1c v0 specs h0).bind fun v0_3 =>
  some (false,v0)
/- (lineal/code.run).breaks -/
noncomputable def M1 (r0:((List (List (Int×Int×Int×Int)))×(List (List Int)))×(List Int)×(El T80)×(Int×Int×Int)×(El T85)×(El T86)×Int) (s:Int×Int×(List (List Int))×(List (List Int))):Option Bool :=
  (J3 r0).bind fun v0 =>
  (K8 [s] v0).bind fun v0_2 =>
  some (!v0_2.1)
/- lineal/code.Break -/
noncomputable def a1W:Option ((List Int)×Int) :=
  some ([],5)
noncomputable def O1 (s:Int×Int×(List (List Int))×(List (List Int))) (y1:(((List (List (Int×Int×Int×Int)))×(List (List Int)))×(List Int)×(El T80)×(Int×Int×Int)×(El T85)×(El T86)×Int)) (st1:Unit):Option (Step Unit ((List Int))) :=
  (M1 y1 s).bind fun v0_5 =>
  if v0_5=true then
  some (.done y1.2.1)
  else
  some (.next ())
noncomputable def a0g (s:Int×Int×(List (List Int))×(List (List Int))) (c:List (List (Int×Int×Int×Int))) (use:List (List Int)) (steps:Int):Option ((List Int)×Int) :=
  (P9 s c).bind fun v0 =>
  if (!(decide (v0=0)))=true then
  some ([],v0)
  else
  (T1 c use steps).bind fun v0_2=>match v0_2 with
  | .inl v0_3=>(if (!(decide (v0_3=0)))=true then
  some ([],v0_3)
  else
  none)
  | .inr v0_4=>((H6 Unit ((List Int)) (c,use) steps (O1 s) ()).bind fun x=>match x with
  | .inl st1_2=>(a1W)
  | .inr r1=>(some (r1,0)))
/- lineal/code.Sound -/
noncomputable def a0f (s:Int×Int×(List (List Int))×(List (List Int))) (c:List (List (Int×Int×Int×Int))) (use:List (List Int)) (steps:Int):Option (Bool×Int) :=
  (a0g s c use steps).bind fun v0 =>
  if (decide (v0.2=5))=true then
  some (true,0)
  else
  some (false,v0.2)
/- lineal/code.Breaks -/
noncomputable def Q3 (s:Int×Int×(List (List Int))×(List (List Int))) (c:List (List (Int×Int×Int×Int))) (use:List (List Int)) (schedule:List Int):Option (Bool×Int) :=
  (P9 s c).bind fun v0 =>
  if (!(decide (v0=0)))=true then
  some (false,v0)
  else
  (Q2 c use schedule).bind fun v0_2 =>
  if (!(decide (v0_2.2.2.2.2.2.2.2.2.2.2=0)))=true then
  some (false,v0_2.2.2.2.2.2.2.2.2.2.2)
  else
  (M1 ((v0_2.1,v0_2.2.1),v0_2.2.2.1,v0_2.2.2.2.1,(v0_2.2.2.2.2.1,v0_2.2.2.2.2.2.1,v0_2.2.2.2.2.2.2.1),v0_2.2.2.2.2.2.2.2.1,v0_2.2.2.2.2.2.2.2.2.1,v0_2.2.2.2.2.2.2.2.2.2.1) s).bind fun v0_3 =>
  some (v0_3,0)
/- lineal/lineallaw08.CodeEither -/
noncomputable def s5 (x0:(Int×Int×(List (List Int))×(List (List Int)))×(List (List (Int×Int×Int×Int)))×(List (List Int))) (steps:Int×Int) (picks:List Int) (b1:Bool):Option Bool :=
  (F2 x0 picks (max (steps.1 % 13) (steps.2 % 13))).bind fun v0_8 =>
  if (!v0_8.2.2)=true then
  some false
  else
  (Q3 x0.1 x0.2.1 x0.2.2 v0_8.1).bind fun v0_9 =>
  (a1k x0.2.1 x0.2.2 v0_8.1).bind fun v0_10 =>
  if (!(decide (v0_9.2=0)))=true then
  some false
  else
  if (!(decide (v0_10.2=0)))=true then
  some false
  else
  (K8 [x0.1] v0_10.1).bind fun v0_11 =>
  if (decide (v0_11.2=0))=true then
  if ((v0_9.1==(!v0_11.1)) != false)=true then
  if (!b1)=true then
  (A5).bind fun v0_12 =>
  some v0_12
  else
  if (!v0_9.1)=true then
  (A5).bind fun v0_13 =>
  some v0_13
  else
  some false
  else
  some false
  else
  some false
noncomputable def m9 (x0:(Int×Int×(List (List Int))×(List (List Int)))×(List (List (Int×Int×Int×Int)))×(List (List Int))) (steps:Int×Int) (picks:List Int) (v0_6:(List Int)×Int) (b1:Bool):Option Bool :=
  if (!b1)=true then
  (Q3 x0.1 x0.2.1 x0.2.2 v0_6.1).bind fun v0_7 =>
  if (!(decide (v0_7.2=0)))=true then
  some false
  else
  if (!v0_7.1)=true then
  some false
  else
  if (decide ((max (steps.1 % 13) (steps.2 % 13))<(v0_6.1.length:Int)))=true then
  some false
  else
  s5 x0 steps picks b1
  else
  s5 x0 steps picks b1
noncomputable def I3 (x0:(Int×Int×(List (List Int))×(List (List Int)))×(List (List (Int×Int×Int×Int)))×(List (List Int))) (steps:Int×Int) (picks:List Int):Option Bool :=
  (K5 x0).bind fun v0 =>
  if (!v0)=true then
  (A5).bind fun v0_2 =>
  some v0_2
  else
  if (decide (60<(picks.length:Int)))=true then
  (A5).bind fun v0_3 =>
  some v0_3
  else
  ck (InK .i64 steps.1) <| ck (0≤steps.1) <| ck (InK .i64 steps.2) <| ck (0≤steps.2) <| (a0f x0.1 x0.2.1 x0.2.2 (max (steps.1 % 13) (steps.2 % 13))).bind fun v0_4 =>
  (a0f x0.1 x0.2.1 x0.2.2 (min (steps.1 % 13) (steps.2 % 13))).bind fun v0_5 =>
  (a0g x0.1 x0.2.1 x0.2.2 (max (steps.1 % 13) (steps.2 % 13))).bind fun v0_6 =>
  if (!(decide (v0_4.2=0)))=true then
  some false
  else
  if (!(decide (v0_5.2=0)))=true then
  some false
  else
  if ((v0_4.1==(decide (v0_6.2=5))) != true)=true then
  some false
  else
  if (!(decide (v0_6.2=0)))=true then
  if (!(decide (v0_6.2=5)))=true then
  some false
  else
  if v0_4.1=true then
  if (!v0_5.1)=true then
  some false
  else
  m9 x0 steps picks v0_6 true
  else
  m9 x0 steps picks v0_6 false
  else
  if v0_4.1=true then
  if (!v0_5.1)=true then
  some false
  else
  m9 x0 steps picks v0_6 true
  else
  m9 x0 steps picks v0_6 false
end Go.Proofs.Ytenchhmcjmjlbaa
