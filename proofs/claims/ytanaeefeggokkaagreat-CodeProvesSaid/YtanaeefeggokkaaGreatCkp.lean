import Derived.Test.YtanaeefeggokkaaGreatTyk
namespace Go.Proofs.YtanaeefeggokkaaGreat
open Go.RowKit
set_option linter.unusedSimpArgs false
set_option linter.unusedVariables false
set_option linter.constructorNameAsVariable false
abbrev ZS:Type:=List (Int×Int×(List (List Int))×(List (List Int)))
abbrev ZH:Type:=List (Int×Int×Int×Int×Int×Int)
abbrev ZM:Type:=List (((Int×Int)×Int)×Int)
abbrev Y0:Ty:=(.pair .i (.pair .i (.pair .i (.pair .i (.pair .i .i)))))
attribute [go_sem] Y0
abbrev Y1:Ty:=(.pair .i (.pair .bool (.pair .i (.pair .i (.pair .i (.pair .i (.pair .i .i)))))))
attribute [go_sem] Y1
abbrev Y2:Ty:=(.pair .i (.pair .i (.pair .bool (.pair .i (.pair .i (.pair .i (.pair .i .i)))))))
attribute [go_sem] Y2
abbrev Y3:Ty:=(.pair .i (.pair .i (.pair (.sl (.sl .i)) (.sl (.sl .i)))))
attribute [go_sem] Y3
abbrev Y4:Ty:=(.pair .i (.pair .i (.pair .i .i)))
attribute [go_sem] Y4
abbrev Y5:Ty:=(.pair (.pair (.sl (.sl (.pair .i (.pair .i (.pair .i .i))))) (.sl (.sl .i))) (.pair (.sl .i) (.pair T72 (.pair (.pair .i (.pair .i .i)) (.pair T77 (.pair T78 .i))))))
attribute [go_sem] Y5
abbrev Y6:Ty:=(.pair (.pair .i .i) (.int .u64))
attribute [go_sem] Y6
/- lineal/lineallaw02.Large -/
noncomputable def U7 (specs:ZS):Option Bool :=
  some (decide (5<(specs.length:Int)))
noncomputable def O9 (st1:Int):Option (Step Int (Sum Unit Unit)) :=
  ck (InK .i64 (st1+1)) <| some (.next (st1+1))
noncomputable def B7 (specs:ZS) (st1:Int) (st3:Int):Option (Step Int (Sum Unit Unit)) :=
  if (decide (st3<((specs.getD st1.toNat (0,0,[],[])).2.2.2.length:Int)))=true then
  ck (0≤st3) <| ck (st3<((specs.getD st1.toNat (0,0,[],[])).2.2.2.length:Int)) <| if (decide (20<(((specs.getD st1.toNat (0,0,[],[])).2.2.2.getD st3.toNat []).length:Int)))=true then
  some (.done (Sum.inl ()))
  else
  ck (InK .i64 (st3+1)) <| some (.next (st3+1))
  else
  some (.done (Sum.inr ()))
noncomputable def O8 (specs:ZS) (st1:Int):Option (Step Int (Sum Unit Unit)) :=
  (g9 (B7 specs st1) 0).bind fun x=>match x with
  | .inl _=>(some (.done (Sum.inl ())))
  | .inr _=>(O9 st1)
noncomputable def B8 (specs:ZS) (st1:Int) (st2:Int):Option (Step Int (Sum Unit Unit)) :=
  if (decide (st2<((specs.getD st1.toNat (0,0,[],[])).2.2.1.length:Int)))=true then
  ck (0≤st2) <| ck (st2<((specs.getD st1.toNat (0,0,[],[])).2.2.1.length:Int)) <| if (decide (20<(((specs.getD st1.toNat (0,0,[],[])).2.2.1.getD st2.toNat []).length:Int)))=true then
  some (.done (Sum.inl ()))
  else
  ck (InK .i64 (st2+1)) <| some (.next (st2+1))
  else
  some (.done (Sum.inr ()))
noncomputable def C0 (specs:ZS) (st1:Int):Option (Step Int (Sum Unit Unit)) :=
  if (decide (st1<(specs.length:Int)))=true then
  ck (0≤st1) <| ck (st1<(specs.length:Int)) <| if (decide (20<((specs.getD st1.toNat (0,0,[],[])).2.2.1.length:Int)))=true then
  some (.done (Sum.inl ()))
  else
  if (decide (20<((specs.getD st1.toNat (0,0,[],[])).2.2.2.length:Int)))=true then
  some (.done (Sum.inl ()))
  else
  (g9 (B8 specs st1) 0).bind fun x=>match x with
  | .inl _=>(some (.done (Sum.inl ())))
  | .inr _=>(O8 specs st1)
  else
  some (.done (Sum.inr ()))
noncomputable def P0 (specs:ZS):Option Bool :=
  (g9 (C0 specs) 0).bind fun x=>match x with
  | .inl _=>(some true)
  | .inr _=>(U7 specs)
/- lineal/lineallaw08.Large -/
noncomputable def O5 (x0:(Int×Int×(List (List Int))×(List (List Int)))×(List (List (Int×Int×Int×Int)))×(List (List Int))):Option Bool :=
  (P0 [x0.1]).bind fun v0 =>
  if v0=true then
  some true
  else
  if (decide (10<(x0.2.1.length:Int)))=true then
  some true
  else
  some (decide (10<(x0.2.2.length:Int)))
noncomputable def B5 (x0:(Int×Int×(List (List Int))×(List (List Int)))×(List (List (Int×Int×Int×Int)))×(List (List Int))) (st2:Int):Option (Step Int (Sum Unit Unit)) :=
  if (decide (st2<(x0.2.2.length:Int)))=true then
  ck (0≤st2) <| ck (st2<(x0.2.2.length:Int)) <| if (decide (20<((x0.2.2.getD st2.toNat []).length:Int)))=true then
  some (.done (Sum.inl ()))
  else
  ck (InK .i64 (st2+1)) <| some (.next (st2+1))
  else
  some (.done (Sum.inr ()))
noncomputable def O6 (x0:(Int×Int×(List (List Int))×(List (List Int)))×(List (List (Int×Int×Int×Int)))×(List (List Int))):Option Bool :=
  (g9 (B5 x0) 0).bind fun x=>match x with
  | .inl _=>(some true)
  | .inr _=>(O5 x0)
noncomputable def B6 (x0:(Int×Int×(List (List Int))×(List (List Int)))×(List (List (Int×Int×Int×Int)))×(List (List Int))) (st1:Int):Option (Step Int (Sum Unit Unit)) :=
  if (decide (st1<(x0.2.1.length:Int)))=true then
  ck (0≤st1) <| ck (st1<(x0.2.1.length:Int)) <| if (decide (30<((x0.2.1.getD st1.toNat []).length:Int)))=true then
  some (.done (Sum.inl ()))
  else
  ck (InK .i64 (st1+1)) <| some (.next (st1+1))
  else
  some (.done (Sum.inr ()))
noncomputable def O7 (x0:(Int×Int×(List (List Int))×(List (List Int)))×(List (List (Int×Int×Int×Int)))×(List (List Int))):Option Bool :=
  (g9 (B6 x0) 0).bind fun x=>match x with
  | .inl _=>(some true)
  | .inr _=>(O6 x0)
/- lineal/code.bare -/
noncomputable def a3e (l:Int×Int×Int×Int):Option (Int×Int) :=
  if (decide (l.1=3))=true then
  if (decide (l.1=3))=true then
  some l.2.2
  else
  if (decide (l.1=7))=true then
  some (0,0)
  else
  some (l.2.2.1,0)
  else
  if (decide (l.1=5))=true then
  some l.2.2
  else
  if (decide (l.1=7))=true then
  some (0,0)
  else
  some (l.2.2.1,0)
/- lineal/code.isBelow -/
noncomputable def z6 (number:Int) (end0:Int):Option Bool :=
  if (decide (0≤number))=true then
  some (decide (number<end0))
  else
  some false
/- lineal/code.isRegister -/
noncomputable def n6 (register:Int):Option Bool :=
  (z6 register 4).bind fun v0 =>
  some v0
/- lineal/code.isCell -/
noncomputable def V7 (cell:Int):Option Bool :=
  (z6 cell 3).bind fun v0 =>
  some v0
/- lineal/code.isLine -/
noncomputable def a1b (l:Int×Int×Int×Int) (lines:Int):Option Bool :=
  (a3e l).bind fun v0 =>
  ck (InK .i64 l.1) <| ck (InK .i64 l.2.1) <| ck (InK .i64 l.2.2.1) <| ck (InK .i64 l.2.2.2) <| ck (InK .i64 l.1) <| ck (InK .i64 l.2.1) <| ck (InK .i64 v0.1) <| ck (InK .i64 v0.2) <| if (!(decide (l=(l.1,l.2.1,v0))))=true then
  some false
  else
  if (decide (l.1=1))=true then
  (n6 l.2.1).bind fun v0_2 =>
  if v0_2=true then
  (V7 l.2.2.1).bind fun v0_3 =>
  some v0_3
  else
  some false
  else
  if (decide (l.1=2))=true then
  (V7 l.2.1).bind fun v0_4 =>
  if v0_4=true then
  (n6 l.2.2.1).bind fun v0_5 =>
  some v0_5
  else
  some false
  else
  if (decide (l.1=3))=true then
  (V7 l.2.1).bind fun v0_6 =>
  if v0_6=true then
  (n6 l.2.2.1).bind fun v0_7 =>
  if v0_7=true then
  (n6 l.2.2.2).bind fun v0_8 =>
  some v0_8
  else
  some false
  else
  some false
  else
  if (decide (l.1=4))=true then
  (n6 l.2.1).bind fun v0_9 =>
  if v0_9=true then
  (z6 l.2.2.1 10).bind fun v0_10 =>
  some v0_10
  else
  some false
  else
  if (decide (l.1=5))=true then
  (n6 l.2.1).bind fun v0_11 =>
  if v0_11=true then
  (n6 l.2.2.1).bind fun v0_12 =>
  if v0_12=true then
  (n6 l.2.2.2).bind fun v0_13 =>
  some v0_13
  else
  some false
  else
  some false
  else
  if (decide (l.1=6))=true then
  (n6 l.2.1).bind fun v0_14 =>
  if v0_14=true then
  (z6 l.2.2.1 lines).bind fun v0_15 =>
  some v0_15
  else
  some false
  else
  if (decide (l.1=7))=true then
  (n6 l.2.1).bind fun v0_16 =>
  some v0_16
  else
  some false
/- lineal/code.isCall$1 -/
noncomputable def a0X (l:Int×Int×Int×Int) (a1:Int):Option Bool :=
  (a1b l a1).bind fun v0 =>
  some (!v0)
/- slices.IndexFunc[[]lineal/api.Line,lineal/api.Line] -/
noncomputable def T4:Option Int :=
  some (-1)
noncomputable def y5 (s:List (Int×Int×Int×Int)) (c0:Int) (st1:Int):Option (Step Int (Sum Int Unit)) :=
  if (decide (st1<(s.length:Int)))=true then
  ck (0≤st1) <| ck (st1<(s.length:Int)) <| (a0X (s.getD st1.toNat (0,0,0,0)) c0).bind fun v0 =>
  if v0=true then
  some (.done (Sum.inl st1))
  else
  ck (InK .i64 (st1+1)) <| some (.next (st1+1))
  else
  some (.done (Sum.inr ()))
noncomputable def a0e (s:List (Int×Int×Int×Int)) (c0:Int):Option Int :=
  (g9 (y5 s c0) 0).bind fun x=>match x with
  | .inl r1=>(some r1)
  | .inr _=>(T4)
/- slices.ContainsFunc[[]lineal/api.Line,lineal/api.Line] -/
noncomputable def M5 (s:List (Int×Int×Int×Int)) (c0:Int):Option Bool :=
  (a0e s c0).bind fun v0 =>
  some (decide (0≤v0))
/- lineal/code.isCall -/
noncomputable def a1c (lines:List (Int×Int×Int×Int)):Option Bool :=
  if (decide ((lines.length:Int)<1))=true then
  some false
  else
  if (decide (8<(lines.length:Int)))=true then
  some false
  else
  ck (InK .i64 ((lines.length:Int) - 1)) <| ck (0≤((lines.length:Int) - 1)) <| ck (((lines.length:Int) - 1)<(lines.length:Int)) <| if (!(decide ((lines.getD ((lines.length:Int) - 1).toNat (0,0,0,0)).1=7)))=true then
  some false
  else
  (M5 lines (lines.length:Int)).bind fun v0 =>
  some (!v0)
/- lineal/code.Valid$1 -/
noncomputable def a1B (lines:List (Int×Int×Int×Int)):Option Bool :=
  (a1c lines).bind fun v0 =>
  some (!v0)
/- slices.IndexFunc[[][]lineal/api.Line,[]lineal/api.Line] -/
noncomputable def X3:Option Int :=
  some (-1)
noncomputable def D4 (s:List (List (Int×Int×Int×Int))) (st1:Int):Option (Step Int (Sum Int Unit)) :=
  if (decide (st1<(s.length:Int)))=true then
  ck (0≤st1) <| ck (st1<(s.length:Int)) <| (a1B (s.getD st1.toNat [])).bind fun v0 =>
  if v0=true then
  some (.done (Sum.inl st1))
  else
  ck (InK .i64 (st1+1)) <| some (.next (st1+1))
  else
  some (.done (Sum.inr ()))
noncomputable def a0I (s:List (List (Int×Int×Int×Int))):Option Int :=
  (g9 (D4 s) 0).bind fun x=>match x with
  | .inl r1=>(some r1)
  | .inr _=>(X3)
/- slices.ContainsFunc[[][]lineal/api.Line,[]lineal/api.Line] -/
noncomputable def Q0 (s:List (List (Int×Int×Int×Int))):Option Bool :=
  (a0I s).bind fun v0 =>
  some (decide (0≤v0))
/- lineal/code.Valid -/
noncomputable def a0Q (c:List (List (Int×Int×Int×Int))):Option Bool :=
  if (decide (1≤(c.length:Int)))=true then
  if (decide ((c.length:Int)≤4))=true then
  (Q0 c).bind fun v0 =>
  some (!v0)
  else
  some false
  else
  some false
/- lineal/code.isWord$1 -/
noncomputable def a0W (op0:Int) (a1:List (List (Int×Int×Int×Int))):Option Bool :=
  (z6 op0 (a1.length:Int)).bind fun v0 =>
  some (!v0)
/- slices.IndexFunc[[]int,int] -/
noncomputable def T2:Option Int :=
  some (-1)
noncomputable def w9 (s:List Int) (c0:List (List (Int×Int×Int×Int))) (st1:Int):Option (Step Int (Sum Int Unit)) :=
  if (decide (st1<(s.length:Int)))=true then
  ck (0≤st1) <| ck (st1<(s.length:Int)) <| (a0W (s.getD st1.toNat 0) c0).bind fun v0 =>
  if v0=true then
  some (.done (Sum.inl st1))
  else
  ck (InK .i64 (st1+1)) <| some (.next (st1+1))
  else
  some (.done (Sum.inr ()))
noncomputable def a0c (s:List Int) (c0:List (List (Int×Int×Int×Int))):Option Int :=
  (g9 (w9 s c0) 0).bind fun x=>match x with
  | .inl r1=>(some r1)
  | .inr _=>(T2)
/- slices.ContainsFunc[[]int,int] -/
noncomputable def M3 (s:List Int) (c0:List (List (Int×Int×Int×Int))):Option Bool :=
  (a0c s c0).bind fun v0 =>
  some (decide (0≤v0))
/- lineal/code.isWord -/
noncomputable def a1a (c:List (List (Int×Int×Int×Int))) (word:List Int):Option Bool :=
  if (decide ((word.length:Int)≤3))=true then
  (M3 word c).bind fun v0 =>
  some (!v0)
  else
  some false
/- lineal/code.isUse$1 -/
noncomputable def a1A (word:List Int) (a1:List (List (Int×Int×Int×Int))):Option Bool :=
  (a1a a1 word).bind fun v0 =>
  some (!v0)
/- slices.IndexFunc[[][]int,[]int] -/
noncomputable def T3:Option Int :=
  some (-1)
noncomputable def y0 (s:List (List Int)) (c0:List (List (Int×Int×Int×Int))) (st1:Int):Option (Step Int (Sum Int Unit)) :=
  if (decide (st1<(s.length:Int)))=true then
  ck (0≤st1) <| ck (st1<(s.length:Int)) <| (a1A (s.getD st1.toNat []) c0).bind fun v0 =>
  if v0=true then
  some (.done (Sum.inl st1))
  else
  ck (InK .i64 (st1+1)) <| some (.next (st1+1))
  else
  some (.done (Sum.inr ()))
noncomputable def a0d (s:List (List Int)) (c0:List (List (Int×Int×Int×Int))):Option Int :=
  (g9 (y0 s c0) 0).bind fun x=>match x with
  | .inl r1=>(some r1)
  | .inr _=>(T3)
/- slices.ContainsFunc[[][]int,[]int] -/
noncomputable def M4 (s:List (List Int)) (c0:List (List (Int×Int×Int×Int))):Option Bool :=
  (a0d s c0).bind fun v0 =>
  some (decide (0≤v0))
/- lineal/code.isUse -/
noncomputable def a1Y (c:List (List (Int×Int×Int×Int))) (use:List (List Int)):Option Bool :=
  if (decide (1≤(use.length:Int)))=true then
  if (decide ((use.length:Int)≤2))=true then
  (M4 use c).bind fun v0 =>
  some (!v0)
  else
  some false
  else
  some false
/- lineal/code.ValidUse -/
noncomputable def a0Y (c:List (List (Int×Int×Int×Int))) (use:List (List Int)):Option (Bool×Int) :=
  (a0Q c).bind fun v0 =>
  if (!v0)=true then
  some (false,80)
  else
  (a1Y c use).bind fun v0_2 =>
  some (v0_2,0)
/- lineal/code.checkUse -/
noncomputable def T0 (c:List (List (Int×Int×Int×Int))) (use:List (List Int)):Option Int :=
  (a0Y c use).bind fun v0 =>
  if (decide (v0.2=0))=true then
  if (!v0.1)=true then
  some 81
  else
  some v0.2
  else
  some v0.2
/- (lineal/code.run).hasLine -/
noncomputable def C4 (r0:((List (List (Int×Int×Int×Int)))×(List (List Int)))×(List Int)×(El T72)×(Int×Int×Int)×(El T77)×(El T78)×Int) (thread:Int):Option Bool :=
  (z6 thread (r0.1.2.length:Int)).bind fun v0 =>
  if v0=true then
  ck (0≤thread) <| ck (thread<2) <| ck (kAt T77 ((thread.toNat*8))=some (some .i64)) <| ck (0≤thread) <| ck (thread<(r0.1.2.length:Int)) <| some (decide ((b7 T77 r0.2.2.2.2.1 (thread.toNat*8))<((r0.1.2.getD thread.toNat []).length:Int)))
  else
  some false
/- (*lineal/code.worker).do -/
noncomputable def V5 (w:Nat) (l:Int×Int×Int×Int) (w_2:List (List (Int×Int×Int×Int))) (w_3:List (List Int)) (w_4:(El T72)) (w_5:Int) (w_6:Int) (w_7:Int) (w_8:(El T77)) (w_9:(El T78)) (w_10:Int) (w_11:List Int):Option (Int×Int×Int×(El T77)) :=
  if (decide (l.1=1))=true then
  ck (0≤l.2.2.1) <| ck (l.2.2.1<3) <| if (decide (l.2.2.1=0))=true then
  ck (0≤l.2.1) <| ck (l.2.1<4) <| ck (kAt T77 (((w+4)+l.2.1.toNat*1))=some (some .i64)) <| some (w_5,w_6,w_7,(f8 T77 w_8 ((w+4)+l.2.1.toNat*1) w_5))
  else
  if (decide (l.2.2.1=1))=true then
  ck (0≤l.2.1) <| ck (l.2.1<4) <| ck (kAt T77 (((w+4)+l.2.1.toNat*1))=some (some .i64)) <| some (w_5,w_6,w_7,(f8 T77 w_8 ((w+4)+l.2.1.toNat*1) w_6))
  else
  ck (0≤l.2.1) <| ck (l.2.1<4) <| ck (kAt T77 (((w+4)+l.2.1.toNat*1))=some (some .i64)) <| some (w_5,w_6,w_7,(f8 T77 w_8 ((w+4)+l.2.1.toNat*1) w_7))
  else
  if (decide (l.1=2))=true then
  ck (0≤l.2.2.1) <| ck (l.2.2.1<4) <| ck (kAt T77 (((w+4)+l.2.2.1.toNat*1))=some (some .i64)) <| ck (0≤l.2.1) <| ck (l.2.1<3) <| if (decide (l.2.1=0))=true then
  some ((b7 T77 w_8 ((w+4)+l.2.2.1.toNat*1)),w_6,w_7,w_8)
  else
  if (decide (l.2.1=1))=true then
  some (w_5,(b7 T77 w_8 ((w+4)+l.2.2.1.toNat*1)),w_7,w_8)
  else
  some (w_5,w_6,(b7 T77 w_8 ((w+4)+l.2.2.1.toNat*1)),w_8)
  else
  if (decide (l.1=3))=true then
  ck (0≤l.2.1) <| ck (l.2.1<3) <| if (decide (l.2.1=0))=true then
  ck (0≤l.2.2.1) <| ck (l.2.2.1<4) <| ck (kAt T77 (((w+4)+l.2.2.1.toNat*1))=some (some .i64)) <| if (decide (w_5=(b7 T77 w_8 ((w+4)+l.2.2.1.toNat*1))))=true then
  ck (0≤l.2.2.2) <| ck (l.2.2.2<4) <| ck (kAt T77 (((w+4)+l.2.2.2.toNat*1))=some (some .i64)) <| ck (kAt T77 (((w+4)+3))=some (some .i64)) <| some ((b7 T77 w_8 ((w+4)+l.2.2.2.toNat*1)),w_6,w_7,(f8 T77 w_8 ((w+4)+3) 1))
  else
  ck (kAt T77 (((w+4)+3))=some (some .i64)) <| some (w_5,w_6,w_7,(f8 T77 w_8 ((w+4)+3) 0))
  else
  if (decide (l.2.1=1))=true then
  ck (0≤l.2.2.1) <| ck (l.2.2.1<4) <| ck (kAt T77 (((w+4)+l.2.2.1.toNat*1))=some (some .i64)) <| if (decide (w_6=(b7 T77 w_8 ((w+4)+l.2.2.1.toNat*1))))=true then
  ck (0≤l.2.2.2) <| ck (l.2.2.2<4) <| ck (kAt T77 (((w+4)+l.2.2.2.toNat*1))=some (some .i64)) <| ck (kAt T77 (((w+4)+3))=some (some .i64)) <| some (w_5,(b7 T77 w_8 ((w+4)+l.2.2.2.toNat*1)),w_7,(f8 T77 w_8 ((w+4)+3) 1))
  else
  ck (kAt T77 (((w+4)+3))=some (some .i64)) <| some (w_5,w_6,w_7,(f8 T77 w_8 ((w+4)+3) 0))
  else
  ck (0≤l.2.2.1) <| ck (l.2.2.1<4) <| ck (kAt T77 (((w+4)+l.2.2.1.toNat*1))=some (some .i64)) <| if (decide (w_7=(b7 T77 w_8 ((w+4)+l.2.2.1.toNat*1))))=true then
  ck (0≤l.2.2.2) <| ck (l.2.2.2<4) <| ck (kAt T77 (((w+4)+l.2.2.2.toNat*1))=some (some .i64)) <| ck (kAt T77 (((w+4)+3))=some (some .i64)) <| some (w_5,w_6,(b7 T77 w_8 ((w+4)+l.2.2.2.toNat*1)),(f8 T77 w_8 ((w+4)+3) 1))
  else
  ck (kAt T77 (((w+4)+3))=some (some .i64)) <| some (w_5,w_6,w_7,(f8 T77 w_8 ((w+4)+3) 0))
  else
  if (decide (l.1=4))=true then
  ck (0≤l.2.1) <| ck (l.2.1<4) <| ck (kAt T77 (((w+4)+l.2.1.toNat*1))=some (some .i64)) <| some (w_5,w_6,w_7,(f8 T77 w_8 ((w+4)+l.2.1.toNat*1) l.2.2.1))
  else
  if (decide (l.1=5))=true then
  ck (0≤l.2.2.1) <| ck (l.2.2.1<4) <| ck (kAt T77 (((w+4)+l.2.2.1.toNat*1))=some (some .i64)) <| ck (0≤l.2.2.2) <| ck (l.2.2.2<4) <| ck (kAt T77 (((w+4)+l.2.2.2.toNat*1))=some (some .i64)) <| ck (InK .i64 ((b7 T77 w_8 ((w+4)+l.2.2.1.toNat*1))+(b7 T77 w_8 ((w+4)+l.2.2.2.toNat*1)))) <| ck (0≤((b7 T77 w_8 ((w+4)+l.2.2.1.toNat*1))+(b7 T77 w_8 ((w+4)+l.2.2.2.toNat*1)))) <| ck (0≤l.2.1) <| ck (l.2.1<4) <| ck (kAt T77 (((w+4)+l.2.1.toNat*1))=some (some .i64)) <| some (w_5,w_6,w_7,(f8 T77 w_8 ((w+4)+l.2.1.toNat*1) (((b7 T77 w_8 ((w+4)+l.2.2.1.toNat*1))+(b7 T77 w_8 ((w+4)+l.2.2.2.toNat*1))) % 10)))
  else
  if (decide (l.1=6))=true then
  ck (0≤l.2.1) <| ck (l.2.1<4) <| ck (kAt T77 (((w+4)+l.2.1.toNat*1))=some (some .i64)) <| if (decide ((b7 T77 w_8 ((w+4)+l.2.1.toNat*1))=0))=true then
  ck (kAt T77 ((w+3))=some (some .i64)) <| some (w_5,w_6,w_7,(f8 T77 w_8 (w+3) l.2.2.1))
  else
  some (w_5,w_6,w_7,w_8)
  else
  some (w_5,w_6,w_7,w_8)
/- (lineal/code.run).step -/
noncomputable def F3 (r0:((List (List (Int×Int×Int×Int)))×(List (List Int)))×(List Int)×(El T72)×(Int×Int×Int)×(El T77)×(El T78)×Int) (thread:Int) (b1:(El T77)×(El T78)×Int):Option ((El T72)×Int×Int×Int×(El T77)×(El T78)×Int) :=
  ck (kAt T77 (((thread.toNat*8)+2))=some (some .i64)) <| ck (0≤(b7 T77 b1.1 ((thread.toNat*8)+2))) <| ck ((b7 T77 b1.1 ((thread.toNat*8)+2))<6) <| ck (0≤(b7 T78 b1.2.1 (((b7 T77 b1.1 ((thread.toNat*8)+2)).toNat*6)+2))) <| ck ((b7 T78 b1.2.1 (((b7 T77 b1.1 ((thread.toNat*8)+2)).toNat*6)+2))<(r0.1.1.length:Int)) <| ck (kAt T77 (((thread.toNat*8)+3))=some (some .i64)) <| ck (0≤(b7 T77 b1.1 ((thread.toNat*8)+3))) <| ck ((b7 T77 b1.1 ((thread.toNat*8)+3))<((r0.1.1.getD (b7 T78 b1.2.1 (((b7 T77 b1.1 ((thread.toNat*8)+2)).toNat*6)+2)).toNat []).length:Int)) <| ck (kAt T77 (((thread.toNat*8)+2))=some (some .i64)) <| ck (kAt T77 (((thread.toNat*8)+3))=some (some .i64)) <| ck ((r0.2.1.length:Int)<12) <| ck (kAt T77 (((thread.toNat*8)+3))=some (some .i64)) <| ck (InK .i64 ((b7 T77 b1.1 ((thread.toNat*8)+3))+1)) <| ck (kAt T77 (((thread.toNat*8)+3))=some (some .i64)) <| if (decide (((r0.1.1.getD (b7 T78 b1.2.1 (((b7 T77 b1.1 ((thread.toNat*8)+2)).toNat*6)+2)).toNat []).getD (b7 T77 b1.1 ((thread.toNat*8)+3)).toNat (0,0,0,0)).1=7))=true then
  ck (0≤((r0.1.1.getD (b7 T78 b1.2.1 (((b7 T77 b1.1 ((thread.toNat*8)+2)).toNat*6)+2)).toNat []).getD (b7 T77 b1.1 ((thread.toNat*8)+3)).toNat (0,0,0,0)).2.1) <| ck (((r0.1.1.getD (b7 T78 b1.2.1 (((b7 T77 b1.1 ((thread.toNat*8)+2)).toNat*6)+2)).toNat []).getD (b7 T77 b1.1 ((thread.toNat*8)+3)).toNat (0,0,0,0)).2.1<4) <| ck (kAt T77 ((((thread.toNat*8)+4)+((r0.1.1.getD (b7 T78 b1.2.1 (((b7 T77 b1.1 ((thread.toNat*8)+2)).toNat*6)+2)).toNat []).getD (b7 T77 b1.1 ((thread.toNat*8)+3)).toNat (0,0,0,0)).2.1.toNat*1))=some (some .i64)) <| ck (InK .i64 (2*(r0.2.1.length:Int))) <| ck (InK .i64 ((2*(r0.2.1.length:Int))+2)) <| ck (kAt T77 (((thread.toNat*8)+1))=some none) <| ck (kAt T77 ((thread.toNat*8))=some (some .i64)) <| ck (InK .i64 ((b7 T77 (p5 T77 (f8 T77 b1.1 ((thread.toNat*8)+3) ((b7 T77 b1.1 ((thread.toNat*8)+3))+1)) ((thread.toNat*8)+1) false) (thread.toNat*8))+1)) <| ck (kAt T77 ((thread.toNat*8))=some (some .i64)) <| some ((F5 T72 (.pair .i .i) r0.2.2.1 (r0.2.1.length*2) ((b7 T77 b1.1 ((thread.toNat*8)+2)),(b7 T77 b1.1 ((thread.toNat*8)+3)))),r0.2.2.2.1.1,r0.2.2.2.1.2.1,r0.2.2.2.1.2.2,(f8 T77 (p5 T77 (f8 T77 b1.1 ((thread.toNat*8)+3) ((b7 T77 b1.1 ((thread.toNat*8)+3))+1)) ((thread.toNat*8)+1) false) (thread.toNat*8) ((b7 T77 (p5 T77 (f8 T77 b1.1 ((thread.toNat*8)+3) ((b7 T77 b1.1 ((thread.toNat*8)+3))+1)) ((thread.toNat*8)+1) false) (thread.toNat*8))+1)),(f8 T78 (f8 T78 b1.2.1 (((b7 T77 b1.1 ((thread.toNat*8)+2)).toNat*6)+3) (b7 T77 (f8 T77 b1.1 ((thread.toNat*8)+3) ((b7 T77 b1.1 ((thread.toNat*8)+3))+1)) (((thread.toNat*8)+4)+((r0.1.1.getD (b7 T78 b1.2.1 (((b7 T77 b1.1 ((thread.toNat*8)+2)).toNat*6)+2)).toNat []).getD (b7 T77 b1.1 ((thread.toNat*8)+3)).toNat (0,0,0,0)).2.1.toNat*1))) (((b7 T77 b1.1 ((thread.toNat*8)+2)).toNat*6)+5) ((2*(r0.2.1.length:Int))+2)),b1.2.2)
  else
  (V5 (thread.toNat*8) ((r0.1.1.getD (b7 T78 b1.2.1 (((b7 T77 b1.1 ((thread.toNat*8)+2)).toNat*6)+2)).toNat []).getD (b7 T77 b1.1 ((thread.toNat*8)+3)).toNat (0,0,0,0)) r0.1.1 r0.1.2 (F5 T72 (.pair .i .i) r0.2.2.1 (r0.2.1.length*2) ((b7 T77 b1.1 ((thread.toNat*8)+2)),(b7 T77 b1.1 ((thread.toNat*8)+3)))) r0.2.2.2.1.1 r0.2.2.2.1.2.1 r0.2.2.2.1.2.2 (f8 T77 b1.1 ((thread.toNat*8)+3) ((b7 T77 b1.1 ((thread.toNat*8)+3))+1)) b1.2.1 b1.2.2 ((r0.2.1.take r0.2.1.length)++[thread])).bind fun v0 =>
  some ((F5 T72 (.pair .i .i) r0.2.2.1 (r0.2.1.length*2) ((b7 T77 b1.1 ((thread.toNat*8)+2)),(b7 T77 b1.1 ((thread.toNat*8)+3)))),v0.1,v0.2.1,v0.2.2.1,v0.2.2.2,b1.2)
noncomputable def P8 (r0:((List (List (Int×Int×Int×Int)))×(List (List Int)))×(List Int)×(El T72)×(Int×Int×Int)×(El T77)×(El T78)×Int) (thread:Int):Option ((El T72)×Int×Int×Int×(El T77)×(El T78)×Int) :=
  ck (((r0.2.1.take r0.2.1.length).length+1)*8≤140737488355328) <| ck (0≤thread) <| ck (thread<2) <| ck (kAt T77 (((thread.toNat*8)+1))=some none) <| if (!(m6 T77 r0.2.2.2.2.1 ((thread.toNat*8)+1)))=true then
  ck (0≤thread) <| ck (thread<(r0.1.2.length:Int)) <| ck (kAt T77 ((thread.toNat*8))=some (some .i64)) <| ck (0≤(b7 T77 r0.2.2.2.2.1 (thread.toNat*8))) <| ck ((b7 T77 r0.2.2.2.2.1 (thread.toNat*8))<((r0.1.2.getD thread.toNat []).length:Int)) <| ck (InK .i64 (2*(r0.2.1.length:Int))) <| ck (InK .i64 ((2*(r0.2.1.length:Int))+1)) <| ck (0≤r0.2.2.2.2.2.2) <| ck (r0.2.2.2.2.2.2<6) <| ck (kAt T77 ((thread.toNat*8))=some (some .i64)) <| ck (Q8 T77 (Y1) ((thread.toNat*8))=true) <| ck (InK .i64 (r0.2.2.2.2.2.2+1)) <| F3 r0 thread ((F5 T77 Y1 r0.2.2.2.2.1 (thread.toNat*8) ((b7 T77 r0.2.2.2.2.1 (thread.toNat*8)),true,r0.2.2.2.2.2.2,0,0,1,0,0)),(F5 T78 Y0 r0.2.2.2.2.2.1 (r0.2.2.2.2.2.2.toNat*6) (thread,0,((r0.1.2.getD thread.toNat []).getD (b7 T77 r0.2.2.2.2.1 (thread.toNat*8)).toNat 0),0,((2*(r0.2.1.length:Int))+1),0)),(r0.2.2.2.2.2.2+1))
  else
  F3 r0 thread r0.2.2.2.2
/- (lineal/code.program).play -/
noncomputable def V6 (p:(List (List (Int×Int×Int×Int)))×(List (List Int))) (b1:(List Int)×(El T72)×Int×Int×Int×(El T77)×(El T78)×Int):Option ((List (List (Int×Int×Int×Int)))×(List (List Int))×(List Int)×(El T72)×Int×Int×Int×(El T77)×(El T78)×Int×Bool) :=
  some (p.1,p.2,b1.1,b1.2.1,b1.2.2.1,b1.2.2.2.1,b1.2.2.2.2.1,b1.2.2.2.2.2.1,b1.2.2.2.2.2.2.1,b1.2.2.2.2.2.2.2,true)
noncomputable def l4 (p:(List (List (Int×Int×Int×Int)))×(List (List Int))) (schedule:List Int) (st1:(List Int)×(El T72)×Int×Int×Int×(El T77)×(El T78)×Int×Int):Option (Step ((List Int)×(El T72)×Int×Int×Int×(El T77)×(El T78)×Int×Int) (Sum Unit ((List Int)×(El T72)×Int×Int×Int×(El T77)×(El T78)×Int))) :=
  if (decide (st1.2.2.2.2.2.2.2.2<(schedule.length:Int)))=true then
  ck (0≤st1.2.2.2.2.2.2.2.2) <| ck (st1.2.2.2.2.2.2.2.2<(schedule.length:Int)) <| (C4 (p,st1.1,st1.2.1,(st1.2.2.1,st1.2.2.2.1,st1.2.2.2.2.1),st1.2.2.2.2.2.1,st1.2.2.2.2.2.2.1,st1.2.2.2.2.2.2.2.1) (schedule.getD st1.2.2.2.2.2.2.2.2.toNat 0)).bind fun v0 =>
  if (!v0)=true then
  some (.done (Sum.inl ()))
  else
  (P8 (p,st1.1,st1.2.1,(st1.2.2.1,st1.2.2.2.1,st1.2.2.2.2.1),st1.2.2.2.2.2.1,st1.2.2.2.2.2.2.1,st1.2.2.2.2.2.2.2.1) (schedule.getD st1.2.2.2.2.2.2.2.2.toNat 0)).bind fun v0_2 =>
  ck (InK .i64 (st1.2.2.2.2.2.2.2.2+1)) <| some (.next (((st1.1.take st1.1.length)++[(schedule.getD st1.2.2.2.2.2.2.2.2.toNat 0)]),v0_2.1,v0_2.2.1,v0_2.2.2.1,v0_2.2.2.2.1,v0_2.2.2.2.2.1,v0_2.2.2.2.2.2.1,v0_2.2.2.2.2.2.2,(st1.2.2.2.2.2.2.2.2+1)))
  else
  some (.done (Sum.inr (st1.1,st1.2.1,st1.2.2.1,st1.2.2.2.1,st1.2.2.2.2.1,st1.2.2.2.2.2.1,st1.2.2.2.2.2.2.1,st1.2.2.2.2.2.2.2.1)))
noncomputable def D3 (p:(List (List (Int×Int×Int×Int)))×(List (List Int))) (schedule:List Int):Option ((List (List (Int×Int×Int×Int)))×(List (List Int))×(List Int)×(El T72)×Int×Int×Int×(El T77)×(El T78)×Int×Bool) :=
  if (decide (12<(schedule.length:Int)))=true then
  some ([],[],[],(Ty.dflt T72),0,0,0,(Ty.dflt T77),(Ty.dflt T78),0,false)
  else
  (g9 (l4 p schedule) ([],(Ty.dflt T72),0,0,0,(Ty.dflt T77),(Ty.dflt T78),0,0)).bind fun x=>match x with
  | .inl _=>(some ([],[],[],(Ty.dflt T72),0,0,0,(Ty.dflt T77),(Ty.dflt T78),0,false))
  | .inr r1=>(V6 p r1)
/- lineal/code.played -/
noncomputable def P4 (c:List (List (Int×Int×Int×Int))) (use:List (List Int)) (schedule:List Int):Option ((List (List (Int×Int×Int×Int)))×(List (List Int))×(List Int)×(El T72)×Int×Int×Int×(El T77)×(El T78)×Int×Int) :=
  (T0 c use).bind fun v0 =>
  if (!(decide (v0=0)))=true then
  some ([],[],[],(Ty.dflt T72),0,0,0,(Ty.dflt T77),(Ty.dflt T78),0,v0)
  else
  (D3 (c,use) schedule).bind fun v0_2 =>
  if (!v0_2.2.2.2.2.2.2.2.2.2.2)=true then
  some ([],[],[],(Ty.dflt T72),0,0,0,(Ty.dflt T77),(Ty.dflt T78),0,2)
  else
  some (v0_2.1,v0_2.2.1,v0_2.2.2.1,v0_2.2.2.2.1,v0_2.2.2.2.2.1,v0_2.2.2.2.2.2.1,v0_2.2.2.2.2.2.2.1,v0_2.2.2.2.2.2.2.2.1,v0_2.2.2.2.2.2.2.2.2.1,v0_2.2.2.2.2.2.2.2.2.2.1,0)
/- slices.Clone[[]lineal/api.Call,lineal/api.Call] -/
noncomputable def a1x (s:ZH):Option (ZH) :=
  ck (s.length*48≤140737488355328) <| some s
/- (lineal/code.run).history -/
noncomputable def F4 (r0:((List (List (Int×Int×Int×Int)))×(List (List Int)))×(List Int)×(El T72)×(Int×Int×Int)×(El T77)×(El T78)×Int):Option (ZH) :=
  ck (0≤r0.2.2.2.2.2.2) <| ck (r0.2.2.2.2.2.2≤6) <| (a1x ((T8 Y0 6 r0.2.2.2.2.2.1).take r0.2.2.2.2.2.2.toNat)).bind fun v0 =>
  some v0
/- lineal/code.Run -/
noncomputable def a1Z (c:List (List (Int×Int×Int×Int))) (use:List (List Int)) (schedule:List Int):Option (ZH×Int) :=
  (P4 c use schedule).bind fun v0 =>
  if (!(decide (v0.2.2.2.2.2.2.2.2.2.2=0)))=true then
  some ([],v0.2.2.2.2.2.2.2.2.2.2)
  else
  (F4 ((v0.1,v0.2.1),v0.2.2.1,v0.2.2.2.1,(v0.2.2.2.2.1,v0.2.2.2.2.2.1,v0.2.2.2.2.2.2.1),v0.2.2.2.2.2.2.2.1,v0.2.2.2.2.2.2.2.2.1,v0.2.2.2.2.2.2.2.2.2.1)).bind fun v0_2 =>
  some (v0_2,0)
/- lineal/lineallaw08.Sane -/
noncomputable def q9:Option Bool :=
  (a1Z [[(1,0,0,0),(5,2,0,1),(2,0,2,0),(7,0,0,0)]] [[0],[0]] [0,0,1,1,0,0,1,1]).bind fun v0 =>
  if (decide (v0.2=0))=true then
  if (decide ((v0.1.length:Int)=2))=true then
  ck (0<(v0.1.length:Int)) <| ck (InK .i64 (v0.1.getD 0 (0,0,0,0,0,0)).1) <| ck (InK .i64 (v0.1.getD 0 (0,0,0,0,0,0)).2.1) <| ck (InK .i64 (v0.1.getD 0 (0,0,0,0,0,0)).2.2.1) <| ck (InK .i64 (v0.1.getD 0 (0,0,0,0,0,0)).2.2.2.1) <| ck (InK .i64 (v0.1.getD 0 (0,0,0,0,0,0)).2.2.2.2.1) <| ck (InK .i64 (v0.1.getD 0 (0,0,0,0,0,0)).2.2.2.2.2) <| ck (InK .i64 0) <| ck (InK .i64 0) <| ck (InK .i64 0) <| ck (InK .i64 0) <| ck (InK .i64 1) <| ck (InK .i64 12) <| if (decide ((v0.1.getD 0 (0,0,0,0,0,0))=(0,0,0,0,1,12)))=true then
  ck (1<(v0.1.length:Int)) <| ck (InK .i64 (v0.1.getD 1 (0,0,0,0,0,0)).1) <| ck (InK .i64 (v0.1.getD 1 (0,0,0,0,0,0)).2.1) <| ck (InK .i64 (v0.1.getD 1 (0,0,0,0,0,0)).2.2.1) <| ck (InK .i64 (v0.1.getD 1 (0,0,0,0,0,0)).2.2.2.1) <| ck (InK .i64 (v0.1.getD 1 (0,0,0,0,0,0)).2.2.2.2.1) <| ck (InK .i64 (v0.1.getD 1 (0,0,0,0,0,0)).2.2.2.2.2) <| ck (InK .i64 1) <| ck (InK .i64 0) <| ck (InK .i64 0) <| ck (InK .i64 0) <| ck (InK .i64 5) <| ck (InK .i64 16) <| some (decide ((v0.1.getD 1 (0,0,0,0,0,0))=(1,0,0,0,5,16)))
  else
  some false
  else
  some false
  else
  some false
/- (lineal/spec.machine).isState -/
noncomputable def F7 (m:Int×Int×(List (List Int))×(List (List Int))) (n:Int):Option Bool :=
  if (decide (0≤n))=true then
  some (decide (n<m.1))
  else
  some false
/- lineal/spec.all -/
noncomputable def a2h:Option Bool :=
  some true
noncomputable def a00 (is0:Int×Int×(List (List Int))×(List (List Int))) (numbers:List Int) (st1:Int):Option (Step Int (Sum Unit Unit)) :=
  if (decide (st1<(numbers.length:Int)))=true then
  ck (0≤st1) <| ck (st1<(numbers.length:Int)) <| (F7 is0 (numbers.getD st1.toNat 0)).bind fun v0 =>
  if (!v0)=true then
  some (.done (Sum.inl ()))
  else
  ck (InK .i64 (st1+1)) <| some (.next (st1+1))
  else
  some (.done (Sum.inr ()))
noncomputable def a34 (is0:Int×Int×(List (List Int))×(List (List Int))) (numbers:List Int):Option Bool :=
  (g9 (a00 is0 numbers) 0).bind fun x=>match x with
  | .inl _=>(some false)
  | .inr _=>(a2h)
/- (lineal/spec.machine).isTable -/
noncomputable def G8:Option Bool :=
  some true
noncomputable def A4 (m:Int×Int×(List (List Int))×(List (List Int))) (table:List (List Int)) (is0:Int×Int×(List (List Int))×(List (List Int))) (st1:Int):Option (Step Int (Sum Unit Unit)) :=
  if (decide (st1<(table.length:Int)))=true then
  ck (0≤st1) <| ck (st1<(table.length:Int)) <| if (!(decide (((table.getD st1.toNat []).length:Int)=m.2.1)))=true then
  some (.done (Sum.inl ()))
  else
  (a34 is0 (table.getD st1.toNat [])).bind fun v0 =>
  if (!v0)=true then
  some (.done (Sum.inl ()))
  else
  ck (InK .i64 (st1+1)) <| some (.next (st1+1))
  else
  some (.done (Sum.inr ()))
noncomputable def F6 (m:Int×Int×(List (List Int))×(List (List Int))) (table:List (List Int)) (is0:Int×Int×(List (List Int))×(List (List Int))):Option Bool :=
  if (!(decide ((table.length:Int)=m.1)))=true then
  some false
  else
  (g9 (A4 m table is0) 0).bind fun x=>match x with
  | .inl _=>(some false)
  | .inr _=>(G8)
/- lineal/spec.isAnswer -/
noncomputable def X7 (n:Int):Option Bool :=
  if (decide (0≤n))=true then
  some (decide (n≤5))
  else
  some false
/- lineal/spec.all -/
noncomputable def a0U:Option Bool :=
  some true
noncomputable def X8 (numbers:List Int) (st1:Int):Option (Step Int (Sum Unit Unit)) :=
  if (decide (st1<(numbers.length:Int)))=true then
  ck (0≤st1) <| ck (st1<(numbers.length:Int)) <| (X7 (numbers.getD st1.toNat 0)).bind fun v0 =>
  if (!v0)=true then
  some (.done (Sum.inl ()))
  else
  ck (InK .i64 (st1+1)) <| some (.next (st1+1))
  else
  some (.done (Sum.inr ()))
noncomputable def a1H (numbers:List Int):Option Bool :=
  (g9 (X8 numbers) 0).bind fun x=>match x with
  | .inl _=>(some false)
  | .inr _=>(a0U)
/- (lineal/spec.machine).isTable -/
noncomputable def E1:Option Bool :=
  some true
noncomputable def v8 (m:Int×Int×(List (List Int))×(List (List Int))) (table:List (List Int)) (st1:Int):Option (Step Int (Sum Unit Unit)) :=
  if (decide (st1<(table.length:Int)))=true then
  ck (0≤st1) <| ck (st1<(table.length:Int)) <| if (!(decide (((table.getD st1.toNat []).length:Int)=m.2.1)))=true then
  some (.done (Sum.inl ()))
  else
  (a1H (table.getD st1.toNat [])).bind fun v0 =>
  if (!v0)=true then
  some (.done (Sum.inl ()))
  else
  ck (InK .i64 (st1+1)) <| some (.next (st1+1))
  else
  some (.done (Sum.inr ()))
noncomputable def C7 (m:Int×Int×(List (List Int))×(List (List Int))) (table:List (List Int)):Option Bool :=
  if (!(decide ((table.length:Int)=m.1)))=true then
  some false
  else
  (g9 (v8 m table) 0).bind fun x=>match x with
  | .inl _=>(some false)
  | .inr _=>(E1)
/- lineal/spec.Valid -/
noncomputable def a0H (s:Int×Int×(List (List Int))×(List (List Int))):Option Bool :=
  if (decide (s.1<1))=true then
  some false
  else
  if (decide (8<s.1))=true then
  some false
  else
  if (decide (s.2.1<1))=true then
  some false
  else
  if (decide (4<s.2.1))=true then
  some false
  else
  (F6 s s.2.2.1 s).bind fun v0 =>
  if v0=true then
  (C7 s s.2.2.2).bind fun v0_2 =>
  some v0_2
  else
  some false
/- lineal/code.checkSpec -/
noncomputable def M0 (s:Int×Int×(List (List Int))×(List (List Int))) (c:List (List (Int×Int×Int×Int))):Option Int :=
  (a0Q c).bind fun v0 =>
  if (!v0)=true then
  some 80
  else
  (a0H s).bind fun v0_2 =>
  if (!v0_2)=true then
  some 10
  else
  if (!(decide (s.2.1=(c.length:Int))))=true then
  some 10
  else
  some 0
/- lineal/history.within -/
noncomputable def y8 (n:Int) (least:Int) (most:Int):Option Bool :=
  if (decide (least≤n))=true then
  some (decide (n≤most))
  else
  some false
/- lineal/history.checkSpecs -/
noncomputable def T5:Option Int :=
  some 0
noncomputable def y7 (specs:ZS) (st1:Int):Option (Step Int (Sum Unit Unit)) :=
  if (decide (st1<(specs.length:Int)))=true then
  ck (0≤st1) <| ck (st1<(specs.length:Int)) <| (a0H (specs.getD st1.toNat (0,0,[],[]))).bind fun v0_2 =>
  if (!v0_2)=true then
  some (.done (Sum.inl ()))
  else
  ck (InK .i64 (st1+1)) <| some (.next (st1+1))
  else
  some (.done (Sum.inr ()))
noncomputable def L7 (specs:ZS):Option Int :=
  (y8 (specs.length:Int) 1 2).bind fun v0 =>
  if (!v0)=true then
  some 10
  else
  (g9 (y7 specs) 0).bind fun x=>match x with
  | .inl _=>(some 10)
  | .inr _=>(T5)
/- lineal/history.isCall -/
noncomputable def H7 (c:Int×Int×Int×Int×Int×Int) (b1:Bool) (b2:Bool):Option Bool :=
  (y8 c.1 0 3).bind fun v0 =>
  if v0=true then
  (y8 c.2.1 0 1).bind fun v0_2 =>
  if v0_2=true then
  (y8 c.2.2.1 0 3).bind fun v0_3 =>
  if v0_3=true then
  (y8 c.2.2.2.1 0 9).bind fun v0_4 =>
  if v0_4=true then
  (y8 c.2.2.2.2.1 1 100).bind fun v0_5 =>
  if v0_5=true then
  if b1=true then
  some true
  else
  some b2
  else
  some false
  else
  some false
  else
  some false
  else
  some false
  else
  some false
noncomputable def P3 (c:Int×Int×Int×Int×Int×Int) (b1:Bool):Option Bool :=
  if (decide (c.2.2.2.2.1<c.2.2.2.2.2))=true then
  H7 c b1 (decide (c.2.2.2.2.2≤100))
  else
  H7 c b1 false
noncomputable def V0 (c:Int×Int×Int×Int×Int×Int):Option Bool :=
  if (decide (c.2.2.2.2.2=0))=true then
  P3 c (decide (c.2.2.2.1=0))
  else
  P3 c false
/- lineal/history.before -/
noncomputable def L8 (a:Int×Int×Int×Int×Int×Int) (b:Int×Int×Int×Int×Int×Int):Option Bool :=
  if (!(decide (a.2.2.2.2.2=0)))=true then
  some (decide (a.2.2.2.2.2<b.2.2.2.2.1))
  else
  some false
/- lineal/history.apart -/
noncomputable def K5 (a:Int×Int×Int×Int×Int×Int) (b:Int×Int×Int×Int×Int×Int):Option Bool :=
  if (!(decide (a.1=b.1)))=true then
  some true
  else
  (L8 a b).bind fun v0 =>
  if v0=true then
  some true
  else
  (L8 b a).bind fun v0_2 =>
  some v0_2
noncomputable def Y9 (a:Int×Int×Int×Int×Int×Int) (b:Int×Int×Int×Int×Int×Int):Option Bool :=
  if (decide (a.2.2.2.2.1=b.2.2.2.2.1))=true then
  some false
  else
  if (decide (a.2.2.2.2.1=b.2.2.2.2.2))=true then
  some false
  else
  if (decide (a.2.2.2.2.2=b.2.2.2.2.1))=true then
  some false
  else
  if (decide (a.2.2.2.2.2=b.2.2.2.2.2))=true then
  if (!(decide (a.2.2.2.2.2=0)))=true then
  some false
  else
  K5 a b
  else
  K5 a b
/- lineal/history.Valid -/
noncomputable def W9:Option Bool :=
  some true
noncomputable def W8 (st1:Int):Option (Step Int (Sum Unit Unit)) :=
  ck (InK .i64 (st1+1)) <| some (.next (st1+1))
noncomputable def K6 (h0:ZH) (st1:Int) (st2:Int):Option (Step Int (Sum Unit Unit)) :=
  if (decide (st2<((h0.take st1.toNat).length:Int)))=true then
  ck (0≤st2) <| ck (st2<((h0.take st1.toNat).length:Int)) <| (Y9 (h0.getD st1.toNat (0,0,0,0,0,0)) ((h0.take st1.toNat).getD st2.toNat (0,0,0,0,0,0))).bind fun v0_2 =>
  if (!v0_2)=true then
  some (.done (Sum.inl ()))
  else
  ck (InK .i64 (st2+1)) <| some (.next (st2+1))
  else
  some (.done (Sum.inr ()))
noncomputable def K7 (h0:ZH) (st1:Int):Option (Step Int (Sum Unit Unit)) :=
  if (decide (st1<(h0.length:Int)))=true then
  ck (0≤st1) <| ck (st1<(h0.length:Int)) <| (V0 (h0.getD st1.toNat (0,0,0,0,0,0))).bind fun v0 =>
  if (!v0)=true then
  some (.done (Sum.inl ()))
  else
  ck (0≤st1) <| ck (st1≤(h0.length:Int)) <| (g9 (K6 h0 st1) 0).bind fun x=>match x with
  | .inl _=>(some (.done (Sum.inl ())))
  | .inr _=>(W8 st1)
  else
  some (.done (Sum.inr ()))
noncomputable def Z0 (h0:ZH):Option Bool :=
  if (decide (8<(h0.length:Int)))=true then
  some false
  else
  (g9 (K7 h0) 0).bind fun x=>match x with
  | .inl _=>(some false)
  | .inr _=>(W9)
/- lineal/history.fits -/
noncomputable def a1p:Option Bool :=
  some true
noncomputable def N2 (specs:ZS) (h0:ZH) (st1:Int):Option (Step Int (Sum Unit Unit)) :=
  if (decide (st1<(h0.length:Int)))=true then
  ck (0≤st1) <| ck (st1<(h0.length:Int)) <| if (decide ((specs.length:Int)≤(h0.getD st1.toNat (0,0,0,0,0,0)).2.1))=true then
  some (.done (Sum.inl ()))
  else
  ck (0≤(h0.getD st1.toNat (0,0,0,0,0,0)).2.1) <| ck ((h0.getD st1.toNat (0,0,0,0,0,0)).2.1<(specs.length:Int)) <| if (decide ((specs.getD (h0.getD st1.toNat (0,0,0,0,0,0)).2.1.toNat (0,0,[],[])).2.1≤(h0.getD st1.toNat (0,0,0,0,0,0)).2.2.1))=true then
  some (.done (Sum.inl ()))
  else
  ck (InK .i64 (st1+1)) <| some (.next (st1+1))
  else
  some (.done (Sum.inr ()))
noncomputable def a0v (specs:ZS) (h0:ZH):Option Bool :=
  (g9 (N2 specs h0) 0).bind fun x=>match x with
  | .inl _=>(some false)
  | .inr _=>(a1p)
/- lineal/history.checkFor -/
noncomputable def F2 (specs:ZS) (h0:ZH):Option Int :=
  (L7 specs).bind fun v0 =>
  if (!(decide (v0=0)))=true then
  some v0
  else
  (Z0 h0).bind fun v0_2 =>
  if (!v0_2)=true then
  some 20
  else
  (a0v specs h0).bind fun v0_3 =>
  if (!v0_3)=true then
  some 20
  else
  some 0
/- lineal/history.newSearch -/
noncomputable def T9 (specs:ZS) (h0:ZH):Option Unit :=
  some ()
/- (lineal/history.place).has -/
noncomputable def D1 (p:(Int×Int)×Int) (call:Int):Option Unit :=
  ck (0≤call) <| some ()
/- (lineal/history.search).full -/
noncomputable def S2:Option Bool :=
  some true
noncomputable def v6 (s_2:ZH) (at0:(Int×Int)×Int) (st1:Int):Option (Step Int (Sum Unit Unit)) :=
  if (decide (st1<(s_2.length:Int)))=true then
  ck (0≤st1) <| ck (st1<(s_2.length:Int)) <| if (!(decide ((s_2.getD st1.toNat (0,0,0,0,0,0)).2.2.2.2.2=0)))=true then
  (D1 at0 st1).bind fun v0 =>
  if (!(!(decide ((a5h .u64 at0.2 (a2C .u64 1 st1))=0))))=true then
  some (.done (Sum.inl ()))
  else
  ck (InK .i64 (st1+1)) <| some (.next (st1+1))
  else
  ck (InK .i64 (st1+1)) <| some (.next (st1+1))
  else
  some (.done (Sum.inr ()))
noncomputable def I4 (s:ZS) (s_2:ZH) (at0:(Int×Int)×Int):Option Bool :=
  (g9 (v6 s_2 at0) 0).bind fun x=>match x with
  | .inl _=>(some false)
  | .inr _=>(S2)
/- (lineal/history.search).steps -/
noncomputable def P2 (s:ZS) (s_2:ZH) (at0:(Int×Int)×Int):Option Unit :=
  some ()
/- lineal/history.inTime -/
noncomputable def G4 (a:Int×Int×Int×Int×Int×Int) (b:Int×Int×Int×Int×Int×Int):Option Bool :=
  (L8 b a).bind fun v0 =>
  some v0
/- (lineal/history.search).ready -/
noncomputable def R0:Option Bool :=
  some true
noncomputable def u7 (s_2:ZH) (at0:(Int×Int)×Int) (call:Int) (st1:Int):Option (Step Int (Sum Unit Unit)) :=
  if (decide (st1<(s_2.length:Int)))=true then
  ck (0≤st1) <| ck (st1<(s_2.length:Int)) <| ck (0≤call) <| ck (call<(s_2.length:Int)) <| (G4 (s_2.getD call.toNat (0,0,0,0,0,0)) (s_2.getD st1.toNat (0,0,0,0,0,0))).bind fun v0_2 =>
  if v0_2=true then
  (D1 at0 st1).bind fun v0_3 =>
  if (!(!(decide ((a5h .u64 at0.2 (a2C .u64 1 st1))=0))))=true then
  some (.done (Sum.inl ()))
  else
  ck (InK .i64 (st1+1)) <| some (.next (st1+1))
  else
  ck (InK .i64 (st1+1)) <| some (.next (st1+1))
  else
  some (.done (Sum.inr ()))
noncomputable def G3 (s:ZS) (s_2:ZH) (at0:(Int×Int)×Int) (call:Int):Option Bool :=
  (D1 at0 call).bind fun v0 =>
  if (!(decide ((a5h .u64 at0.2 (a2C .u64 1 call))=0)))=true then
  some false
  else
  (g9 (u7 s_2 at0 call) 0).bind fun x=>match x with
  | .inl _=>(some false)
  | .inr _=>(R0)
/- (*lineal/history.states).answer -/
noncomputable def s8 (c:Int×Int×Int×Int×Int×Int) (b1:Int×Int×Int×(List (List Int))×(List (List Int))×Int) (b2:Int×Int×Int):Option (Int×Int×Int) :=
  ck (0≤b1.2.2.2.2.2) <| ck (b1.2.2.2.2.2<(b1.2.2.2.2.1.length:Int)) <| ck (0≤c.2.2.1) <| ck (c.2.2.1<((b1.2.2.2.2.1.getD b1.2.2.2.2.2.toNat []).length:Int)) <| some (((b1.2.2.2.2.1.getD b1.2.2.2.2.2.toNat []).getD c.2.2.1.toNat 0),b2.2)
noncomputable def t5 (c:Int×Int×Int×Int×Int×Int) (s:(Int×Int)×Int) (b1:Int×Int×Int×(List (List Int))×(List (List Int))×Int):Option (Int×Int×Int) :=
  ck (0≤b1.2.2.2.2.2) <| ck (b1.2.2.2.2.2<(b1.2.2.2.1.length:Int)) <| ck (0≤c.2.2.1) <| ck (c.2.2.1<((b1.2.2.2.1.getD b1.2.2.2.2.2.toNat []).length:Int)) <| ck (0≤b1.1) <| ck (b1.1<2) <| if (decide (b1.1=0))=true then
  s8 c b1 (0,((b1.2.2.2.1.getD b1.2.2.2.2.2.toNat []).getD c.2.2.1.toNat 0),s.1.2)
  else
  s8 c b1 (1,s.1.1,((b1.2.2.2.1.getD b1.2.2.2.2.2.toNat []).getD c.2.2.1.toNat 0))
noncomputable def E5 (specs:ZS) (c:Int×Int×Int×Int×Int×Int) (s:(Int×Int)×Int):Option (Int×Int×Int) :=
  ck (0≤c.2.1) <| ck (c.2.1<(specs.length:Int)) <| ck (0≤c.2.1) <| ck (c.2.1<2) <| if (decide (c.2.1=0))=true then
  t5 c s (0,(specs.getD 0 (0,0,[],[])).1,(specs.getD 0 (0,0,[],[])).2.1,(specs.getD 0 (0,0,[],[])).2.2.1,(specs.getD 0 (0,0,[],[])).2.2.2,s.1.1)
  else
  t5 c s (1,(specs.getD 1 (0,0,[],[])).1,(specs.getD 1 (0,0,[],[])).2.1,(specs.getD 1 (0,0,[],[])).2.2.1,(specs.getD 1 (0,0,[],[])).2.2.2,s.1.2)
/- (*lineal/history.states).allow -/
noncomputable def G0 (specs:ZS) (c:Int×Int×Int×Int×Int×Int) (s:(Int×Int)×Int):Option (Bool×Int×Int) :=
  (E5 specs c s).bind fun v0 =>
  if (decide (c.2.2.2.2.2=0))=true then
  some (true,v0.2)
  else
  some ((decide (v0.1=c.2.2.2.1)),v0.2)
/- (lineal/history.search).steps$1 -/
noncomputable def s4 (S R:Type) (a1:ZS) (a1_2:ZH) (a2:(Int×Int)×Int) (yl:Int×((Int×Int)×Int)→S→Option (Step S R)) (st1:Int×S):Option (Step (Int×S) (Sum R S)) :=
  if (decide (st1.1<(a1_2.length:Int)))=true then
  ck (0≤st1.1) <| ck (st1.1<(a1_2.length:Int)) <| (G3 a1 a1_2 a2 st1.1).bind fun v0 =>
  if (!v0)=true then
  ck (InK .i64 (st1.1+1)) <| some (.next ((st1.1+1),st1.2))
  else
  (G0 a1 (a1_2.getD st1.1.toNat (0,0,0,0,0,0)) a2).bind fun v0_2 =>
  if (!v0_2.1)=true then
  ck (InK .i64 (st1.1+1)) <| some (.next ((st1.1+1),st1.2))
  else
  ck (0≤st1.1) <| (yl (st1.1,v0_2.2,(ior .u64 a2.2 (a2C .u64 1 st1.1))) st1.2).bind fun x=>match x with
  | .next s=>(ck (InK .i64 (st1.1+1)) <| some (.next ((st1.1+1),s)))
  | .done e=>(some (.done (Sum.inl e)))
  else
  some (.done (Sum.inr st1.2))
noncomputable def D0 (S R:Type) (a1:ZS) (a1_2:ZH) (a2:(Int×Int)×Int) (yl:Int×((Int×Int)×Int)→S→Option (Step S R)) (s0:S):Option (Sum S R) :=
  (g9 (s4 S R a1 a1_2 a2 yl) (0,s0)).bind fun x=>match x with
  | .inl r1=>(some (Sum.inr r1))
  | .inr r1_2=>(some (Sum.inl r1_2))
/- (lineal/history.search).count -/
noncomputable def H6 (at0:(Int×Int)×Int) (b2:ZM×Int):Option (Int×ZM) :=
  ck (InK .i64 at0.1.1) <| ck (InK .i64 at0.1.2) <| ck (InK .u64 at0.2) <| some (b2.2,(a1m b2.1 at0 b2.2))
noncomputable def r4 (slf:ZS→ZH→((Int×Int)×Int)→ZM→Option (Int×ZM)) (s:ZS) (s_2:ZH) (y1:Int×((Int×Int)×Int)) (st1:ZM×Int):Option (Step (ZM×Int) Empty) :=
  (slf s s_2 y1.2 st1.1).bind fun v0_3 =>
  ck (InK .i64 (st1.2+v0_3.1)) <| some (.next (v0_3.2,(st1.2+v0_3.1)))
noncomputable def u9 (slf:ZS→ZH→((Int×Int)×Int)→ZM→Option (Int×ZM)) (s:ZS) (s_2:ZH) (at0:(Int×Int)×Int) (s_3:ZM) (b1:Int):Option (Int×ZM) :=
  (P2 s s_2 at0).bind fun v0_2 =>
  (D0 (ZM×Int) Empty s s_2 at0 (r4 slf s s_2) (s_3,b1)).bind fun x=>match x with
  | .inl st1_2=>(H6 at0 st1_2)
  | .inr r=>r.elim
noncomputable def E6 (slf:ZS→ZH→((Int×Int)×Int)→ZM→Option (Int×ZM)) (s:ZS) (s_2:ZH) (at0:(Int×Int)×Int) (s_3:ZM):Option (Int×ZM) :=
  ck (InK .i64 at0.1.1) <| ck (InK .i64 at0.1.2) <| ck (InK .u64 at0.2) <| if (a2A s_3 at0)=true then
  some ((a2W 0 s_3 at0),s_3)
  else
  (I4 s s_2 at0).bind fun v0 =>
  if v0=true then
  u9 slf s s_2 at0 s_3 1
  else
  u9 slf s s_2 at0 s_3 0
noncomputable def r8 (n:Nat):ZS→ZH→((Int×Int)×Int)→ZM→Option (Int×ZM):=Nat.rec (motive:=fun _=>ZS→ZH→((Int×Int)×Int)→ZM→Option (Int×ZM)) (fun _ _ _ _=>none) (fun _ slf=>E6 slf) n
/- lineal/history.Linear$1 -/
noncomputable def X0 (a0:ZS) (a1:ZH):Option Bool :=
  (T9 a0 a1).bind fun v0 =>
  (r8 I3 a0 a1 ((0,0),0) []).bind fun v0_2 =>
  some (decide (0<v0_2.1))
/- lineal/history.told[bool] -/
noncomputable def a0u (c0:ZS) (c1:ZH):Option Bool :=
  (X0 c0 c1).bind fun v0 =>
  some v0
/- lineal/history.told[bool] -/
noncomputable def a1Q (err:Int) (c0:ZS) (c1:ZH):Option Unit :=
  some ()
/- lineal/history.Linear -/
noncomputable def R2 (specs:ZS) (h0:ZH):Option (Bool×Int) :=
  (F2 specs h0).bind fun v0 =>
  if (decide (v0=0))=true then
  (a0u specs h0).bind fun v0_2 =>
  some (v0_2,0)
  else
  (a1Q v0 specs h0).bind fun v0_3 =>
  some (false,v0)
/- (lineal/code.run).breaks -/
noncomputable def Z9 (r0:((List (List (Int×Int×Int×Int)))×(List (List Int)))×(List Int)×(El T72)×(Int×Int×Int)×(El T77)×(El T78)×Int) (s:Int×Int×(List (List Int))×(List (List Int))):Option Bool :=
  (F4 r0).bind fun v0 =>
  (R2 [s] v0).bind fun v0_2 =>
  some (!v0_2.1)
/- lineal/code.Breaks -/
noncomputable def a0o (s:Int×Int×(List (List Int))×(List (List Int))) (c:List (List (Int×Int×Int×Int))) (use:List (List Int)) (schedule:List Int):Option (Bool×Int) :=
  (M0 s c).bind fun v0 =>
  if (!(decide (v0=0)))=true then
  some (false,v0)
  else
  (P4 c use schedule).bind fun v0_2 =>
  if (!(decide (v0_2.2.2.2.2.2.2.2.2.2.2=0)))=true then
  some (false,v0_2.2.2.2.2.2.2.2.2.2.2)
  else
  (Z9 ((v0_2.1,v0_2.2.1),v0_2.2.2.1,v0_2.2.2.2.1,(v0_2.2.2.2.2.1,v0_2.2.2.2.2.2.1,v0_2.2.2.2.2.2.2.1),v0_2.2.2.2.2.2.2.2.1,v0_2.2.2.2.2.2.2.2.2.1,v0_2.2.2.2.2.2.2.2.2.2.1) s).bind fun v0_3 =>
  some (v0_3,0)
/- lineal/linealref08.within -/
noncomputable def l5 (lo:Int) (n:Int) (hi:Int):Option Bool :=
  if (decide (lo≤n))=true then
  some (decide (n≤hi))
  else
  some false
/- lineal/linealref08.isRegister -/
noncomputable def j0 (n:Int):Option Bool :=
  (l5 0 n 3).bind fun v0 =>
  some v0
/- lineal/linealref08.isCell -/
noncomputable def z7 (n:Int):Option Bool :=
  (l5 0 n 2).bind fun v0 =>
  some v0
/- lineal/linealref08.isNumber -/
noncomputable def F9 (n:Int):Option Bool :=
  (l5 0 n 9).bind fun v0 =>
  some v0
/- lineal/linealref08.isLine -/
noncomputable def L5 (l:Int×Int×Int×Int) (lines:Int):Option Bool :=
  if (decide (l.1=1))=true then
  (j0 l.2.1).bind fun v0 =>
  if v0=true then
  (z7 l.2.2.1).bind fun v0_2 =>
  if v0_2=true then
  some (decide (l.2.2.2=0))
  else
  some false
  else
  some false
  else
  if (decide (l.1=2))=true then
  (z7 l.2.1).bind fun v0_3 =>
  if v0_3=true then
  (j0 l.2.2.1).bind fun v0_4 =>
  if v0_4=true then
  some (decide (l.2.2.2=0))
  else
  some false
  else
  some false
  else
  if (decide (l.1=3))=true then
  (z7 l.2.1).bind fun v0_5 =>
  if v0_5=true then
  (j0 l.2.2.1).bind fun v0_6 =>
  if v0_6=true then
  (j0 l.2.2.2).bind fun v0_7 =>
  some v0_7
  else
  some false
  else
  some false
  else
  if (decide (l.1=4))=true then
  (j0 l.2.1).bind fun v0_8 =>
  if v0_8=true then
  (F9 l.2.2.1).bind fun v0_9 =>
  if v0_9=true then
  some (decide (l.2.2.2=0))
  else
  some false
  else
  some false
  else
  if (decide (l.1=5))=true then
  (j0 l.2.1).bind fun v0_10 =>
  if v0_10=true then
  (j0 l.2.2.1).bind fun v0_11 =>
  if v0_11=true then
  (j0 l.2.2.2).bind fun v0_12 =>
  some v0_12
  else
  some false
  else
  some false
  else
  if (decide (l.1=6))=true then
  (j0 l.2.1).bind fun v0_13 =>
  if v0_13=true then
  ck (InK .i64 (lines - 1)) <| (l5 0 l.2.2.1 (lines - 1)).bind fun v0_14 =>
  if v0_14=true then
  some (decide (l.2.2.2=0))
  else
  some false
  else
  some false
  else
  if (decide (l.1=7))=true then
  (j0 l.2.1).bind fun v0_15 =>
  if v0_15=true then
  if (decide (l.2.2.1=0))=true then
  some (decide (l.2.2.2=0))
  else
  some false
  else
  some false
  else
  some false
/- lineal/linealref08.Valid -/
noncomputable def U5:Option Bool :=
  some true
noncomputable def O0 (st1:Int):Option (Step Int (Sum Unit Unit)) :=
  ck (InK .i64 (st1+1)) <| some (.next (st1+1))
noncomputable def N9 (c:List (List (Int×Int×Int×Int))) (st1:Int):Option (Step Int (Sum Unit Unit)) :=
  ck (0≤st1) <| ck (st1<(c.length:Int)) <| ck (0≤st1) <| ck (st1<(c.length:Int)) <| ck (InK .i64 (((c.getD st1.toNat []).length:Int) - 1)) <| ck (0≤(((c.getD st1.toNat []).length:Int) - 1)) <| ck ((((c.getD st1.toNat []).length:Int) - 1)<((c.getD st1.toNat []).length:Int)) <| if (!(decide (((c.getD st1.toNat []).getD (((c.getD st1.toNat []).length:Int) - 1).toNat (0,0,0,0)).1=7)))=true then
  some (.done (Sum.inl ()))
  else
  O0 st1
noncomputable def A5 (c:List (List (Int×Int×Int×Int))) (st1:Int) (st2:Int):Option (Step Int (Sum Unit Unit)) :=
  ck (0≤st1) <| ck (st1<(c.length:Int)) <| if (decide (st2<((c.getD st1.toNat []).length:Int)))=true then
  ck (0≤st1) <| ck (st1<(c.length:Int)) <| ck (0≤st2) <| ck (st2<((c.getD st1.toNat []).length:Int)) <| ck (0≤st1) <| ck (st1<(c.length:Int)) <| (L5 ((c.getD st1.toNat []).getD st2.toNat (0,0,0,0)) ((c.getD st1.toNat []).length:Int)).bind fun v0_3 =>
  if (!v0_3)=true then
  some (.done (Sum.inl ()))
  else
  ck (InK .i64 (st2+1)) <| some (.next (st2+1))
  else
  some (.done (Sum.inr ()))
noncomputable def A6 (c:List (List (Int×Int×Int×Int))) (st1:Int):Option (Step Int (Sum Unit Unit)) :=
  if (decide (st1<(c.length:Int)))=true then
  ck (0≤st1) <| ck (st1<(c.length:Int)) <| (l5 1 ((c.getD st1.toNat []).length:Int) 8).bind fun v0_2 =>
  if (!v0_2)=true then
  some (.done (Sum.inl ()))
  else
  (g9 (A5 c st1) 0).bind fun x=>match x with
  | .inl _=>(some (.done (Sum.inl ())))
  | .inr _=>(N9 c st1)
  else
  some (.done (Sum.inr ()))
noncomputable def O1 (c:List (List (Int×Int×Int×Int))):Option Bool :=
  (l5 1 (c.length:Int) 4).bind fun v0 =>
  if (!v0)=true then
  some false
  else
  (g9 (A6 c) 0).bind fun x=>match x with
  | .inl _=>(some false)
  | .inr _=>(U5)
/- lineal/linealref01.isTable -/
noncomputable def J0:Option Bool :=
  some true
noncomputable def I9 (st1:Int):Option (Step Int (Sum Unit Unit)) :=
  ck (InK .i64 (st1+1)) <| some (.next (st1+1))
noncomputable def C8 (l:List (List Int)) (limit:Int) (st1:Int) (st2:Int):Option (Step Int (Sum Unit Unit)) :=
  if (decide (st2<((l.getD st1.toNat []).length:Int)))=true then
  ck (0≤st2) <| ck (st2<((l.getD st1.toNat []).length:Int)) <| if (decide (((l.getD st1.toNat []).getD st2.toNat 0)<0))=true then
  some (.done (Sum.inl ()))
  else
  if (decide (limit≤((l.getD st1.toNat []).getD st2.toNat 0)))=true then
  some (.done (Sum.inl ()))
  else
  ck (InK .i64 (st2+1)) <| some (.next (st2+1))
  else
  some (.done (Sum.inr ()))
noncomputable def C9 (s:Int×Int×(List (List Int))×(List (List Int))) (l:List (List Int)) (limit:Int) (st1:Int):Option (Step Int (Sum Unit Unit)) :=
  if (decide (st1<(l.length:Int)))=true then
  ck (0≤st1) <| ck (st1<(l.length:Int)) <| if (!(decide (((l.getD st1.toNat []).length:Int)=s.2.1)))=true then
  some (.done (Sum.inl ()))
  else
  (g9 (C8 l limit st1) 0).bind fun x=>match x with
  | .inl _=>(some (.done (Sum.inl ())))
  | .inr _=>(I9 st1)
  else
  some (.done (Sum.inr ()))
noncomputable def D5 (s:Int×Int×(List (List Int))×(List (List Int))) (l:List (List Int)) (limit:Int):Option Bool :=
  if (!(decide ((l.length:Int)=s.1)))=true then
  some false
  else
  (g9 (C9 s l limit) 0).bind fun x=>match x with
  | .inl _=>(some false)
  | .inr _=>(J0)
/- lineal/linealref01.Valid -/
noncomputable def O4 (s:Int×Int×(List (List Int))×(List (List Int))):Option Bool :=
  if (decide (1≤s.1))=true then
  if (decide (s.1≤8))=true then
  if (decide (1≤s.2.1))=true then
  if (decide (s.2.1≤4))=true then
  (D5 s s.2.2.1 s.1).bind fun v0 =>
  if v0=true then
  (D5 s s.2.2.2 6).bind fun v0_2 =>
  some v0_2
  else
  some false
  else
  some false
  else
  some false
  else
  some false
  else
  some false
/- lineal/linealref08.isSpec -/
/- lineal/linealref08.IsUse -/
noncomputable def U6:Option Bool :=
  some true
noncomputable def O2 (st1:Int):Option (Step Int (Sum Unit Unit)) :=
  ck (InK .i64 (st1+1)) <| some (.next (st1+1))
noncomputable def A7 (c:List (List (Int×Int×Int×Int))) (use:List (List Int)) (st1:Int) (st2:Int):Option (Step Int (Sum Unit Unit)) :=
  ck (0≤st1) <| ck (st1<(use.length:Int)) <| if (decide (st2<((use.getD st1.toNat []).length:Int)))=true then
  ck (0≤st1) <| ck (st1<(use.length:Int)) <| ck (0≤st2) <| ck (st2<((use.getD st1.toNat []).length:Int)) <| ck (InK .i64 ((c.length:Int) - 1)) <| (l5 0 ((use.getD st1.toNat []).getD st2.toNat 0) ((c.length:Int) - 1)).bind fun v0_2 =>
  if (!v0_2)=true then
  some (.done (Sum.inl ()))
  else
  ck (InK .i64 (st2+1)) <| some (.next (st2+1))
  else
  some (.done (Sum.inr ()))
noncomputable def A8 (c:List (List (Int×Int×Int×Int))) (use:List (List Int)) (st1:Int):Option (Step Int (Sum Unit Unit)) :=
  if (decide (st1<(use.length:Int)))=true then
  ck (0≤st1) <| ck (st1<(use.length:Int)) <| if (decide (3<((use.getD st1.toNat []).length:Int)))=true then
  some (.done (Sum.inl ()))
  else
  (g9 (A7 c use st1) 0).bind fun x=>match x with
  | .inl _=>(some (.done (Sum.inl ())))
  | .inr _=>(O2 st1)
  else
  some (.done (Sum.inr ()))
noncomputable def O3 (c:List (List (Int×Int×Int×Int))) (use:List (List Int)):Option Bool :=
  (l5 1 (use.length:Int) 2).bind fun v0 =>
  if (!v0)=true then
  some false
  else
  (g9 (A8 c use) 0).bind fun x=>match x with
  | .inl _=>(some false)
  | .inr _=>(U6)
/- lineal/linealref08.asked -/
/- lineal/linealref08.specified -/
/- lineal/linealref08.Begin -/
/- (*lineal/linealref08.Play).HasLine -/
/- (*lineal/linealref08.Play).Step -/
/- (*lineal/linealref08.Play).HasLine -/
/- (*lineal/linealref08.Play).Step -/
/- lineal/linealref08.played -/
/- lineal/linealref08.run -/
/- lineal/linealref02.within -/
/- lineal/linealref02.areSpecs -/
/- lineal/linealref02.before -/
/- lineal/linealref02.meets -/
/- lineal/linealref02.Valid -/
/- lineal/linealref02.isFor -/
/- lineal/linealref02.asked -/
/- lineal/linealref02.isList -/
/- lineal/linealref02.has -/
/- lineal/linealref02.allows -/
/- lineal/linealref02.keepsThreads -/
/- lineal/linealref02.keepsTime -/
/- (*lineal/linealref02.search).from -/
/- (*lineal/linealref02.search).from -/
/- lineal/linealref02.Order -/
/- lineal/linealref02.Linear -/
/- lineal/linealref08.linear -/
/- lineal/linealref08.Breaks -/
/- lineal/code.areMarks -/
noncomputable def a0P:Option Bool :=
  some true
noncomputable def K8 (c:List (List (Int×Int×Int×Int))) (b8:List Int) (st1:Int):Option (Step Int (Sum Unit Unit)) :=
  if (decide (st1<(b8.length:Int)))=true then
  ck (0≤st1) <| ck (st1<(b8.length:Int)) <| ck (0≤st1) <| ck (st1<(c.length:Int)) <| (z6 (b8.getD st1.toNat 0) ((c.getD st1.toNat []).length:Int)).bind fun v0 =>
  if (!v0)=true then
  some (.done (Sum.inl ()))
  else
  ck (InK .i64 (st1+1)) <| some (.next (st1+1))
  else
  some (.done (Sum.inr ()))
noncomputable def P9 (c:List (List (Int×Int×Int×Int))) (b8:List Int):Option Bool :=
  if (!(decide ((b8.length:Int)=(c.length:Int))))=true then
  some false
  else
  (g9 (K8 c b8) 0).bind fun x=>match x with
  | .inl _=>(some false)
  | .inr _=>(a0P)
/- slices.Backward[[]lineal/code.deed,lineal/code.deed] -/
noncomputable def S0 (s:List (Int×Int)):Option Unit :=
  some ()
/- slices.Index[[]int,int] -/
noncomputable def Z5:Option Int :=
  some (-1)
noncomputable def M9 (s:List Int) (v0:Int) (st1:Int):Option (Step Int (Sum Int Unit)) :=
  if (decide (st1<(s.length:Int)))=true then
  ck (0≤st1) <| ck (st1<(s.length:Int)) <| if (decide (v0=(s.getD st1.toNat 0)))=true then
  some (.done (Sum.inl st1))
  else
  ck (InK .i64 (st1+1)) <| some (.next (st1+1))
  else
  some (.done (Sum.inr ()))
noncomputable def a1w (s:List Int) (v0:Int):Option Int :=
  (g9 (M9 s v0) 0).bind fun x=>match x with
  | .inl r1=>(some r1)
  | .inr _=>(Z5)
/- slices.Contains[[]int,int] -/
noncomputable def S4 (s:List Int) (v0:Int):Option Bool :=
  (a1w s v0).bind fun v0_2 =>
  some (decide (0≤v0_2))
/- slices.Backward[[]lineal/code.deed,lineal/code.deed]$1 -/
noncomputable def q8 (S R:Type) (a1:List (Int×Int)) (yl:Int×(Int×Int)→S→Option (Step S R)) (st1:Int×S):Option (Step (Int×S) (Sum R S)) :=
  if (decide (0≤st1.1))=true then
  ck (0≤st1.1) <| ck (st1.1<(a1.length:Int)) <| (yl (st1.1,(a1.getD st1.1.toNat (0,0))) st1.2).bind fun x=>match x with
  | .next s=>(ck (InK .i64 (st1.1 - 1)) <| some (.next ((st1.1 - 1),s)))
  | .done e=>(some (.done (Sum.inl e)))
  else
  some (.done (Sum.inr st1.2))
noncomputable def N7 (S R:Type) (a1:List (Int×Int)) (yl:Int×(Int×Int)→S→Option (Step S R)) (s0:S):Option (Sum S R) :=
  ck (InK .i64 ((a1.length:Int) - 1)) <| (g9 (q8 S R a1 yl) (((a1.length:Int) - 1),s0)).bind fun x=>match x with
  | .inl r1=>(some (Sum.inr r1))
  | .inr r1_2=>(some (Sum.inl r1_2))
/- (lineal/code.run).left -/
noncomputable def a0O (b1:(List Int)):Option ((List Int)) :=
  some b1
noncomputable def R4 (r0:((List (List (Int×Int×Int×Int)))×(List (List Int)))×(List Int)×(El T72)×(Int×Int×Int)×(El T77)×(El T78)×Int) (st1:(List Int)×Int):Option (Step ((List Int)×Int) ((List Int))) :=
  if (decide (st1.2<(r0.1.2.length:Int)))=true then
  (C4 r0 st1.2).bind fun v0 =>
  if v0=true then
  ck ((st1.1.length+1)*8≤140737488355328) <| ck (InK .i64 (st1.2+1)) <| some (.next ((st1.1++[st1.2]),(st1.2+1)))
  else
  ck (InK .i64 (st1.2+1)) <| some (.next (st1.1,(st1.2+1)))
  else
  some (.done st1.1)
noncomputable def C5 (r0:((List (List (Int×Int×Int×Int)))×(List (List Int)))×(List Int)×(El T72)×(Int×Int×Int)×(El T77)×(El T78)×Int):Option ((List Int)) :=
  (g9 (R4 r0) ([],0)).bind fun r1 =>
  a0O r1
/- (lineal/code.run).isOver -/
noncomputable def N4 (r0:((List (List (Int×Int×Int×Int)))×(List (List Int)))×(List Int)×(El T72)×(Int×Int×Int)×(El T77)×(El T78)×Int):Option Bool :=
  (C5 r0).bind fun v0 =>
  some (decide ((v0.length:Int)=0))
/- slices.Reverse[[]int,int] -/
noncomputable def N6 (st1:(List Int)×Int×Int):Option (Step ((List Int)×Int×Int) ((List Int))) :=
  if (decide (st1.2.1<st1.2.2))=true then
  ck (0≤st1.2.2) <| ck (st1.2.2<(st1.1.length:Int)) <| ck (0≤st1.2.1) <| ck (st1.2.1<(st1.1.length:Int)) <| ck (0≤st1.2.1) <| ck (st1.2.1<(st1.1.length:Int)) <| ck (0≤st1.2.2) <| ck (st1.2.2<((st1.1.set st1.2.1.toNat (st1.1.getD st1.2.2.toNat 0)).length:Int)) <| ck (InK .i64 (st1.2.1+1)) <| ck (InK .i64 (st1.2.2 - 1)) <| some (.next (((st1.1.set st1.2.1.toNat (st1.1.getD st1.2.2.toNat 0)).set st1.2.2.toNat (st1.1.getD st1.2.1.toNat 0)),(st1.2.1+1),(st1.2.2 - 1)))
  else
  some (.done st1.1)
noncomputable def U3 (s:List Int):Option ((List Int)) :=
  ck (InK .i64 ((s.length:Int) - 1)) <| (g9 (N6) (s,0,((s.length:Int) - 1))).bind fun r1 =>
  some r1
/- (lineal/code.run).marked -/
noncomputable def S3 (r0:((List (List (Int×Int×Int×Int)))×(List (List Int)))×(List Int)×(El T72)×(Int×Int×Int)×(El T77)×(El T78)×Int) (b2_2:(List Int)):Option ((List Int)×Bool) :=
  (N4 r0).bind fun v0_3 =>
  if (!v0_3)=true then
  some ([],false)
  else
  if (decide ((b2_2.length:Int)<r0.2.2.2.2.2.2))=true then
  some ([],false)
  else
  (U3 b2_2).bind fun v0_4 =>
  some (v0_4,true)
noncomputable def p4 (b8:List Int) (st1:(List Int)) (y1:Int×(Int×Int)) (b2:Int×Int):Option (Step ((List Int)) Empty) :=
  ck (0≤b2.2) <| ck (b2.2<(b8.length:Int)) <| if (decide (y1.2.2=(b8.getD b2.2.toNat 0)))=true then
  (S4 st1 b2.1).bind fun v0_2 =>
  if (!v0_2)=true then
  ck ((st1.length+1)*8≤140737488355328) <| some (.next (st1++[b2.1]))
  else
  some (.next st1)
  else
  some (.next st1)
noncomputable def s6 (r0:((List (List (Int×Int×Int×Int)))×(List (List Int)))×(List Int)×(El T72)×(Int×Int×Int)×(El T77)×(El T78)×Int) (b8:List Int) (y1:Int×(Int×Int)) (st1:(List Int)):Option (Step ((List Int)) Empty) :=
  ck (0≤y1.2.1) <| ck (y1.2.1<6) <| if (decide (y1.2.1=0))=true then
  p4 b8 st1 y1 (0,(b7 T78 r0.2.2.2.2.2.1 2))
  else
  if (decide (y1.2.1=1))=true then
  p4 b8 st1 y1 (1,(b7 T78 r0.2.2.2.2.2.1 8))
  else
  if (decide (y1.2.1=2))=true then
  p4 b8 st1 y1 (2,(b7 T78 r0.2.2.2.2.2.1 14))
  else
  if (decide (y1.2.1=3))=true then
  p4 b8 st1 y1 (3,(b7 T78 r0.2.2.2.2.2.1 20))
  else
  if (decide (y1.2.1=4))=true then
  p4 b8 st1 y1 (4,(b7 T78 r0.2.2.2.2.2.1 26))
  else
  p4 b8 st1 y1 (5,(b7 T78 r0.2.2.2.2.2.1 32))
noncomputable def N3 (r0:((List (List (Int×Int×Int×Int)))×(List (List Int)))×(List Int)×(El T72)×(Int×Int×Int)×(El T77)×(El T78)×Int) (b8:List Int):Option ((List Int)×Bool) :=
  ck ((r0.2.1.length:Int)≤12) <| (S0 ((T8 (.pair .i .i) 12 r0.2.2.1).take r0.2.1.length)).bind fun v0 =>
  (N7 ((List Int)) Empty ((T8 (.pair .i .i) 12 r0.2.2.1).take r0.2.1.length) (s6 r0 b8) []).bind fun x=>match x with
  | .inl st1_2=>(S3 r0 st1_2)
  | .inr r=>r.elim
/- lineal/code.Order -/
noncomputable def a12 (c:List (List (Int×Int×Int×Int))) (use:List (List Int)) (schedule:List Int) (b8:List Int):Option ((List Int)×Int) :=
  (P4 c use schedule).bind fun v0 =>
  if (!(decide (v0.2.2.2.2.2.2.2.2.2.2=0)))=true then
  some ([],v0.2.2.2.2.2.2.2.2.2.2)
  else
  (P9 c b8).bind fun v0_2 =>
  if (!v0_2)=true then
  some ([],2)
  else
  (N3 ((v0.1,v0.2.1),v0.2.2.1,v0.2.2.2.1,(v0.2.2.2.2.1,v0.2.2.2.2.2.1,v0.2.2.2.2.2.2.1),v0.2.2.2.2.2.2.2.1,v0.2.2.2.2.2.2.2.2.1,v0.2.2.2.2.2.2.2.2.2.1) b8).bind fun v0_3 =>
  if (!v0_3.2)=true then
  some ([],5)
  else
  some (v0_3.1,0)
/- lineal/linealref08.AreMarks -/
/- (*lineal/linealref08.Play).Over -/
/- (*lineal/linealref08.Play).order -/
/- lineal/linealref08.Order -/
/- lineal/linealref08.SameInts -/
/- lineal/lineallaw08.CodeBreaks -/
/- lineal/lineallaw08.IsCase -/
noncomputable def L6 (x0:(Int×Int×(List (List Int))×(List (List Int)))×(List (List (Int×Int×Int×Int)))×(List (List Int))):Option Bool :=
  (O7 x0).bind fun v0 =>
  if (!v0)=true then
  (O1 x0.2.1).bind fun v0_2 =>
  if v0_2=true then
  (O4 x0.1).bind fun v0_3 =>
  if v0_3=true then
  if (decide (x0.1.2.1=(x0.2.1.length:Int)))=true then
  (O3 x0.2.1 x0.2.2).bind fun v0_4 =>
  some v0_4
  else
  some false
  else
  some false
  else
  some false
  else
  some false
/- (lineal/code.program).runs -/
noncomputable def a0A (p:(List (List (Int×Int×Int×Int)))×(List (List Int))) (steps:Int):Option Unit :=
  some ()
/- lineal/code.runsOf -/
noncomputable def R7 (c:List (List (Int×Int×Int×Int))) (use:List (List Int)) (steps:Int):Option (Sum Int Unit) :=
  (T0 c use).bind fun v0 =>
  if (!(decide (v0=0)))=true then
  some (Sum.inl v0)
  else
  (z6 steps 13).bind fun v0_2 =>
  if (!v0_2)=true then
  some (Sum.inl 2)
  else
  (a0A (c,use) steps).bind fun v0_3 =>
  some (Sum.inr ())
/- lineal/history.isIndex -/
noncomputable def S6 (h0:ZH) (call:Int):Option Bool :=
  if (decide (0≤call))=true then
  some (decide (call<(h0.length:Int)))
  else
  some false
/- lineal/history.isOrder -/
noncomputable def a0i:Option Bool :=
  some true
noncomputable def F1 (h0:ZH) (b1:(List Bool)) (st2:Int):Option (Step Int (Sum Unit Unit)) :=
  if (decide (st2<(h0.length:Int)))=true then
  ck (0≤st2) <| ck (st2<(h0.length:Int)) <| if (!(decide ((h0.getD st2.toNat (0,0,0,0,0,0)).2.2.2.2.2=0)))=true then
  ck (0≤st2) <| ck (st2<(b1.length:Int)) <| ck (st2.toNat<b1.length) <| if (!(b1.getD st2.toNat false))=true then
  some (.done (Sum.inl ()))
  else
  ck (InK .i64 (st2+1)) <| some (.next (st2+1))
  else
  ck (InK .i64 (st2+1)) <| some (.next (st2+1))
  else
  some (.done (Sum.inr ()))
noncomputable def F0 (h0:ZH) (b1:(List Bool)):Option Bool :=
  (g9 (F1 h0 b1) 0).bind fun x=>match x with
  | .inl _=>(some false)
  | .inr _=>(a0i)
noncomputable def z8 (h0:ZH) (order:List Int) (st1:(List Bool)×Int):Option (Step ((List Bool)×Int) (Sum Unit ((List Bool)))) :=
  if (decide (st1.2<(order.length:Int)))=true then
  ck (0≤st1.2) <| ck (st1.2<(order.length:Int)) <| (S6 h0 (order.getD st1.2.toNat 0)).bind fun v0 =>
  if (!v0)=true then
  some (.done (Sum.inl ()))
  else
  ck (0≤(order.getD st1.2.toNat 0)) <| ck ((order.getD st1.2.toNat 0)<(st1.1.length:Int)) <| if (st1.1.getD (order.getD st1.2.toNat 0).toNat false)=true then
  some (.done (Sum.inl ()))
  else
  ck (0≤(order.getD st1.2.toNat 0)) <| ck ((order.getD st1.2.toNat 0)<(st1.1.length:Int)) <| ck (InK .i64 (st1.2+1)) <| some (.next ((st1.1.set (order.getD st1.2.toNat 0).toNat true),(st1.2+1)))
  else
  some (.done (Sum.inr st1.1))
noncomputable def N1 (h0:ZH) (order:List Int):Option Bool :=
  ck (1*(h0.length:Int)≤281474976710656) <| (g9 (z8 h0 order) ((List.replicate h0.length (false:Bool)),0)).bind fun x=>match x with
  | .inl _=>(some false)
  | .inr r1=>(F0 h0 r1)
/- (*lineal/history.states).answer -/
noncomputable def p6 (c:Int×Int×Int×Int×Int×Int) (b1:Int×Int×Int×(List (List Int))×(List (List Int))×Int) (b2:Int×Int×Int):Option (Int×Int×Int) :=
  ck (0≤b1.2.2.2.2.2) <| ck (b1.2.2.2.2.2<(b1.2.2.2.2.1.length:Int)) <| ck (0≤c.2.2.1) <| ck (c.2.2.1<((b1.2.2.2.2.1.getD b1.2.2.2.2.2.toNat []).length:Int)) <| some (((b1.2.2.2.2.1.getD b1.2.2.2.2.2.toNat []).getD c.2.2.1.toNat 0),b2.2)
noncomputable def p8 (c:Int×Int×Int×Int×Int×Int) (s:Int×Int) (b1:Int×Int×Int×(List (List Int))×(List (List Int))×Int):Option (Int×Int×Int) :=
  ck (0≤b1.2.2.2.2.2) <| ck (b1.2.2.2.2.2<(b1.2.2.2.1.length:Int)) <| ck (0≤c.2.2.1) <| ck (c.2.2.1<((b1.2.2.2.1.getD b1.2.2.2.2.2.toNat []).length:Int)) <| ck (0≤b1.1) <| ck (b1.1<2) <| if (decide (b1.1=0))=true then
  p6 c b1 (0,((b1.2.2.2.1.getD b1.2.2.2.2.2.toNat []).getD c.2.2.1.toNat 0),s.2)
  else
  p6 c b1 (1,s.1,((b1.2.2.2.1.getD b1.2.2.2.2.2.toNat []).getD c.2.2.1.toNat 0))
noncomputable def y9 (specs:ZS) (c:Int×Int×Int×Int×Int×Int) (s:Int×Int):Option (Int×Int×Int) :=
  ck (0≤c.2.1) <| ck (c.2.1<(specs.length:Int)) <| ck (0≤c.2.1) <| ck (c.2.1<2) <| if (decide (c.2.1=0))=true then
  p8 c s (0,(specs.getD 0 (0,0,[],[])).1,(specs.getD 0 (0,0,[],[])).2.1,(specs.getD 0 (0,0,[],[])).2.2.1,(specs.getD 0 (0,0,[],[])).2.2.2,s.1)
  else
  p8 c s (1,(specs.getD 1 (0,0,[],[])).1,(specs.getD 1 (0,0,[],[])).2.1,(specs.getD 1 (0,0,[],[])).2.2.1,(specs.getD 1 (0,0,[],[])).2.2.2,s.2)
/- (*lineal/history.states).allow -/
noncomputable def C2 (specs:ZS) (c:Int×Int×Int×Int×Int×Int) (s:Int×Int):Option (Bool×Int×Int) :=
  (y9 specs c s).bind fun v0 =>
  if (decide (c.2.2.2.2.2=0))=true then
  some (true,v0.2)
  else
  some ((decide (v0.1=c.2.2.2.1)),v0.2)
/- lineal/history.allows -/
noncomputable def a0w:Option Bool :=
  some true
noncomputable def H8 (specs:ZS) (h0:ZH) (order:List Int) (st1:Int×Int×Int):Option (Step (Int×Int×Int) (Sum Unit Unit)) :=
  if (decide (st1.2.2<(order.length:Int)))=true then
  ck (0≤st1.2.2) <| ck (st1.2.2<(order.length:Int)) <| ck (0≤(order.getD st1.2.2.toNat 0)) <| ck ((order.getD st1.2.2.toNat 0)<(h0.length:Int)) <| (C2 specs (h0.getD (order.getD st1.2.2.toNat 0).toNat (0,0,0,0,0,0)) (st1.1,st1.2.1)).bind fun v0 =>
  if (!v0.1)=true then
  some (.done (Sum.inl ()))
  else
  ck (InK .i64 (st1.2.2+1)) <| some (.next (v0.2.1,v0.2.2,(st1.2.2+1)))
  else
  some (.done (Sum.inr ()))
noncomputable def R1 (specs:ZS) (h0:ZH) (order:List Int):Option Bool :=
  (g9 (H8 specs h0 order) (0,0,0)).bind fun x=>match x with
  | .inl _=>(some false)
  | .inr _=>(a0w)
/- lineal/history.Allows$1 -/
noncomputable def X1 (a0:ZS) (a1:ZH) (a2:List Int):Option Bool :=
  (R1 a0 a1 a2).bind fun v0 =>
  some v0
/- lineal/history.told[bool] -/
noncomputable def Z8 (c0:ZS) (c1:ZH) (c2:List Int):Option Bool :=
  (X1 c0 c1 c2).bind fun v0 =>
  some v0
/- lineal/history.told[bool] -/
noncomputable def a1o (err:Int) (c0:ZS) (c1:ZH) (c2:List Int):Option Unit :=
  some ()
/- lineal/history.Allows -/
noncomputable def H9 (specs:ZS) (h0:ZH) (order:List Int) (b1:Int):Option (Bool×Int) :=
  if (decide (b1=0))=true then
  (Z8 specs h0 order).bind fun v0_3 =>
  some (v0_3,0)
  else
  (a1o b1 specs h0 order).bind fun v0_4 =>
  some (false,b1)
noncomputable def V1 (specs:ZS) (h0:ZH) (order:List Int):Option (Bool×Int) :=
  (F2 specs h0).bind fun v0 =>
  if (decide (v0=0))=true then
  (N1 h0 order).bind fun v0_2 =>
  if (!v0_2)=true then
  H9 specs h0 order 2
  else
  H9 specs h0 order v0
  else
  H9 specs h0 order v0
/- (lineal/code.run).isAnswered -/
noncomputable def I5 (r0:((List (List (Int×Int×Int×Int)))×(List (List Int)))×(List Int)×(El T72)×(Int×Int×Int)×(El T77)×(El T78)×Int) (s:Int×Int×(List (List Int))×(List (List Int))) (b8:List Int):Option Bool :=
  (N3 r0 b8).bind fun v0 =>
  if (!v0.2)=true then
  some false
  else
  (F4 r0).bind fun v0_2 =>
  (V1 [s] v0_2 v0.1).bind fun v0_3 =>
  some v0_3.1
/- slices.Backward[[]int,int] -/
noncomputable def Z6 (s:List Int):Option Unit :=
  some ()
/- slices.Backward[[]int,int]$1 -/
noncomputable def o7 (S R:Type) (a1:List Int) (yl:Int×Int→S→Option (Step S R)) (st1:Int×S):Option (Step (Int×S) (Sum R S)) :=
  if (decide (0≤st1.1))=true then
  ck (0≤st1.1) <| ck (st1.1<(a1.length:Int)) <| (yl (st1.1,(a1.getD st1.1.toNat 0)) st1.2).bind fun x=>match x with
  | .next s=>(ck (InK .i64 (st1.1 - 1)) <| some (.next ((st1.1 - 1),s)))
  | .done e=>(some (.done (Sum.inl e)))
  else
  some (.done (Sum.inr st1.2))
noncomputable def w8 (S R:Type) (a1:List Int) (yl:Int×Int→S→Option (Step S R)) (s0:S):Option (Sum S R) :=
  ck (InK .i64 ((a1.length:Int) - 1)) <| (g9 (o7 S R a1 yl) (((a1.length:Int) - 1),s0)).bind fun x=>match x with
  | .inl r1=>(some (Sum.inr r1))
  | .inr r1_2=>(some (Sum.inl r1_2))
/- (lineal/code.program).runs$1 -/
noncomputable def v7 (S R:Type) (b1:(List (((List (List (Int×Int×Int×Int)))×(List (List Int)))×(List Int)×(El T72)×(Int×Int×Int)×(El T77)×(El T78)×Int))×S):Option (Step ((List (((List (List (Int×Int×Int×Int)))×(List (List Int)))×(List Int)×(El T72)×(Int×Int×Int)×(El T77)×(El T78)×Int))×S) (Sum R S)) :=
  some (.next b1)
noncomputable def i6 (S R:Type) (st1:(List (((List (List (Int×Int×Int×Int)))×(List (List Int)))×(List Int)×(El T72)×(Int×Int×Int)×(El T77)×(El T78)×Int))×S) (y2:Int×Int) (st2:(List (((List (List (Int×Int×Int×Int)))×(List (List Int)))×(List Int)×(El T72)×(Int×Int×Int)×(El T77)×(El T78)×Int))):Option (Step ((List (((List (List (Int×Int×Int×Int)))×(List (List Int)))×(List Int)×(El T72)×(Int×Int×Int)×(El T77)×(El T78)×Int))) Empty) :=
  (P8 (st1.1.getD ((st1.1.length:Int) - 1).toNat (([],[]),[],(Ty.dflt T72),(0,0,0),(Ty.dflt T77),(Ty.dflt T78),0)) y2.2).bind fun v0_3 =>
  ck ((st2.length+1)*712≤140737488355328) <| some (.next (st2++[((st1.1.getD ((st1.1.length:Int) - 1).toNat (([],[]),[],(Ty.dflt T72),(0,0,0),(Ty.dflt T77),(Ty.dflt T78),0)).1,(((st1.1.getD ((st1.1.length:Int) - 1).toNat (([],[]),[],(Ty.dflt T72),(0,0,0),(Ty.dflt T77),(Ty.dflt T78),0)).2.1.take (st1.1.getD ((st1.1.length:Int) - 1).toNat (([],[]),[],(Ty.dflt T72),(0,0,0),(Ty.dflt T77),(Ty.dflt T78),0)).2.1.length)++[y2.2]),v0_3.1,(v0_3.2.1,v0_3.2.2.1,v0_3.2.2.2.1),v0_3.2.2.2.2)]))
noncomputable def j7 (S R:Type) (a2:Int) (yl:(((List (List (Int×Int×Int×Int)))×(List (List Int)))×(List Int)×(El T72)×(Int×Int×Int)×(El T77)×(El T78)×Int)→S→Option (Step S R)) (st1:(List (((List (List (Int×Int×Int×Int)))×(List (List Int)))×(List Int)×(El T72)×(Int×Int×Int)×(El T77)×(El T78)×Int))×S):Option (Step ((List (((List (List (Int×Int×Int×Int)))×(List (List Int)))×(List Int)×(El T72)×(Int×Int×Int)×(El T77)×(El T78)×Int))×S) (Sum R S)) :=
  if (decide (0<(st1.1.length:Int)))=true then
  ck (InK .i64 ((st1.1.length:Int) - 1)) <| ck (0≤((st1.1.length:Int) - 1)) <| ck (((st1.1.length:Int) - 1)<(st1.1.length:Int)) <| ck (InK .i64 ((st1.1.length:Int) - 1)) <| ck (0≤((st1.1.length:Int) - 1)) <| ck (((st1.1.length:Int) - 1)≤(st1.1.length:Int)) <| (C5 (st1.1.getD ((st1.1.length:Int) - 1).toNat (([],[]),[],(Ty.dflt T72),(0,0,0),(Ty.dflt T77),(Ty.dflt T78),0))).bind fun v0 =>
  if (decide ((v0.length:Int)=0))=true then
  (yl (st1.1.getD ((st1.1.length:Int) - 1).toNat (([],[]),[],(Ty.dflt T72),(0,0,0),(Ty.dflt T77),(Ty.dflt T78),0)) st1.2).bind fun x=>match x with
  | .next s=>(v7 S R ((st1.1.take ((st1.1.length:Int) - 1).toNat),s))
  | .done e=>(some (.done (Sum.inl e)))
  else
  if (decide (((st1.1.getD ((st1.1.length:Int) - 1).toNat (([],[]),[],(Ty.dflt T72),(0,0,0),(Ty.dflt T77),(Ty.dflt T78),0)).2.1.length:Int)=a2))=true then
  (yl (st1.1.getD ((st1.1.length:Int) - 1).toNat (([],[]),[],(Ty.dflt T72),(0,0,0),(Ty.dflt T77),(Ty.dflt T78),0)) st1.2).bind fun x=>match x with
  | .next s_2=>(v7 S R ((st1.1.take ((st1.1.length:Int) - 1).toNat),s_2))
  | .done e_2=>(some (.done (Sum.inl e_2)))
  else
  (Z6 v0).bind fun v0_2 =>
  (w8 ((List (((List (List (Int×Int×Int×Int)))×(List (List Int)))×(List Int)×(El T72)×(Int×Int×Int)×(El T77)×(El T78)×Int))) Empty v0 (i6 S R st1) (st1.1.take ((st1.1.length:Int) - 1).toNat)).bind fun x=>match x with
  | .inl st2_2=>(v7 S R (st2_2,st1.2))
  | .inr r=>r.elim
  else
  some (.done (Sum.inr st1.2))
noncomputable def D7 (S R:Type) (a1:(List (List (Int×Int×Int×Int)))×(List (List Int))) (a2:Int) (yl:(((List (List (Int×Int×Int×Int)))×(List (List Int)))×(List Int)×(El T72)×(Int×Int×Int)×(El T77)×(El T78)×Int)→S→Option (Step S R)) (s0:S):Option (Sum S R) :=
  (g9 (j7 S R a2 yl) ([(a1,[],(Ty.dflt T72),(0,0,0),(Ty.dflt T77),(Ty.dflt T78),0)],s0)).bind fun x=>match x with
  | .inl r1=>(some (Sum.inr r1))
  | .inr r1_2=>(some (Sum.inl r1_2))
/- lineal/code.Marked -/
noncomputable def a13:Option (Bool×Int) :=
  some (true,0)
noncomputable def G5 (s:Int×Int×(List (List Int))×(List (List Int))) (b8:List Int) (y1:(((List (List (Int×Int×Int×Int)))×(List (List Int)))×(List Int)×(El T72)×(Int×Int×Int)×(El T77)×(El T78)×Int)) (st1:Unit):Option (Step Unit Unit) :=
  (N4 y1).bind fun v0_7 =>
  if v0_7=true then
  (I5 y1 s b8).bind fun v0_8 =>
  if (!v0_8)=true then
  some (.done ())
  else
  some (.next ())
  else
  some (.next ())
noncomputable def a1d (s:Int×Int×(List (List Int))×(List (List Int))) (c:List (List (Int×Int×Int×Int))) (use:List (List Int)) (b8:List Int):Option (Bool×Int) :=
  (M0 s c).bind fun v0 =>
  if (!(decide (v0=0)))=true then
  some (false,v0)
  else
  (R7 c use 12).bind fun v0_2=>match v0_2 with
  | .inl v0_3=>(if (!(decide (v0_3=0)))=true then
  some (false,v0_3)
  else
  (P9 c b8).bind fun v0_5 =>
  if (!v0_5)=true then
  some (false,2)
  else
  none)
  | .inr v0_4=>((P9 c b8).bind fun v0_6 =>
  if (!v0_6)=true then
  some (false,2)
  else
  (D7 Unit Unit (c,use) 12 (G5 s b8) ()).bind fun x=>match x with
  | .inl st1_2=>(a13)
  | .inr _=>(some (false,0)))
/- lineal/code.Left -/
noncomputable def a0n (c:List (List (Int×Int×Int×Int))) (use:List (List Int)) (schedule:List Int):Option ((List Int)×Int) :=
  (P4 c use schedule).bind fun v0 =>
  if (!(decide (v0.2.2.2.2.2.2.2.2.2.2=0)))=true then
  some ([],v0.2.2.2.2.2.2.2.2.2.2)
  else
  (C5 ((v0.1,v0.2.1),v0.2.2.1,v0.2.2.2.1,(v0.2.2.2.2.1,v0.2.2.2.2.2.1,v0.2.2.2.2.2.2.1),v0.2.2.2.2.2.2.2.1,v0.2.2.2.2.2.2.2.2.1,v0.2.2.2.2.2.2.2.2.2.1)).bind fun v0_2 =>
  some (v0_2,0)
/- lineal/lineallaw08.schedule -/
noncomputable def H4 (x0:(Int×Int×(List (List Int))×(List (List Int)))×(List (List (Int×Int×Int×Int)))×(List (List Int))) (b2_2:(List Int)):Option ((List Int)×Bool×Bool) :=
  (a0n x0.2.1 x0.2.2 b2_2).bind fun v0_2 =>
  some (b2_2,(decide ((v0_2.1.length:Int)=0)),(decide (v0_2.2=0)))
noncomputable def t8 (x0:(Int×Int×(List (List Int))×(List (List Int)))×(List (List (Int×Int×Int×Int)))×(List (List Int))) (st1:(List Int)×Int) (b2:Int):Option (Step ((List Int)×Int) (Sum ((List Int)×Bool×Bool) ((List Int)))) :=
  if (decide (b2<0))=true then
  some (.done (Sum.inl ([],false,false)))
  else
  if (decide ((x0.2.2.length:Int)≤b2))=true then
  some (.done (Sum.inl ([],false,false)))
  else
  ck ((st1.1.length+1)*8≤140737488355328) <| ck (InK .i64 (st1.2+1)) <| some (.next ((st1.1++[b2]),(st1.2+1)))
noncomputable def i7 (x0:(Int×Int×(List (List Int))×(List (List Int)))×(List (List (Int×Int×Int×Int)))×(List (List Int))) (picks:List Int) (steps:Int) (st1:(List Int)×Int):Option (Step ((List Int)×Int) (Sum ((List Int)×Bool×Bool) ((List Int)))) :=
  if (decide (st1.2<steps))=true then
  (a0n x0.2.1 x0.2.2 st1.1).bind fun v0 =>
  if (!(decide (v0.2=0)))=true then
  some (.done (Sum.inl ([],false,false)))
  else
  if (decide ((v0.1.length:Int)=0))=true then
  some (.done (Sum.inl (st1.1,true,true)))
  else
  ck (0<(v0.1.length:Int)) <| if (decide (st1.2<(picks.length:Int)))=true then
  ck (0≤st1.2) <| ck (st1.2<(picks.length:Int)) <| ck (InK .i64 (picks.getD st1.2.toNat 0)) <| ck (0≤(picks.getD st1.2.toNat 0)) <| ck (0<(v0.1.length:Int)) <| ck (0≤((picks.getD st1.2.toNat 0) % (v0.1.length:Int))) <| ck (((picks.getD st1.2.toNat 0) % (v0.1.length:Int))<(v0.1.length:Int)) <| t8 x0 st1 (v0.1.getD ((picks.getD st1.2.toNat 0) % (v0.1.length:Int)).toNat 0)
  else
  t8 x0 st1 (v0.1.getD 0 0)
  else
  some (.done (Sum.inr st1.1))
noncomputable def A9 (x0:(Int×Int×(List (List Int))×(List (List Int)))×(List (List (Int×Int×Int×Int)))×(List (List Int))) (picks:List Int) (steps:Int):Option ((List Int)×Bool×Bool) :=
  (g9 (i7 x0 picks steps) ([],0)).bind fun x=>match x with
  | .inl r1=>(some r1)
  | .inr r1_2=>(H4 x0 r1_2)
/- lineal/history.keeps -/
noncomputable def a0K:Option Bool :=
  some true
noncomputable def W7 (st1:Int):Option (Step Int (Sum Unit Unit)) :=
  ck (InK .i64 (st1+1)) <| some (.next (st1+1))
noncomputable def K3 (h0:ZH) (order:List Int) (st1:Int) (st2:Int):Option (Step Int (Sum Unit Unit)) :=
  if (decide (st2<((order.take st1.toNat).length:Int)))=true then
  ck (0≤st2) <| ck (st2<((order.take st1.toNat).length:Int)) <| ck (0≤((order.take st1.toNat).getD st2.toNat 0)) <| ck (((order.take st1.toNat).getD st2.toNat 0)<(h0.length:Int)) <| ck (0≤(order.getD st1.toNat 0)) <| ck ((order.getD st1.toNat 0)<(h0.length:Int)) <| (G4 (h0.getD ((order.take st1.toNat).getD st2.toNat 0).toNat (0,0,0,0,0,0)) (h0.getD (order.getD st1.toNat 0).toNat (0,0,0,0,0,0))).bind fun v0 =>
  if v0=true then
  some (.done (Sum.inl ()))
  else
  ck (InK .i64 (st2+1)) <| some (.next (st2+1))
  else
  some (.done (Sum.inr ()))
noncomputable def K4 (h0:ZH) (order:List Int) (st1:Int):Option (Step Int (Sum Unit Unit)) :=
  if (decide (st1<(order.length:Int)))=true then
  ck (0≤st1) <| ck (st1<(order.length:Int)) <| ck (0≤st1) <| ck (st1≤(order.length:Int)) <| (g9 (K3 h0 order st1) 0).bind fun x=>match x with
  | .inl _=>(some (.done (Sum.inl ())))
  | .inr _=>(W7 st1)
  else
  some (.done (Sum.inr ()))
noncomputable def Y8 (h0:ZH) (order:List Int):Option Bool :=
  (g9 (K4 h0 order) 0).bind fun x=>match x with
  | .inl _=>(some false)
  | .inr _=>(a0K)
/- lineal/history.IsOrder$1 -/
noncomputable def U0 (a0:ZH) (a1:List Int) (a2:ZS):Option Bool :=
  (N1 a0 a1).bind fun v0 =>
  if v0=true then
  (Y8 a0 a1).bind fun v0_2 =>
  if v0_2=true then
  (R1 a2 a0 a1).bind fun v0_3 =>
  some v0_3
  else
  some false
  else
  some false
/- lineal/history.told[bool] -/
noncomputable def Z7 (c0:ZH) (c1:List Int) (c2:ZS):Option Bool :=
  (U0 c0 c1 c2).bind fun v0 =>
  some v0
/- lineal/history.told[bool] -/
noncomputable def a1n (err:Int) (c0:ZH) (c1:List Int) (c2:ZS):Option Unit :=
  some ()
/- lineal/history.IsOrder -/
noncomputable def S7 (specs:ZS) (h0:ZH) (order:List Int):Option (Bool×Int) :=
  (F2 specs h0).bind fun v0 =>
  if (decide (v0=0))=true then
  (Z7 h0 order specs).bind fun v0_2 =>
  some (v0_2,0)
  else
  (a1n v0 h0 order specs).bind fun v0_3 =>
  some (false,v0)
/- lineal/lineallaw08.CodeProves -/
noncomputable def E4 (x0:(Int×Int×(List (List Int))×(List (List Int)))×(List (List (Int×Int×Int×Int)))×(List (List Int))) (picks:List Int) (b1:(List Int)):Option Bool :=
  (a1d x0.1 x0.2.1 x0.2.2 b1).bind fun v0_5 =>
  (A9 x0 picks 12).bind fun v0_6 =>
  if (!(decide (v0_5.2=0)))=true then
  some false
  else
  if (!v0_6.2.2)=true then
  some false
  else
  (a12 x0.2.1 x0.2.2 v0_6.1 b1).bind fun v0_7 =>
  if (!(decide (v0_7.2=0)))=true then
  if (decide (v0_7.2=5))=true then
  if (!v0_6.2.1)=true then
  (q9).bind fun v0_8 =>
  some v0_8
  else
  if (!v0_5.1)=true then
  (q9).bind fun v0_9 =>
  some v0_9
  else
  some false
  else
  some false
  else
  (a1Z x0.2.1 x0.2.2 v0_6.1).bind fun v0_10 =>
  (a0o x0.1 x0.2.1 x0.2.2 v0_6.1).bind fun v0_11 =>
  (S7 [x0.1] v0_10.1 v0_7.1).bind fun v0_12 =>
  if (decide (v0_10.2=0))=true then
  if (decide (v0_11.2=0))=true then
  if (decide (v0_12.2=0))=true then
  if v0_6.2.1=true then
  if (!v0_5.1)=true then
  (q9).bind fun v0_13 =>
  some v0_13
  else
  if v0_12.1=true then
  if (!v0_11.1)=true then
  (q9).bind fun v0_14 =>
  some v0_14
  else
  some false
  else
  some false
  else
  some false
  else
  some false
  else
  some false
  else
  some false
noncomputable def n9 (x0:(Int×Int×(List (List Int))×(List (List Int)))×(List (List (Int×Int×Int×Int)))×(List (List Int))) (b8:List Int) (st1:(List Int)×Int):Option (Step ((List Int)×Int) ((List Int))) :=
  if (decide (st1.2<(x0.2.1.length:Int)))=true then
  if (decide (st1.2<(b8.length:Int)))=true then
  ck (0≤st1.2) <| ck (st1.2<(b8.length:Int)) <| ck (InK .i64 (b8.getD st1.2.toNat 0)) <| ck (0≤st1.2) <| ck (st1.2<(x0.2.1.length:Int)) <| ck (0≤(b8.getD st1.2.toNat 0)) <| ck (0<((x0.2.1.getD st1.2.toNat []).length:Int)) <| ck ((st1.1.length+1)*8≤140737488355328) <| ck (InK .i64 (st1.2+1)) <| some (.next ((st1.1++[((b8.getD st1.2.toNat 0) % ((x0.2.1.getD st1.2.toNat []).length:Int))]),(st1.2+1)))
  else
  ck ((st1.1.length+1)*8≤140737488355328) <| ck (InK .i64 (st1.2+1)) <| some (.next ((st1.1++[0]),(st1.2+1)))
  else
  some (.done st1.1)
noncomputable def J1 (x0:(Int×Int×(List (List Int))×(List (List Int)))×(List (List (Int×Int×Int×Int)))×(List (List Int))) (b8:List Int) (picks:List Int):Option Bool :=
  (L6 x0).bind fun v0 =>
  if (!v0)=true then
  (q9).bind fun v0_2 =>
  some v0_2
  else
  if (decide (60<(picks.length:Int)))=true then
  (q9).bind fun v0_3 =>
  some v0_3
  else
  if (decide (60<(b8.length:Int)))=true then
  (q9).bind fun v0_4 =>
  some v0_4
  else
  (g9 (n9 x0 b8) ([],0)).bind fun r1 =>
  E4 x0 picks r1
end Go.Proofs.YtanaeefeggokkaaGreat
