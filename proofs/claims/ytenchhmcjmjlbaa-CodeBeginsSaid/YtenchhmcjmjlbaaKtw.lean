import Derived.Test.YtenchhmcjmjlbaaCkp
set_option maxRecDepth 100000
namespace Go.Proofs.Ytenchhmcjmjlbaa
open Go.RowKit
set_option linter.unusedSimpArgs false
set_option linter.unusedVariables false
set_option linter.constructorNameAsVariable false
def Lle {α:Type} (a b:Option α):Prop:=∀ r,a=some r→b=some r
theorem Lle.refl {α:Type} (a:Option α):Lle a a:=fun _ h=>h
theorem Lle.bind {α β:Type} {a b:Option α} {f g:α→Option β} (h:Lle a b) (k:∀ x,Lle (f x) (g x)):Lle (a.bind f) (b.bind g):=fun r hr=>by
  obtain ⟨x,h1,h2⟩:=Option.bind_eq_some_iff.1 hr
  exact Option.bind_eq_some_iff.2 ⟨x,h x h1,k x r h2⟩
theorem Lle.ck {α:Type} {c:Prop} [Decidable c] {a b:Option α} (h:c→Lle a b):Lle (ck c a) (ck c b):=fun r hr=>by
  obtain ⟨hc,h1⟩:=ck_some.1 hr
  exact ck_some.2 ⟨hc,h hc r h1⟩
theorem Lle.ite {α:Type} {c:Bool} {a b a' b':Option α} (h:Lle a a') (k:Lle b b'):Lle (if c=true then a else b) (if c=true then a' else b'):=by
  split
  · exact h
  · exact k
theorem Lle.while {S R:Type} {f g:S→Option (Step S R)} (fu:Nat) (h:∀ s,Lle (f s) (g s)) (s:S):Lle (whileN f fu s) (whileO g s):=fun r hr=>by
  have:∀ (n:Nat) (s:S) (r:R),whileN f n s=some r→whileN g n s=some r:=by
    intro n
    induction n with
    | zero=>intro s r h; cases h
    | succ n ih =>
      intro s r hr
      unfold whileN at hr ⊢
      cases hf:f s with
      | none=>rw [hf] at hr; cases hr
      | some x =>
        rw [hf] at hr
        rw [h s x hf]
        cases x with
        | next s'=>exact ih s' r hr
        | done r'=>exact hr
  exact whileO_of (this fu s r hr)
noncomputable def code_bare_c (fu:Nat) (l:Int×Int×Int×Int):Option (Int×Int) :=
  if (decide (l.1=3))=true then
  if (decide (l.1=3))=true then
  some l.2.2
  else
  if (decide (l.1=7))=true then
  some (0,0)
  else
  some (l.2.2.1,0)
  else
  if (decide (l.1=5))=true then
  some l.2.2
  else
  if (decide (l.1=7))=true then
  some (0,0)
  else
  some (l.2.2.1,0)
theorem le_code_bare (fu:Nat) (l:Int×Int×Int×Int):Lle (code_bare_c fu l) (code_bare l):=by
  unfold code_bare_c code_bare
  repeat' first|with_reducible exact Lle.refl _|with_reducible exact Lle.none _|(refine Lle.while fu (fun s=>?_) _)|(refine Lle.bind ?_ (fun x=>?_))|(refine Lle.ck (fun _=>?_))|(refine Lle.ite ?_ ?_)|split|assumption
noncomputable def code_isBelow_c (fu:Nat) (number:Int) (end0:Int):Option Bool :=
  if (decide (0≤number))=true then
  some (decide (number<end0))
  else
  some false
theorem le_code_isBelow (fu:Nat) (number:Int) (end0:Int):Lle (code_isBelow_c fu number end0) (code_isBelow number end0):=by
  unfold code_isBelow_c code_isBelow
  repeat' first|with_reducible exact Lle.refl _|with_reducible exact Lle.none _|(refine Lle.while fu (fun s=>?_) _)|(refine Lle.bind ?_ (fun x=>?_))|(refine Lle.ck (fun _=>?_))|(refine Lle.ite ?_ ?_)|split|assumption
noncomputable def code_isRegister_c (fu:Nat) (register:Int):Option Bool :=
  (code_isBelow_c fu register 4).bind fun v0 =>
  some v0
theorem le_code_isRegister (fu:Nat) (register:Int):Lle (code_isRegister_c fu register) (code_isRegister register):=by
  unfold code_isRegister_c code_isRegister
  repeat' first|with_reducible exact Lle.refl _|with_reducible exact Lle.none _|(with_reducible apply le_code_isBelow<;>intros)|(refine Lle.while fu (fun s=>?_) _)|(refine Lle.bind ?_ (fun x=>?_))|(refine Lle.ck (fun _=>?_))|(refine Lle.ite ?_ ?_)|split|assumption
noncomputable def code_isCell_c (fu:Nat) (cell:Int):Option Bool :=
  (code_isBelow_c fu cell 3).bind fun v0 =>
  some v0
theorem le_code_isCell (fu:Nat) (cell:Int):Lle (code_isCell_c fu cell) (code_isCell cell):=by
  unfold code_isCell_c code_isCell
  repeat' first|with_reducible exact Lle.refl _|with_reducible exact Lle.none _|(with_reducible apply le_code_isBelow<;>intros)|(refine Lle.while fu (fun s=>?_) _)|(refine Lle.bind ?_ (fun x=>?_))|(refine Lle.ck (fun _=>?_))|(refine Lle.ite ?_ ?_)|split|assumption
noncomputable def code_isLine_c (fu:Nat) (l:Int×Int×Int×Int) (lines:Int):Option Bool :=
  (code_bare_c fu l).bind fun v0 =>
  ck (InK .i64 l.1) <| ck (InK .i64 l.2.1) <| ck (InK .i64 l.2.2.1) <| ck (InK .i64 l.2.2.2) <| ck (InK .i64 l.1) <| ck (InK .i64 l.2.1) <| ck (InK .i64 v0.1) <| ck (InK .i64 v0.2) <| if (!(decide (l=(l.1,l.2.1,v0))))=true then
  some false
  else
  if (decide (l.1=1))=true then
  (code_isRegister_c fu l.2.1).bind fun v0_2 =>
  if v0_2=true then
  (code_isCell_c fu l.2.2.1).bind fun v0_3 =>
  some v0_3
  else
  some false
  else
  if (decide (l.1=2))=true then
  (code_isCell_c fu l.2.1).bind fun v0_4 =>
  if v0_4=true then
  (code_isRegister_c fu l.2.2.1).bind fun v0_5 =>
  some v0_5
  else
  some false
  else
  if (decide (l.1=3))=true then
  (code_isCell_c fu l.2.1).bind fun v0_6 =>
  if v0_6=true then
  (code_isRegister_c fu l.2.2.1).bind fun v0_7 =>
  if v0_7=true then
  (code_isRegister_c fu l.2.2.2).bind fun v0_8 =>
  some v0_8
  else
  some false
  else
  some false
  else
  if (decide (l.1=4))=true then
  (code_isRegister_c fu l.2.1).bind fun v0_9 =>
  if v0_9=true then
  (code_isBelow_c fu l.2.2.1 10).bind fun v0_10 =>
  some v0_10
  else
  some false
  else
  if (decide (l.1=5))=true then
  (code_isRegister_c fu l.2.1).bind fun v0_11 =>
  if v0_11=true then
  (code_isRegister_c fu l.2.2.1).bind fun v0_12 =>
  if v0_12=true then
  (code_isRegister_c fu l.2.2.2).bind fun v0_13 =>
  some v0_13
  else
  some false
  else
  some false
  else
  if (decide (l.1=6))=true then
  (code_isRegister_c fu l.2.1).bind fun v0_14 =>
  if v0_14=true then
  (code_isBelow_c fu l.2.2.1 lines).bind fun v0_15 =>
  some v0_15
  else
  some false
  else
  if (decide (l.1=7))=true then
  (code_isRegister_c fu l.2.1).bind fun v0_16 =>
  some v0_16
  else
  some false
theorem le_code_isLine (fu:Nat) (l:Int×Int×Int×Int) (lines:Int):Lle (code_isLine_c fu l lines) (code_isLine l lines):=by
  unfold code_isLine_c code_isLine
  repeat' first|with_reducible exact Lle.refl _|with_reducible exact Lle.none _|(with_reducible apply le_code_bare<;>intros)|(with_reducible apply le_code_isRegister<;>intros)|(with_reducible apply le_code_isCell<;>intros)|(with_reducible apply le_code_isBelow<;>intros)|(refine Lle.while fu (fun s=>?_) _)|(refine Lle.bind ?_ (fun x=>?_))|(refine Lle.ck (fun _=>?_))|(refine Lle.ite ?_ ?_)|split|assumption
noncomputable def code_isCall_1_c (fu:Nat) (l:Int×Int×Int×Int) (a1:Int):Option Bool :=
  (code_isLine_c fu l a1).bind fun v0 =>
  some (!v0)
theorem le_code_isCall_1 (fu:Nat) (l:Int×Int×Int×Int) (a1:Int):Lle (code_isCall_1_c fu l a1) (code_isCall_1 l a1):=by
  unfold code_isCall_1_c code_isCall_1
  repeat' first|with_reducible exact Lle.refl _|with_reducible exact Lle.none _|(with_reducible apply le_code_isLine<;>intros)|(refine Lle.while fu (fun s=>?_) _)|(refine Lle.bind ?_ (fun x=>?_))|(refine Lle.ck (fun _=>?_))|(refine Lle.ite ?_ ?_)|split|assumption
noncomputable def slices_IndexFunc_2_k1_c (fu:Nat):Option Int :=
  some (-1)
theorem le_slices_IndexFunc_2_k1 (fu:Nat):Lle (slices_IndexFunc_2_k1_c fu ) (slices_IndexFunc_2_k1 ):=by
  unfold slices_IndexFunc_2_k1_c slices_IndexFunc_2_k1
  repeat' first|with_reducible exact Lle.refl _|with_reducible exact Lle.none _|(refine Lle.while fu (fun s=>?_) _)|(refine Lle.bind ?_ (fun x=>?_))|(refine Lle.ck (fun _=>?_))|(refine Lle.ite ?_ ?_)|split|assumption
noncomputable def slices_IndexFunc_2_b1_c (fu:Nat) (s:List (Int×Int×Int×Int)) (c0:Int) (st1:Int):Option (Step Int (Sum Int Unit)) :=
  if (decide (st1<(s.length:Int)))=true then
  ck (0≤st1) <| ck (st1<(s.length:Int)) <| (code_isCall_1_c fu (s.getD st1.toNat (0,0,0,0)) c0).bind fun v0 =>
  if v0=true then
  some (.done (Sum.inl st1))
  else
  ck (InK .i64 (st1+1)) <| some (.next (st1+1))
  else
  some (.done (Sum.inr ()))
theorem le_slices_IndexFunc_2_b1 (fu:Nat) (s:List (Int×Int×Int×Int)) (c0:Int) (st1:Int):Lle (slices_IndexFunc_2_b1_c fu s c0 st1) (slices_IndexFunc_2_b1 s c0 st1):=by
  unfold slices_IndexFunc_2_b1_c slices_IndexFunc_2_b1
  repeat' first|with_reducible exact Lle.refl _|with_reducible exact Lle.none _|(with_reducible apply le_code_isCall_1<;>intros)|(refine Lle.while fu (fun s=>?_) _)|(refine Lle.bind ?_ (fun x=>?_))|(refine Lle.ck (fun _=>?_))|(refine Lle.ite ?_ ?_)|split|assumption
noncomputable def slices_IndexFunc_2_c (fu:Nat) (s:List (Int×Int×Int×Int)) (c0:Int):Option Int :=
  (whileN (slices_IndexFunc_2_b1_c fu s c0) fu 0).bind fun x=>match x with
  | .inl r1=>(some r1)
  | .inr _=>(slices_IndexFunc_2_k1_c fu)
theorem le_slices_IndexFunc_2 (fu:Nat) (s:List (Int×Int×Int×Int)) (c0:Int):Lle (slices_IndexFunc_2_c fu s c0) (slices_IndexFunc_2 s c0):=by
  unfold slices_IndexFunc_2_c slices_IndexFunc_2
  repeat' first|with_reducible exact Lle.refl _|with_reducible exact Lle.none _|(with_reducible apply le_slices_IndexFunc_2_b1<;>intros)|(with_reducible apply le_slices_IndexFunc_2_k1<;>intros)|(refine Lle.while fu (fun s=>?_) _)|(refine Lle.bind ?_ (fun x=>?_))|(refine Lle.ck (fun _=>?_))|(refine Lle.ite ?_ ?_)|split|assumption
noncomputable def slices_ContainsFunc_2_c (fu:Nat) (s:List (Int×Int×Int×Int)) (c0:Int):Option Bool :=
  (slices_IndexFunc_2_c fu s c0).bind fun v0 =>
  some (decide (0≤v0))
theorem le_slices_ContainsFunc_2 (fu:Nat) (s:List (Int×Int×Int×Int)) (c0:Int):Lle (slices_ContainsFunc_2_c fu s c0) (slices_ContainsFunc_2 s c0):=by
  unfold slices_ContainsFunc_2_c slices_ContainsFunc_2
  repeat' first|with_reducible exact Lle.refl _|with_reducible exact Lle.none _|(with_reducible apply le_slices_IndexFunc_2<;>intros)|(refine Lle.while fu (fun s=>?_) _)|(refine Lle.bind ?_ (fun x=>?_))|(refine Lle.ck (fun _=>?_))|(refine Lle.ite ?_ ?_)|split|assumption
noncomputable def code_isCall_c (fu:Nat) (lines:List (Int×Int×Int×Int)):Option Bool :=
  if (decide ((lines.length:Int)<1))=true then
  some false
  else
  if (decide (8<(lines.length:Int)))=true then
  some false
  else
  ck (InK .i64 ((lines.length:Int) - 1)) <| ck (0≤((lines.length:Int) - 1)) <| ck (((lines.length:Int) - 1)<(lines.length:Int)) <| if (!(decide ((lines.getD ((lines.length:Int) - 1).toNat (0,0,0,0)).1=7)))=true then
  some false
  else
  (slices_ContainsFunc_2_c fu lines (lines.length:Int)).bind fun v0 =>
  some (!v0)
theorem le_code_isCall (fu:Nat) (lines:List (Int×Int×Int×Int)):Lle (code_isCall_c fu lines) (code_isCall lines):=by
  unfold code_isCall_c code_isCall
  repeat' first|with_reducible exact Lle.refl _|with_reducible exact Lle.none _|(with_reducible apply le_slices_ContainsFunc_2<;>intros)|(refine Lle.while fu (fun s=>?_) _)|(refine Lle.bind ?_ (fun x=>?_))|(refine Lle.ck (fun _=>?_))|(refine Lle.ite ?_ ?_)|split|assumption
noncomputable def code_Valid_1_c (fu:Nat) (lines:List (Int×Int×Int×Int)):Option Bool :=
  (code_isCall_c fu lines).bind fun v0 =>
  some (!v0)
theorem le_code_Valid_1 (fu:Nat) (lines:List (Int×Int×Int×Int)):Lle (code_Valid_1_c fu lines) (code_Valid_1 lines):=by
  unfold code_Valid_1_c code_Valid_1
  repeat' first|with_reducible exact Lle.refl _|with_reducible exact Lle.none _|(with_reducible apply le_code_isCall<;>intros)|(refine Lle.while fu (fun s=>?_) _)|(refine Lle.bind ?_ (fun x=>?_))|(refine Lle.ck (fun _=>?_))|(refine Lle.ite ?_ ?_)|split|assumption
noncomputable def slices_IndexFunc_k1_c (fu:Nat):Option Int :=
  some (-1)
theorem le_slices_IndexFunc_k1 (fu:Nat):Lle (slices_IndexFunc_k1_c fu ) (slices_IndexFunc_k1 ):=by
  unfold slices_IndexFunc_k1_c slices_IndexFunc_k1
  repeat' first|with_reducible exact Lle.refl _|with_reducible exact Lle.none _|(refine Lle.while fu (fun s=>?_) _)|(refine Lle.bind ?_ (fun x=>?_))|(refine Lle.ck (fun _=>?_))|(refine Lle.ite ?_ ?_)|split|assumption
noncomputable def slices_IndexFunc_b1_c (fu:Nat) (s:List (List (Int×Int×Int×Int))) (st1:Int):Option (Step Int (Sum Int Unit)) :=
  if (decide (st1<(s.length:Int)))=true then
  ck (0≤st1) <| ck (st1<(s.length:Int)) <| (code_Valid_1_c fu (s.getD st1.toNat [])).bind fun v0 =>
  if v0=true then
  some (.done (Sum.inl st1))
  else
  ck (InK .i64 (st1+1)) <| some (.next (st1+1))
  else
  some (.done (Sum.inr ()))
theorem le_slices_IndexFunc_b1 (fu:Nat) (s:List (List (Int×Int×Int×Int))) (st1:Int):Lle (slices_IndexFunc_b1_c fu s st1) (slices_IndexFunc_b1 s st1):=by
  unfold slices_IndexFunc_b1_c slices_IndexFunc_b1
  repeat' first|with_reducible exact Lle.refl _|with_reducible exact Lle.none _|(with_reducible apply le_code_Valid_1<;>intros)|(refine Lle.while fu (fun s=>?_) _)|(refine Lle.bind ?_ (fun x=>?_))|(refine Lle.ck (fun _=>?_))|(refine Lle.ite ?_ ?_)|split|assumption
noncomputable def slices_IndexFunc_c (fu:Nat) (s:List (List (Int×Int×Int×Int))):Option Int :=
  (whileN (slices_IndexFunc_b1_c fu s) fu 0).bind fun x=>match x with
  | .inl r1=>(some r1)
  | .inr _=>(slices_IndexFunc_k1_c fu)
theorem le_slices_IndexFunc (fu:Nat) (s:List (List (Int×Int×Int×Int))):Lle (slices_IndexFunc_c fu s) (slices_IndexFunc s):=by
  unfold slices_IndexFunc_c slices_IndexFunc
  repeat' first|with_reducible exact Lle.refl _|with_reducible exact Lle.none _|(with_reducible apply le_slices_IndexFunc_b1<;>intros)|(with_reducible apply le_slices_IndexFunc_k1<;>intros)|(refine Lle.while fu (fun s=>?_) _)|(refine Lle.bind ?_ (fun x=>?_))|(refine Lle.ck (fun _=>?_))|(refine Lle.ite ?_ ?_)|split|assumption
noncomputable def slices_ContainsFunc_c (fu:Nat) (s:List (List (Int×Int×Int×Int))):Option Bool :=
  (slices_IndexFunc_c fu s).bind fun v0 =>
  some (decide (0≤v0))
theorem le_slices_ContainsFunc (fu:Nat) (s:List (List (Int×Int×Int×Int))):Lle (slices_ContainsFunc_c fu s) (slices_ContainsFunc s):=by
  unfold slices_ContainsFunc_c slices_ContainsFunc
  repeat' first|with_reducible exact Lle.refl _|with_reducible exact Lle.none _|(with_reducible apply le_slices_IndexFunc<;>intros)|(refine Lle.while fu (fun s=>?_) _)|(refine Lle.bind ?_ (fun x=>?_))|(refine Lle.ck (fun _=>?_))|(refine Lle.ite ?_ ?_)|split|assumption
noncomputable def code_Valid_c (fu:Nat) (c:List (List (Int×Int×Int×Int))):Option Bool :=
  if (decide (1≤(c.length:Int)))=true then
  if (decide ((c.length:Int)≤4))=true then
  (slices_ContainsFunc_c fu c).bind fun v0 =>
  some (!v0)
  else
  some false
  else
  some false
theorem le_code_Valid (fu:Nat) (c:List (List (Int×Int×Int×Int))):Lle (code_Valid_c fu c) (code_Valid c):=by
  unfold code_Valid_c code_Valid
  repeat' first|with_reducible exact Lle.refl _|with_reducible exact Lle.none _|(with_reducible apply le_slices_ContainsFunc<;>intros)|(refine Lle.while fu (fun s=>?_) _)|(refine Lle.bind ?_ (fun x=>?_))|(refine Lle.ck (fun _=>?_))|(refine Lle.ite ?_ ?_)|split|assumption
noncomputable def code_isWord_1_c (fu:Nat) (op0:Int) (a1:List (List (Int×Int×Int×Int))):Option Bool :=
  (code_isBelow_c fu op0 (a1.length:Int)).bind fun v0 =>
  some (!v0)
theorem le_code_isWord_1 (fu:Nat) (op0:Int) (a1:List (List (Int×Int×Int×Int))):Lle (code_isWord_1_c fu op0 a1) (code_isWord_1 op0 a1):=by
  unfold code_isWord_1_c code_isWord_1
  repeat' first|with_reducible exact Lle.refl _|with_reducible exact Lle.none _|(with_reducible apply le_code_isBelow<;>intros)|(refine Lle.while fu (fun s=>?_) _)|(refine Lle.bind ?_ (fun x=>?_))|(refine Lle.ck (fun _=>?_))|(refine Lle.ite ?_ ?_)|split|assumption
noncomputable def slices_IndexFunc_4_k1_c (fu:Nat):Option Int :=
  some (-1)
theorem le_slices_IndexFunc_4_k1 (fu:Nat):Lle (slices_IndexFunc_4_k1_c fu ) (slices_IndexFunc_4_k1 ):=by
  unfold slices_IndexFunc_4_k1_c slices_IndexFunc_4_k1
  repeat' first|with_reducible exact Lle.refl _|with_reducible exact Lle.none _|(refine Lle.while fu (fun s=>?_) _)|(refine Lle.bind ?_ (fun x=>?_))|(refine Lle.ck (fun _=>?_))|(refine Lle.ite ?_ ?_)|split|assumption
noncomputable def slices_IndexFunc_4_b1_c (fu:Nat) (s:List Int) (c0:List (List (Int×Int×Int×Int))) (st1:Int):Option (Step Int (Sum Int Unit)) :=
  if (decide (st1<(s.length:Int)))=true then
  ck (0≤st1) <| ck (st1<(s.length:Int)) <| (code_isWord_1_c fu (s.getD st1.toNat 0) c0).bind fun v0 =>
  if v0=true then
  some (.done (Sum.inl st1))
  else
  ck (InK .i64 (st1+1)) <| some (.next (st1+1))
  else
  some (.done (Sum.inr ()))
theorem le_slices_IndexFunc_4_b1 (fu:Nat) (s:List Int) (c0:List (List (Int×Int×Int×Int))) (st1:Int):Lle (slices_IndexFunc_4_b1_c fu s c0 st1) (slices_IndexFunc_4_b1 s c0 st1):=by
  unfold slices_IndexFunc_4_b1_c slices_IndexFunc_4_b1
  repeat' first|with_reducible exact Lle.refl _|with_reducible exact Lle.none _|(with_reducible apply le_code_isWord_1<;>intros)|(refine Lle.while fu (fun s=>?_) _)|(refine Lle.bind ?_ (fun x=>?_))|(refine Lle.ck (fun _=>?_))|(refine Lle.ite ?_ ?_)|split|assumption
noncomputable def slices_IndexFunc_4_c (fu:Nat) (s:List Int) (c0:List (List (Int×Int×Int×Int))):Option Int :=
  (whileN (slices_IndexFunc_4_b1_c fu s c0) fu 0).bind fun x=>match x with
  | .inl r1=>(some r1)
  | .inr _=>(slices_IndexFunc_4_k1_c fu)
theorem le_slices_IndexFunc_4 (fu:Nat) (s:List Int) (c0:List (List (Int×Int×Int×Int))):Lle (slices_IndexFunc_4_c fu s c0) (slices_IndexFunc_4 s c0):=by
  unfold slices_IndexFunc_4_c slices_IndexFunc_4
  repeat' first|with_reducible exact Lle.refl _|with_reducible exact Lle.none _|(with_reducible apply le_slices_IndexFunc_4_b1<;>intros)|(with_reducible apply le_slices_IndexFunc_4_k1<;>intros)|(refine Lle.while fu (fun s=>?_) _)|(refine Lle.bind ?_ (fun x=>?_))|(refine Lle.ck (fun _=>?_))|(refine Lle.ite ?_ ?_)|split|assumption
noncomputable def slices_ContainsFunc_4_c (fu:Nat) (s:List Int) (c0:List (List (Int×Int×Int×Int))):Option Bool :=
  (slices_IndexFunc_4_c fu s c0).bind fun v0 =>
  some (decide (0≤v0))
theorem le_slices_ContainsFunc_4 (fu:Nat) (s:List Int) (c0:List (List (Int×Int×Int×Int))):Lle (slices_ContainsFunc_4_c fu s c0) (slices_ContainsFunc_4 s c0):=by
  unfold slices_ContainsFunc_4_c slices_ContainsFunc_4
  repeat' first|with_reducible exact Lle.refl _|with_reducible exact Lle.none _|(with_reducible apply le_slices_IndexFunc_4<;>intros)|(refine Lle.while fu (fun s=>?_) _)|(refine Lle.bind ?_ (fun x=>?_))|(refine Lle.ck (fun _=>?_))|(refine Lle.ite ?_ ?_)|split|assumption
noncomputable def code_isWord_c (fu:Nat) (c:List (List (Int×Int×Int×Int))) (word:List Int):Option Bool :=
  if (decide ((word.length:Int)≤3))=true then
  (slices_ContainsFunc_4_c fu word c).bind fun v0 =>
  some (!v0)
  else
  some false
theorem le_code_isWord (fu:Nat) (c:List (List (Int×Int×Int×Int))) (word:List Int):Lle (code_isWord_c fu c word) (code_isWord c word):=by
  unfold code_isWord_c code_isWord
  repeat' first|with_reducible exact Lle.refl _|with_reducible exact Lle.none _|(with_reducible apply le_slices_ContainsFunc_4<;>intros)|(refine Lle.while fu (fun s=>?_) _)|(refine Lle.bind ?_ (fun x=>?_))|(refine Lle.ck (fun _=>?_))|(refine Lle.ite ?_ ?_)|split|assumption
noncomputable def code_isUse_1_c (fu:Nat) (word:List Int) (a1:List (List (Int×Int×Int×Int))):Option Bool :=
  (code_isWord_c fu a1 word).bind fun v0 =>
  some (!v0)
theorem le_code_isUse_1 (fu:Nat) (word:List Int) (a1:List (List (Int×Int×Int×Int))):Lle (code_isUse_1_c fu word a1) (code_isUse_1 word a1):=by
  unfold code_isUse_1_c code_isUse_1
  repeat' first|with_reducible exact Lle.refl _|with_reducible exact Lle.none _|(with_reducible apply le_code_isWord<;>intros)|(refine Lle.while fu (fun s=>?_) _)|(refine Lle.bind ?_ (fun x=>?_))|(refine Lle.ck (fun _=>?_))|(refine Lle.ite ?_ ?_)|split|assumption
noncomputable def slices_IndexFunc_3_k1_c (fu:Nat):Option Int :=
  some (-1)
theorem le_slices_IndexFunc_3_k1 (fu:Nat):Lle (slices_IndexFunc_3_k1_c fu ) (slices_IndexFunc_3_k1 ):=by
  unfold slices_IndexFunc_3_k1_c slices_IndexFunc_3_k1
  repeat' first|with_reducible exact Lle.refl _|with_reducible exact Lle.none _|(refine Lle.while fu (fun s=>?_) _)|(refine Lle.bind ?_ (fun x=>?_))|(refine Lle.ck (fun _=>?_))|(refine Lle.ite ?_ ?_)|split|assumption
noncomputable def slices_IndexFunc_3_b1_c (fu:Nat) (s:List (List Int)) (c0:List (List (Int×Int×Int×Int))) (st1:Int):Option (Step Int (Sum Int Unit)) :=
  if (decide (st1<(s.length:Int)))=true then
  ck (0≤st1) <| ck (st1<(s.length:Int)) <| (code_isUse_1_c fu (s.getD st1.toNat []) c0).bind fun v0 =>
  if v0=true then
  some (.done (Sum.inl st1))
  else
  ck (InK .i64 (st1+1)) <| some (.next (st1+1))
  else
  some (.done (Sum.inr ()))
theorem le_slices_IndexFunc_3_b1 (fu:Nat) (s:List (List Int)) (c0:List (List (Int×Int×Int×Int))) (st1:Int):Lle (slices_IndexFunc_3_b1_c fu s c0 st1) (slices_IndexFunc_3_b1 s c0 st1):=by
  unfold slices_IndexFunc_3_b1_c slices_IndexFunc_3_b1
  repeat' first|with_reducible exact Lle.refl _|with_reducible exact Lle.none _|(with_reducible apply le_code_isUse_1<;>intros)|(refine Lle.while fu (fun s=>?_) _)|(refine Lle.bind ?_ (fun x=>?_))|(refine Lle.ck (fun _=>?_))|(refine Lle.ite ?_ ?_)|split|assumption
noncomputable def slices_IndexFunc_3_c (fu:Nat) (s:List (List Int)) (c0:List (List (Int×Int×Int×Int))):Option Int :=
  (whileN (slices_IndexFunc_3_b1_c fu s c0) fu 0).bind fun x=>match x with
  | .inl r1=>(some r1)
  | .inr _=>(slices_IndexFunc_3_k1_c fu)
theorem le_slices_IndexFunc_3 (fu:Nat) (s:List (List Int)) (c0:List (List (Int×Int×Int×Int))):Lle (slices_IndexFunc_3_c fu s c0) (slices_IndexFunc_3 s c0):=by
  unfold slices_IndexFunc_3_c slices_IndexFunc_3
  repeat' first|with_reducible exact Lle.refl _|with_reducible exact Lle.none _|(with_reducible apply le_slices_IndexFunc_3_b1<;>intros)|(with_reducible apply le_slices_IndexFunc_3_k1<;>intros)|(refine Lle.while fu (fun s=>?_) _)|(refine Lle.bind ?_ (fun x=>?_))|(refine Lle.ck (fun _=>?_))|(refine Lle.ite ?_ ?_)|split|assumption
noncomputable def slices_ContainsFunc_3_c (fu:Nat) (s:List (List Int)) (c0:List (List (Int×Int×Int×Int))):Option Bool :=
  (slices_IndexFunc_3_c fu s c0).bind fun v0 =>
  some (decide (0≤v0))
theorem le_slices_ContainsFunc_3 (fu:Nat) (s:List (List Int)) (c0:List (List (Int×Int×Int×Int))):Lle (slices_ContainsFunc_3_c fu s c0) (slices_ContainsFunc_3 s c0):=by
  unfold slices_ContainsFunc_3_c slices_ContainsFunc_3
  repeat' first|with_reducible exact Lle.refl _|with_reducible exact Lle.none _|(with_reducible apply le_slices_IndexFunc_3<;>intros)|(refine Lle.while fu (fun s=>?_) _)|(refine Lle.bind ?_ (fun x=>?_))|(refine Lle.ck (fun _=>?_))|(refine Lle.ite ?_ ?_)|split|assumption
noncomputable def code_isUse_c (fu:Nat) (c:List (List (Int×Int×Int×Int))) (use:List (List Int)):Option Bool :=
  if (decide (1≤(use.length:Int)))=true then
  if (decide ((use.length:Int)≤2))=true then
  (slices_ContainsFunc_3_c fu use c).bind fun v0 =>
  some (!v0)
  else
  some false
  else
  some false
theorem le_code_isUse (fu:Nat) (c:List (List (Int×Int×Int×Int))) (use:List (List Int)):Lle (code_isUse_c fu c use) (code_isUse c use):=by
  unfold code_isUse_c code_isUse
  repeat' first|with_reducible exact Lle.refl _|with_reducible exact Lle.none _|(with_reducible apply le_slices_ContainsFunc_3<;>intros)|(refine Lle.while fu (fun s=>?_) _)|(refine Lle.bind ?_ (fun x=>?_))|(refine Lle.ck (fun _=>?_))|(refine Lle.ite ?_ ?_)|split|assumption
noncomputable def code_ValidUse_c (fu:Nat) (c:List (List (Int×Int×Int×Int))) (use:List (List Int)):Option (Bool×Int) :=
  (code_Valid_c fu c).bind fun v0 =>
  if (!v0)=true then
  some (false,80)
  else
  (code_isUse_c fu c use).bind fun v0_2 =>
  some (v0_2,0)
theorem le_code_ValidUse (fu:Nat) (c:List (List (Int×Int×Int×Int))) (use:List (List Int)):Lle (code_ValidUse_c fu c use) (code_ValidUse c use):=by
  unfold code_ValidUse_c code_ValidUse
  repeat' first|with_reducible exact Lle.refl _|with_reducible exact Lle.none _|(with_reducible apply le_code_Valid<;>intros)|(with_reducible apply le_code_isUse<;>intros)|(refine Lle.while fu (fun s=>?_) _)|(refine Lle.bind ?_ (fun x=>?_))|(refine Lle.ck (fun _=>?_))|(refine Lle.ite ?_ ?_)|split|assumption
noncomputable def code_checkUse_c (fu:Nat) (c:List (List (Int×Int×Int×Int))) (use:List (List Int)):Option Int :=
  (code_ValidUse_c fu c use).bind fun v0 =>
  if (decide (v0.2=0))=true then
  if (!v0.1)=true then
  some 81
  else
  some v0.2
  else
  some v0.2
theorem le_code_checkUse (fu:Nat) (c:List (List (Int×Int×Int×Int))) (use:List (List Int)):Lle (code_checkUse_c fu c use) (code_checkUse c use):=by
  unfold code_checkUse_c code_checkUse
  repeat' first|with_reducible exact Lle.refl _|with_reducible exact Lle.none _|(with_reducible apply le_code_ValidUse<;>intros)|(refine Lle.while fu (fun s=>?_) _)|(refine Lle.bind ?_ (fun x=>?_))|(refine Lle.ck (fun _=>?_))|(refine Lle.ite ?_ ?_)|split|assumption
noncomputable def code_run_hasLine_c (fu:Nat) (r0:((List (List (Int×Int×Int×Int)))×(List (List Int)))×(List Int)×(El T80)×(Int×Int×Int)×(El T85)×(El T86)×Int) (thread:Int):Option Bool :=
  (code_isBelow_c fu thread (r0.1.2.length:Int)).bind fun v0 =>
  if v0=true then
  ck (0≤thread) <| ck (thread<2) <| ck (kAt T85 ((thread.toNat*8))=some (some .i64)) <| ck (0≤thread) <| ck (thread<(r0.1.2.length:Int)) <| some (decide ((intAt T85 r0.2.2.2.2.1 (thread.toNat*8))<((r0.1.2.getD thread.toNat []).length:Int)))
  else
  some false
theorem le_code_run_hasLine (fu:Nat) (r0:((List (List (Int×Int×Int×Int)))×(List (List Int)))×(List Int)×(El T80)×(Int×Int×Int)×(El T85)×(El T86)×Int) (thread:Int):Lle (code_run_hasLine_c fu r0 thread) (code_run_hasLine r0 thread):=by
  unfold code_run_hasLine_c code_run_hasLine
  repeat' first|with_reducible exact Lle.refl _|with_reducible exact Lle.none _|(with_reducible apply le_code_isBelow<;>intros)|(refine Lle.while fu (fun s=>?_) _)|(refine Lle.bind ?_ (fun x=>?_))|(refine Lle.ck (fun _=>?_))|(refine Lle.ite ?_ ?_)|split|assumption
noncomputable def code_worker_do_c (fu:Nat) (w:Nat) (l:Int×Int×Int×Int) (w_2:List (List (Int×Int×Int×Int))) (w_3:List (List Int)) (w_4:(El T80)) (w_5:Int) (w_6:Int) (w_7:Int) (w_8:(El T85)) (w_9:(El T86)) (w_10:Int) (w_11:List Int):Option (Int×Int×Int×(El T85)) :=
  if (decide (l.1=1))=true then
  ck (0≤l.2.2.1) <| ck (l.2.2.1<3) <| if (decide (l.2.2.1=0))=true then
  ck (0≤l.2.1) <| ck (l.2.1<4) <| ck (kAt T85 (((w+4)+l.2.1.toNat*1))=some (some .i64)) <| some (w_5,w_6,w_7,(setInt T85 w_8 ((w+4)+l.2.1.toNat*1) w_5))
  else
  if (decide (l.2.2.1=1))=true then
  ck (0≤l.2.1) <| ck (l.2.1<4) <| ck (kAt T85 (((w+4)+l.2.1.toNat*1))=some (some .i64)) <| some (w_5,w_6,w_7,(setInt T85 w_8 ((w+4)+l.2.1.toNat*1) w_6))
  else
  ck (0≤l.2.1) <| ck (l.2.1<4) <| ck (kAt T85 (((w+4)+l.2.1.toNat*1))=some (some .i64)) <| some (w_5,w_6,w_7,(setInt T85 w_8 ((w+4)+l.2.1.toNat*1) w_7))
  else
  if (decide (l.1=2))=true then
  ck (0≤l.2.2.1) <| ck (l.2.2.1<4) <| ck (kAt T85 (((w+4)+l.2.2.1.toNat*1))=some (some .i64)) <| ck (0≤l.2.1) <| ck (l.2.1<3) <| if (decide (l.2.1=0))=true then
  some ((intAt T85 w_8 ((w+4)+l.2.2.1.toNat*1)),w_6,w_7,w_8)
  else
  if (decide (l.2.1=1))=true then
  some (w_5,(intAt T85 w_8 ((w+4)+l.2.2.1.toNat*1)),w_7,w_8)
  else
  some (w_5,w_6,(intAt T85 w_8 ((w+4)+l.2.2.1.toNat*1)),w_8)
  else
  if (decide (l.1=3))=true then
  ck (0≤l.2.1) <| ck (l.2.1<3) <| if (decide (l.2.1=0))=true then
  ck (0≤l.2.2.1) <| ck (l.2.2.1<4) <| ck (kAt T85 (((w+4)+l.2.2.1.toNat*1))=some (some .i64)) <| if (decide (w_5=(intAt T85 w_8 ((w+4)+l.2.2.1.toNat*1))))=true then
  ck (0≤l.2.2.2) <| ck (l.2.2.2<4) <| ck (kAt T85 (((w+4)+l.2.2.2.toNat*1))=some (some .i64)) <| ck (kAt T85 (((w+4)+3))=some (some .i64)) <| some ((intAt T85 w_8 ((w+4)+l.2.2.2.toNat*1)),w_6,w_7,(setInt T85 w_8 ((w+4)+3) 1))
  else
  ck (kAt T85 (((w+4)+3))=some (some .i64)) <| some (w_5,w_6,w_7,(setInt T85 w_8 ((w+4)+3) 0))
  else
  if (decide (l.2.1=1))=true then
  ck (0≤l.2.2.1) <| ck (l.2.2.1<4) <| ck (kAt T85 (((w+4)+l.2.2.1.toNat*1))=some (some .i64)) <| if (decide (w_6=(intAt T85 w_8 ((w+4)+l.2.2.1.toNat*1))))=true then
  ck (0≤l.2.2.2) <| ck (l.2.2.2<4) <| ck (kAt T85 (((w+4)+l.2.2.2.toNat*1))=some (some .i64)) <| ck (kAt T85 (((w+4)+3))=some (some .i64)) <| some (w_5,(intAt T85 w_8 ((w+4)+l.2.2.2.toNat*1)),w_7,(setInt T85 w_8 ((w+4)+3) 1))
  else
  ck (kAt T85 (((w+4)+3))=some (some .i64)) <| some (w_5,w_6,w_7,(setInt T85 w_8 ((w+4)+3) 0))
  else
  ck (0≤l.2.2.1) <| ck (l.2.2.1<4) <| ck (kAt T85 (((w+4)+l.2.2.1.toNat*1))=some (some .i64)) <| if (decide (w_7=(intAt T85 w_8 ((w+4)+l.2.2.1.toNat*1))))=true then
  ck (0≤l.2.2.2) <| ck (l.2.2.2<4) <| ck (kAt T85 (((w+4)+l.2.2.2.toNat*1))=some (some .i64)) <| ck (kAt T85 (((w+4)+3))=some (some .i64)) <| some (w_5,w_6,(intAt T85 w_8 ((w+4)+l.2.2.2.toNat*1)),(setInt T85 w_8 ((w+4)+3) 1))
  else
  ck (kAt T85 (((w+4)+3))=some (some .i64)) <| some (w_5,w_6,w_7,(setInt T85 w_8 ((w+4)+3) 0))
  else
  if (decide (l.1=4))=true then
  ck (0≤l.2.1) <| ck (l.2.1<4) <| ck (kAt T85 (((w+4)+l.2.1.toNat*1))=some (some .i64)) <| some (w_5,w_6,w_7,(setInt T85 w_8 ((w+4)+l.2.1.toNat*1) l.2.2.1))
  else
  if (decide (l.1=5))=true then
  ck (0≤l.2.2.1) <| ck (l.2.2.1<4) <| ck (kAt T85 (((w+4)+l.2.2.1.toNat*1))=some (some .i64)) <| ck (0≤l.2.2.2) <| ck (l.2.2.2<4) <| ck (kAt T85 (((w+4)+l.2.2.2.toNat*1))=some (some .i64)) <| ck (InK .i64 ((intAt T85 w_8 ((w+4)+l.2.2.1.toNat*1))+(intAt T85 w_8 ((w+4)+l.2.2.2.toNat*1)))) <| ck (0≤((intAt T85 w_8 ((w+4)+l.2.2.1.toNat*1))+(intAt T85 w_8 ((w+4)+l.2.2.2.toNat*1)))) <| ck (0≤l.2.1) <| ck (l.2.1<4) <| ck (kAt T85 (((w+4)+l.2.1.toNat*1))=some (some .i64)) <| some (w_5,w_6,w_7,(setInt T85 w_8 ((w+4)+l.2.1.toNat*1) (((intAt T85 w_8 ((w+4)+l.2.2.1.toNat*1))+(intAt T85 w_8 ((w+4)+l.2.2.2.toNat*1))) % 10)))
  else
  if (decide (l.1=6))=true then
  ck (0≤l.2.1) <| ck (l.2.1<4) <| ck (kAt T85 (((w+4)+l.2.1.toNat*1))=some (some .i64)) <| if (decide ((intAt T85 w_8 ((w+4)+l.2.1.toNat*1))=0))=true then
  ck (kAt T85 ((w+3))=some (some .i64)) <| some (w_5,w_6,w_7,(setInt T85 w_8 (w+3) l.2.2.1))
  else
  some (w_5,w_6,w_7,w_8)
  else
  some (w_5,w_6,w_7,w_8)
theorem le_code_worker_do (fu:Nat) (w:Nat) (l:Int×Int×Int×Int) (w_2:List (List (Int×Int×Int×Int))) (w_3:List (List Int)) (w_4:(El T80)) (w_5:Int) (w_6:Int) (w_7:Int) (w_8:(El T85)) (w_9:(El T86)) (w_10:Int) (w_11:List Int):Lle (code_worker_do_c fu w l w_2 w_3 w_4 w_5 w_6 w_7 w_8 w_9 w_10 w_11) (code_worker_do w l w_2 w_3 w_4 w_5 w_6 w_7 w_8 w_9 w_10 w_11):=by
  unfold code_worker_do_c code_worker_do
  repeat' first|with_reducible exact Lle.refl _|with_reducible exact Lle.none _|(refine Lle.while fu (fun s=>?_) _)|(refine Lle.bind ?_ (fun x=>?_))|(refine Lle.ck (fun _=>?_))|(refine Lle.ite ?_ ?_)|split|assumption
noncomputable def code_run_step_k1_c (fu:Nat) (r0:((List (List (Int×Int×Int×Int)))×(List (List Int)))×(List Int)×(El T80)×(Int×Int×Int)×(El T85)×(El T86)×Int) (thread:Int) (b1:(El T85)×(El T86)×Int):Option ((El T80)×Int×Int×Int×(El T85)×(El T86)×Int) :=
  ck (kAt T85 (((thread.toNat*8)+2))=some (some .i64)) <| ck (0≤(intAt T85 b1.1 ((thread.toNat*8)+2))) <| ck ((intAt T85 b1.1 ((thread.toNat*8)+2))<6) <| ck (0≤(intAt T86 b1.2.1 (((intAt T85 b1.1 ((thread.toNat*8)+2)).toNat*6)+2))) <| ck ((intAt T86 b1.2.1 (((intAt T85 b1.1 ((thread.toNat*8)+2)).toNat*6)+2))<(r0.1.1.length:Int)) <| ck (kAt T85 (((thread.toNat*8)+3))=some (some .i64)) <| ck (0≤(intAt T85 b1.1 ((thread.toNat*8)+3))) <| ck ((intAt T85 b1.1 ((thread.toNat*8)+3))<((r0.1.1.getD (intAt T86 b1.2.1 (((intAt T85 b1.1 ((thread.toNat*8)+2)).toNat*6)+2)).toNat []).length:Int)) <| ck (kAt T85 (((thread.toNat*8)+2))=some (some .i64)) <| ck (kAt T85 (((thread.toNat*8)+3))=some (some .i64)) <| ck ((r0.2.1.length:Int)<12) <| ck (kAt T85 (((thread.toNat*8)+3))=some (some .i64)) <| ck (InK .i64 ((intAt T85 b1.1 ((thread.toNat*8)+3))+1)) <| ck (kAt T85 (((thread.toNat*8)+3))=some (some .i64)) <| if (decide (((r0.1.1.getD (intAt T86 b1.2.1 (((intAt T85 b1.1 ((thread.toNat*8)+2)).toNat*6)+2)).toNat []).getD (intAt T85 b1.1 ((thread.toNat*8)+3)).toNat (0,0,0,0)).1=7))=true then
  ck (0≤((r0.1.1.getD (intAt T86 b1.2.1 (((intAt T85 b1.1 ((thread.toNat*8)+2)).toNat*6)+2)).toNat []).getD (intAt T85 b1.1 ((thread.toNat*8)+3)).toNat (0,0,0,0)).2.1) <| ck (((r0.1.1.getD (intAt T86 b1.2.1 (((intAt T85 b1.1 ((thread.toNat*8)+2)).toNat*6)+2)).toNat []).getD (intAt T85 b1.1 ((thread.toNat*8)+3)).toNat (0,0,0,0)).2.1<4) <| ck (kAt T85 ((((thread.toNat*8)+4)+((r0.1.1.getD (intAt T86 b1.2.1 (((intAt T85 b1.1 ((thread.toNat*8)+2)).toNat*6)+2)).toNat []).getD (intAt T85 b1.1 ((thread.toNat*8)+3)).toNat (0,0,0,0)).2.1.toNat*1))=some (some .i64)) <| ck (InK .i64 (2*(r0.2.1.length:Int))) <| ck (InK .i64 ((2*(r0.2.1.length:Int))+2)) <| ck (kAt T85 (((thread.toNat*8)+1))=some none) <| ck (kAt T85 ((thread.toNat*8))=some (some .i64)) <| ck (InK .i64 ((intAt T85 (setBool T85 (setInt T85 b1.1 ((thread.toNat*8)+3) ((intAt T85 b1.1 ((thread.toNat*8)+3))+1)) ((thread.toNat*8)+1) false) (thread.toNat*8))+1)) <| ck (kAt T85 ((thread.toNat*8))=some (some .i64)) <| some ((putX T80 (.pair (.int .i64) (.int .i64)) r0.2.2.1 (r0.2.1.length*2) ((intAt T85 b1.1 ((thread.toNat*8)+2)),(intAt T85 b1.1 ((thread.toNat*8)+3)))),r0.2.2.2.1.1,r0.2.2.2.1.2.1,r0.2.2.2.1.2.2,(setInt T85 (setBool T85 (setInt T85 b1.1 ((thread.toNat*8)+3) ((intAt T85 b1.1 ((thread.toNat*8)+3))+1)) ((thread.toNat*8)+1) false) (thread.toNat*8) ((intAt T85 (setBool T85 (setInt T85 b1.1 ((thread.toNat*8)+3) ((intAt T85 b1.1 ((thread.toNat*8)+3))+1)) ((thread.toNat*8)+1) false) (thread.toNat*8))+1)),(setInt T86 (setInt T86 b1.2.1 (((intAt T85 b1.1 ((thread.toNat*8)+2)).toNat*6)+3) (intAt T85 (setInt T85 b1.1 ((thread.toNat*8)+3) ((intAt T85 b1.1 ((thread.toNat*8)+3))+1)) (((thread.toNat*8)+4)+((r0.1.1.getD (intAt T86 b1.2.1 (((intAt T85 b1.1 ((thread.toNat*8)+2)).toNat*6)+2)).toNat []).getD (intAt T85 b1.1 ((thread.toNat*8)+3)).toNat (0,0,0,0)).2.1.toNat*1))) (((intAt T85 b1.1 ((thread.toNat*8)+2)).toNat*6)+5) ((2*(r0.2.1.length:Int))+2)),b1.2.2)
  else
  (code_worker_do_c fu (thread.toNat*8) ((r0.1.1.getD (intAt T86 b1.2.1 (((intAt T85 b1.1 ((thread.toNat*8)+2)).toNat*6)+2)).toNat []).getD (intAt T85 b1.1 ((thread.toNat*8)+3)).toNat (0,0,0,0)) r0.1.1 r0.1.2 (putX T80 (.pair (.int .i64) (.int .i64)) r0.2.2.1 (r0.2.1.length*2) ((intAt T85 b1.1 ((thread.toNat*8)+2)),(intAt T85 b1.1 ((thread.toNat*8)+3)))) r0.2.2.2.1.1 r0.2.2.2.1.2.1 r0.2.2.2.1.2.2 (setInt T85 b1.1 ((thread.toNat*8)+3) ((intAt T85 b1.1 ((thread.toNat*8)+3))+1)) b1.2.1 b1.2.2 ((r0.2.1.take r0.2.1.length)++[thread])).bind fun v0 =>
  some ((putX T80 (.pair (.int .i64) (.int .i64)) r0.2.2.1 (r0.2.1.length*2) ((intAt T85 b1.1 ((thread.toNat*8)+2)),(intAt T85 b1.1 ((thread.toNat*8)+3)))),v0.1,v0.2.1,v0.2.2.1,v0.2.2.2,b1.2)
theorem le_code_run_step_k1 (fu:Nat) (r0:((List (List (Int×Int×Int×Int)))×(List (List Int)))×(List Int)×(El T80)×(Int×Int×Int)×(El T85)×(El T86)×Int) (thread:Int) (b1:(El T85)×(El T86)×Int):Lle (code_run_step_k1_c fu r0 thread b1) (code_run_step_k1 r0 thread b1):=by
  unfold code_run_step_k1_c code_run_step_k1
  repeat' first|with_reducible exact Lle.refl _|with_reducible exact Lle.none _|(with_reducible apply le_code_worker_do<;>intros)|(refine Lle.while fu (fun s=>?_) _)|(refine Lle.bind ?_ (fun x=>?_))|(refine Lle.ck (fun _=>?_))|(refine Lle.ite ?_ ?_)|split|assumption
noncomputable def code_run_step_c (fu:Nat) (r0:((List (List (Int×Int×Int×Int)))×(List (List Int)))×(List Int)×(El T80)×(Int×Int×Int)×(El T85)×(El T86)×Int) (thread:Int):Option ((El T80)×Int×Int×Int×(El T85)×(El T86)×Int) :=
  ck (((r0.2.1.take r0.2.1.length).length+1)*8≤140737488355328) <| ck (0≤thread) <| ck (thread<2) <| ck (kAt T85 (((thread.toNat*8)+1))=some none) <| if (!(boolAt T85 r0.2.2.2.2.1 ((thread.toNat*8)+1)))=true then
  ck (0≤thread) <| ck (thread<(r0.1.2.length:Int)) <| ck (kAt T85 ((thread.toNat*8))=some (some .i64)) <| ck (0≤(intAt T85 r0.2.2.2.2.1 (thread.toNat*8))) <| ck ((intAt T85 r0.2.2.2.2.1 (thread.toNat*8))<((r0.1.2.getD thread.toNat []).length:Int)) <| ck (InK .i64 (2*(r0.2.1.length:Int))) <| ck (InK .i64 ((2*(r0.2.1.length:Int))+1)) <| ck (0≤r0.2.2.2.2.2.2) <| ck (r0.2.2.2.2.2.2<6) <| ck (kAt T85 ((thread.toNat*8))=some (some .i64)) <| ck (partOK T85 ((.pair (.int .i64) (.pair .bool (.pair (.int .i64) (.pair (.int .i64) (.pair (.int .i64) (.pair (.int .i64) (.pair (.int .i64) (.int .i64))))))))) ((thread.toNat*8))=true) <| ck (InK .i64 (r0.2.2.2.2.2.2+1)) <| code_run_step_k1_c fu r0 thread ((putX T85 (.pair (.int .i64) (.pair .bool (.pair (.int .i64) (.pair (.int .i64) (.pair (.int .i64) (.pair (.int .i64) (.pair (.int .i64) (.int .i64)))))))) r0.2.2.2.2.1 (thread.toNat*8) ((intAt T85 r0.2.2.2.2.1 (thread.toNat*8)),true,r0.2.2.2.2.2.2,0,0,1,0,0)),(putX T86 (.pair (.int .i64) (.pair (.int .i64) (.pair (.int .i64) (.pair (.int .i64) (.pair (.int .i64) (.int .i64)))))) r0.2.2.2.2.2.1 (r0.2.2.2.2.2.2.toNat*6) (thread,0,((r0.1.2.getD thread.toNat []).getD (intAt T85 r0.2.2.2.2.1 (thread.toNat*8)).toNat 0),0,((2*(r0.2.1.length:Int))+1),0)),(r0.2.2.2.2.2.2+1))
  else
  code_run_step_k1_c fu r0 thread r0.2.2.2.2
theorem le_code_run_step (fu:Nat) (r0:((List (List (Int×Int×Int×Int)))×(List (List Int)))×(List Int)×(El T80)×(Int×Int×Int)×(El T85)×(El T86)×Int) (thread:Int):Lle (code_run_step_c fu r0 thread) (code_run_step r0 thread):=by
  unfold code_run_step_c code_run_step
  refine Lle.ck fun _=>Lle.ck fun _=>Lle.ck fun _=>Lle.ck fun _=>Lle.ite ?_ ?_
  · iterate 12 refine Lle.ck (fun _=>?_)
    exact le_code_run_step_k1 fu _ _ _
  · exact le_code_run_step_k1 fu _ _ _
noncomputable def code_program_play_k1_c (fu:Nat) (p:(List (List (Int×Int×Int×Int)))×(List (List Int))) (b1:(List Int)×(El T80)×Int×Int×Int×(El T85)×(El T86)×Int):Option ((List (List (Int×Int×Int×Int)))×(List (List Int))×(List Int)×(El T80)×Int×Int×Int×(El T85)×(El T86)×Int×Bool) :=
  some (p.1,p.2,b1.1,b1.2.1,b1.2.2.1,b1.2.2.2.1,b1.2.2.2.2.1,b1.2.2.2.2.2.1,b1.2.2.2.2.2.2.1,b1.2.2.2.2.2.2.2,true)
theorem le_code_program_play_k1 (fu:Nat) (p:(List (List (Int×Int×Int×Int)))×(List (List Int))) (b1:(List Int)×(El T80)×Int×Int×Int×(El T85)×(El T86)×Int):Lle (code_program_play_k1_c fu p b1) (code_program_play_k1 p b1):=by
  unfold code_program_play_k1_c code_program_play_k1
  repeat' first|with_reducible exact Lle.refl _|with_reducible exact Lle.none _|(refine Lle.while fu (fun s=>?_) _)|(refine Lle.bind ?_ (fun x=>?_))|(refine Lle.ck (fun _=>?_))|(refine Lle.ite ?_ ?_)|split|assumption
noncomputable def code_program_play_b1_c (fu:Nat) (p:(List (List (Int×Int×Int×Int)))×(List (List Int))) (schedule:List Int) (st1:(List Int)×(El T80)×Int×Int×Int×(El T85)×(El T86)×Int×Int):Option (Step ((List Int)×(El T80)×Int×Int×Int×(El T85)×(El T86)×Int×Int) (Sum Unit ((List Int)×(El T80)×Int×Int×Int×(El T85)×(El T86)×Int))) :=
  if (decide (st1.2.2.2.2.2.2.2.2<(schedule.length:Int)))=true then
  ck (0≤st1.2.2.2.2.2.2.2.2) <| ck (st1.2.2.2.2.2.2.2.2<(schedule.length:Int)) <| (code_run_hasLine_c fu (p,st1.1,st1.2.1,(st1.2.2.1,st1.2.2.2.1,st1.2.2.2.2.1),st1.2.2.2.2.2.1,st1.2.2.2.2.2.2.1,st1.2.2.2.2.2.2.2.1) (schedule.getD st1.2.2.2.2.2.2.2.2.toNat 0)).bind fun v0 =>
  if (!v0)=true then
  some (.done (Sum.inl ()))
  else
  (code_run_step_c fu (p,st1.1,st1.2.1,(st1.2.2.1,st1.2.2.2.1,st1.2.2.2.2.1),st1.2.2.2.2.2.1,st1.2.2.2.2.2.2.1,st1.2.2.2.2.2.2.2.1) (schedule.getD st1.2.2.2.2.2.2.2.2.toNat 0)).bind fun v0_2 =>
  ck (InK .i64 (st1.2.2.2.2.2.2.2.2+1)) <| some (.next (((st1.1.take st1.1.length)++[(schedule.getD st1.2.2.2.2.2.2.2.2.toNat 0)]),v0_2.1,v0_2.2.1,v0_2.2.2.1,v0_2.2.2.2.1,v0_2.2.2.2.2.1,v0_2.2.2.2.2.2.1,v0_2.2.2.2.2.2.2,(st1.2.2.2.2.2.2.2.2+1)))
  else
  some (.done (Sum.inr (st1.1,st1.2.1,st1.2.2.1,st1.2.2.2.1,st1.2.2.2.2.1,st1.2.2.2.2.2.1,st1.2.2.2.2.2.2.1,st1.2.2.2.2.2.2.2.1)))
theorem le_code_program_play_b1 (fu:Nat) (p:(List (List (Int×Int×Int×Int)))×(List (List Int))) (schedule:List Int) (st1:(List Int)×(El T80)×Int×Int×Int×(El T85)×(El T86)×Int×Int):Lle (code_program_play_b1_c fu p schedule st1) (code_program_play_b1 p schedule st1):=by
  unfold code_program_play_b1_c code_program_play_b1
  repeat' first|with_reducible exact Lle.refl _|with_reducible exact Lle.none _|(with_reducible apply le_code_run_hasLine<;>intros)|(with_reducible apply le_code_run_step<;>intros)|(refine Lle.while fu (fun s=>?_) _)|(refine Lle.bind ?_ (fun x=>?_))|(refine Lle.ck (fun _=>?_))|(refine Lle.ite ?_ ?_)|split|assumption
noncomputable def code_program_play_c (fu:Nat) (p:(List (List (Int×Int×Int×Int)))×(List (List Int))) (schedule:List Int):Option ((List (List (Int×Int×Int×Int)))×(List (List Int))×(List Int)×(El T80)×Int×Int×Int×(El T85)×(El T86)×Int×Bool) :=
  if (decide (12<(schedule.length:Int)))=true then
  some ([],[],[],(Ty.dflt T80),0,0,0,(Ty.dflt T85),(Ty.dflt T86),0,false)
  else
  (whileN (code_program_play_b1_c fu p schedule) fu ([],(Ty.dflt T80),0,0,0,(Ty.dflt T85),(Ty.dflt T86),0,0)).bind fun x=>match x with
  | .inl _=>(some ([],[],[],(Ty.dflt T80),0,0,0,(Ty.dflt T85),(Ty.dflt T86),0,false))
  | .inr r1=>(code_program_play_k1_c fu p r1)
theorem le_code_program_play (fu:Nat) (p:(List (List (Int×Int×Int×Int)))×(List (List Int))) (schedule:List Int):Lle (code_program_play_c fu p schedule) (code_program_play p schedule):=by
  unfold code_program_play_c code_program_play
  repeat' first|with_reducible exact Lle.refl _|with_reducible exact Lle.none _|(with_reducible apply le_code_program_play_b1<;>intros)|(with_reducible apply le_code_program_play_k1<;>intros)|(refine Lle.while fu (fun s=>?_) _)|(refine Lle.bind ?_ (fun x=>?_))|(refine Lle.ck (fun _=>?_))|(refine Lle.ite ?_ ?_)|split|assumption
noncomputable def code_played_c (fu:Nat) (c:List (List (Int×Int×Int×Int))) (use:List (List Int)) (schedule:List Int):Option ((List (List (Int×Int×Int×Int)))×(List (List Int))×(List Int)×(El T80)×Int×Int×Int×(El T85)×(El T86)×Int×Int) :=
  (code_checkUse_c fu c use).bind fun v0 =>
  if (!(decide (v0=0)))=true then
  some ([],[],[],(Ty.dflt T80),0,0,0,(Ty.dflt T85),(Ty.dflt T86),0,v0)
  else
  (code_program_play_c fu (c,use) schedule).bind fun v0_2 =>
  if (!v0_2.2.2.2.2.2.2.2.2.2.2)=true then
  some ([],[],[],(Ty.dflt T80),0,0,0,(Ty.dflt T85),(Ty.dflt T86),0,2)
  else
  some (v0_2.1,v0_2.2.1,v0_2.2.2.1,v0_2.2.2.2.1,v0_2.2.2.2.2.1,v0_2.2.2.2.2.2.1,v0_2.2.2.2.2.2.2.1,v0_2.2.2.2.2.2.2.2.1,v0_2.2.2.2.2.2.2.2.2.1,v0_2.2.2.2.2.2.2.2.2.2.1,0)
theorem le_code_played (fu:Nat) (c:List (List (Int×Int×Int×Int))) (use:List (List Int)) (schedule:List Int):Lle (code_played_c fu c use schedule) (code_played c use schedule):=by
  unfold code_played_c code_played
  repeat' first|with_reducible exact Lle.refl _|with_reducible exact Lle.none _|(with_reducible apply le_code_checkUse<;>intros)|(with_reducible apply le_code_program_play<;>intros)|(refine Lle.while fu (fun s=>?_) _)|(refine Lle.bind ?_ (fun x=>?_))|(refine Lle.ck (fun _=>?_))|(refine Lle.ite ?_ ?_)|split|assumption
noncomputable def slices_Clone_c (fu:Nat) (s:ZH):Option (ZH) :=
  ck (s.length*48≤140737488355328) <| some s
theorem le_slices_Clone (fu:Nat) (s:ZH):Lle (slices_Clone_c fu s) (slices_Clone s):=by
  unfold slices_Clone_c slices_Clone
  repeat' first|with_reducible exact Lle.refl _|with_reducible exact Lle.none _|(refine Lle.while fu (fun s=>?_) _)|(refine Lle.bind ?_ (fun x=>?_))|(refine Lle.ck (fun _=>?_))|(refine Lle.ite ?_ ?_)|split|assumption
noncomputable def code_run_history_c (fu:Nat) (r0:((List (List (Int×Int×Int×Int)))×(List (List Int)))×(List Int)×(El T80)×(Int×Int×Int)×(El T85)×(El T86)×Int):Option (ZH) :=
  ck (0≤r0.2.2.2.2.2.2) <| ck (r0.2.2.2.2.2.2≤6) <| (slices_Clone_c fu ((listT (.pair (.int .i64) (.pair (.int .i64) (.pair (.int .i64) (.pair (.int .i64) (.pair (.int .i64) (.int .i64)))))) 6 r0.2.2.2.2.2.1).take r0.2.2.2.2.2.2.toNat)).bind fun v0 =>
  some v0
theorem le_code_run_history (fu:Nat) (r0:((List (List (Int×Int×Int×Int)))×(List (List Int)))×(List Int)×(El T80)×(Int×Int×Int)×(El T85)×(El T86)×Int):Lle (code_run_history_c fu r0) (code_run_history r0):=by
  unfold code_run_history_c code_run_history
  repeat' first|with_reducible exact Lle.refl _|with_reducible exact Lle.none _|(with_reducible apply le_slices_Clone<;>intros)|(refine Lle.while fu (fun s=>?_) _)|(refine Lle.bind ?_ (fun x=>?_))|(refine Lle.ck (fun _=>?_))|(refine Lle.ite ?_ ?_)|split|assumption
noncomputable def code_Run_c (fu:Nat) (c:List (List (Int×Int×Int×Int))) (use:List (List Int)) (schedule:List Int):Option (ZH×Int) :=
  (code_played_c fu c use schedule).bind fun v0 =>
  if (!(decide (v0.2.2.2.2.2.2.2.2.2.2=0)))=true then
  some ([],v0.2.2.2.2.2.2.2.2.2.2)
  else
  (code_run_history_c fu ((v0.1,v0.2.1),v0.2.2.1,v0.2.2.2.1,(v0.2.2.2.2.1,v0.2.2.2.2.2.1,v0.2.2.2.2.2.2.1),v0.2.2.2.2.2.2.2.1,v0.2.2.2.2.2.2.2.2.1,v0.2.2.2.2.2.2.2.2.2.1)).bind fun v0_2 =>
  some (v0_2,0)
theorem le_code_Run (fu:Nat) (c:List (List (Int×Int×Int×Int))) (use:List (List Int)) (schedule:List Int):Lle (code_Run_c fu c use schedule) (code_Run c use schedule):=by
  unfold code_Run_c code_Run
  repeat' first|with_reducible exact Lle.refl _|with_reducible exact Lle.none _|(with_reducible apply le_code_played<;>intros)|(with_reducible apply le_code_run_history<;>intros)|(refine Lle.while fu (fun s=>?_) _)|(refine Lle.bind ?_ (fun x=>?_))|(refine Lle.ck (fun _=>?_))|(refine Lle.ite ?_ ?_)|split|assumption
noncomputable def lineallaw08_Sane_c (fu:Nat):Option Bool :=
  (code_Run_c fu [[(1,0,0,0),(5,2,0,1),(2,0,2,0),(7,0,0,0)]] [[0],[0]] [0,0,1,1,0,0,1,1]).bind fun v0 =>
  if (decide (v0.2=0))=true then
  if (decide ((v0.1.length:Int)=2))=true then
  ck (0<(v0.1.length:Int)) <| ck (InK .i64 (v0.1.getD 0 (0,0,0,0,0,0)).1) <| ck (InK .i64 (v0.1.getD 0 (0,0,0,0,0,0)).2.1) <| ck (InK .i64 (v0.1.getD 0 (0,0,0,0,0,0)).2.2.1) <| ck (InK .i64 (v0.1.getD 0 (0,0,0,0,0,0)).2.2.2.1) <| ck (InK .i64 (v0.1.getD 0 (0,0,0,0,0,0)).2.2.2.2.1) <| ck (InK .i64 (v0.1.getD 0 (0,0,0,0,0,0)).2.2.2.2.2) <| ck (InK .i64 0) <| ck (InK .i64 0) <| ck (InK .i64 0) <| ck (InK .i64 0) <| ck (InK .i64 1) <| ck (InK .i64 12) <| if (decide ((v0.1.getD 0 (0,0,0,0,0,0))=(0,0,0,0,1,12)))=true then
  ck (1<(v0.1.length:Int)) <| ck (InK .i64 (v0.1.getD 1 (0,0,0,0,0,0)).1) <| ck (InK .i64 (v0.1.getD 1 (0,0,0,0,0,0)).2.1) <| ck (InK .i64 (v0.1.getD 1 (0,0,0,0,0,0)).2.2.1) <| ck (InK .i64 (v0.1.getD 1 (0,0,0,0,0,0)).2.2.2.1) <| ck (InK .i64 (v0.1.getD 1 (0,0,0,0,0,0)).2.2.2.2.1) <| ck (InK .i64 (v0.1.getD 1 (0,0,0,0,0,0)).2.2.2.2.2) <| ck (InK .i64 1) <| ck (InK .i64 0) <| ck (InK .i64 0) <| ck (InK .i64 0) <| ck (InK .i64 5) <| ck (InK .i64 16) <| some (decide ((v0.1.getD 1 (0,0,0,0,0,0))=(1,0,0,0,5,16)))
  else
  some false
  else
  some false
  else
  some false
theorem le_lineallaw08_Sane (fu:Nat):Lle (lineallaw08_Sane_c fu ) (lineallaw08_Sane ):=by
  unfold lineallaw08_Sane_c lineallaw08_Sane
  repeat' first|with_reducible exact Lle.refl _|with_reducible exact Lle.none _|(with_reducible apply le_code_Run<;>intros)|(refine Lle.while fu (fun s=>?_) _)|(refine Lle.bind ?_ (fun x=>?_))|(refine Lle.ck (fun _=>?_))|(refine Lle.ite ?_ ?_)|split|assumption
theorem lineallaw08_Sane_run:lineallaw08_Sane=some (true):=le_lineallaw08_Sane 40 _ (by decide +kernel)
end Go.Proofs.Ytenchhmcjmjlbaa
