import Derived.Test.YtcckpmeepcoafaaDoorHzp
namespace Go.Proofs.YtcckpmeepcoafaaDoor
open Go.RowKit
set_option linter.unusedSimpArgs false
set_option linter.unusedVariables false
set_option linter.constructorNameAsVariable false
def Lle {α:Type} (a b:Option α):Prop:=∀ r,a=some r→b=some r
theorem Lle.refl {α:Type} (a:Option α):Lle a a:=fun _ h=>h
theorem Lle.none {α:Type} (a:Option α):Lle Option.none a:=fun _ h=>by cases h
theorem Lle.bind {α β:Type} {a b:Option α} {f g:α→Option β} (h:Lle a b) (k:∀ x,Lle (f x) (g x)):Lle (a.bind f) (b.bind g):=fun r hr=>by
  obtain ⟨x,h1,h2⟩:=Option.bind_eq_some_iff.1 hr
  exact Option.bind_eq_some_iff.2 ⟨x,h x h1,k x r h2⟩
theorem Lle.ck {α:Type} {c:Prop} [Decidable c] {a b:Option α} (h:c→Lle a b):Lle (ck c a) (ck c b):=fun r hr=>by
  obtain ⟨hc,h1⟩:=ck_some.1 hr
  exact ck_some.2 ⟨hc,h hc r h1⟩
theorem Lle.ite {α:Type} {c:Bool} {a b a' b':Option α} (h:Lle a a') (k:Lle b b'):Lle (if c=true then a else b) (if c=true then a' else b'):=by
  split
  · exact h
  · exact k
theorem Lle.while {S R:Type} {f g:S→Option (Step S R)} (fu:Nat) (h:∀ s,Lle (f s) (g s)) (s:S):Lle (whileN f fu s) (whileO g s):=fun r hr=>by
  have:∀ (n:Nat) (s:S) (r:R),whileN f n s=some r→whileN g n s=some r:=by
    intro n
    induction n with
    | zero=>intro s r h; cases h
    | succ n ih =>
      intro s r hr
      unfold whileN at hr ⊢
      cases hf:f s with
      | none=>rw [hf] at hr; cases hr
      | some x =>
        rw [hf] at hr
        rw [h s x hf]
        cases x with
        | next s'=>exact ih s' r hr
        | done r'=>exact hr
  exact whileO_of (this fu s r hr)
noncomputable def hazard_New_k1_c (fu:Nat) (b2_2:(El T65)):Option (Sum Unit ((El T65))) :=
  some (Sum.inr b2_2)
theorem le_hazard_New_k1 (fu:Nat) (b2_2:(El T65)):Lle (hazard_New_k1_c fu b2_2) (hazard_New_k1 b2_2):=by
  unfold hazard_New_k1_c hazard_New_k1
  repeat' first|with_reducible exact Lle.refl _|with_reducible exact Lle.none _|(refine Lle.while fu (fun s=>?_) _)|(refine Lle.bind ?_ (fun x=>?_))|(refine Lle.ck (fun _=>?_))|(refine Lle.ite ?_ ?_)|split|assumption
noncomputable def hazard_New_k2_c (fu:Nat) (st1:(El T65)×Int) (b2:(El T65)):Option (Step ((El T65)×Int) ((El T65))) :=
  ck (InK .i64 (st1.2+1)) <| some (.next (b2,(st1.2+1)))
theorem le_hazard_New_k2 (fu:Nat) (st1:(El T65)×Int) (b2:(El T65)):Lle (hazard_New_k2_c fu st1 b2) (hazard_New_k2 st1 b2):=by
  unfold hazard_New_k2_c hazard_New_k2
  repeat' first|with_reducible exact Lle.refl _|with_reducible exact Lle.none _|(refine Lle.while fu (fun s=>?_) _)|(refine Lle.bind ?_ (fun x=>?_))|(refine Lle.ck (fun _=>?_))|(refine Lle.ite ?_ ?_)|split|assumption
noncomputable def hazard_New_b2_c (fu:Nat) (st1:(El T65)×Int) (st2:(El T65)×Int):Option (Step ((El T65)×Int) ((El T65))) :=
  if (decide (st2.2<2))=true then
  ck (0≤st1.2) <| ck (st1.2<4) <| ck (0≤st2.2) <| ck (st2.2<2) <| ck (InK .i64 (st2.2+1)) <| some (.next ((setInt T65 st2.1 ((st1.2.toNat*2)+st2.2.toNat*1) (-1)),(st2.2+1)))
  else
  some (.done st2.1)
theorem le_hazard_New_b2 (fu:Nat) (st1:(El T65)×Int) (st2:(El T65)×Int):Lle (hazard_New_b2_c fu st1 st2) (hazard_New_b2 st1 st2):=by
  unfold hazard_New_b2_c hazard_New_b2
  repeat' first|with_reducible exact Lle.refl _|with_reducible exact Lle.none _|(refine Lle.while fu (fun s=>?_) _)|(refine Lle.bind ?_ (fun x=>?_))|(refine Lle.ck (fun _=>?_))|(refine Lle.ite ?_ ?_)|split|assumption
noncomputable def hazard_New_b1_c (fu:Nat) (st1:(El T65)×Int):Option (Step ((El T65)×Int) ((El T65))) :=
  if (decide (st1.2<4))=true then
  (whileN (hazard_New_b2_c fu st1) fu (st1.1,0)).bind fun r2 =>
  hazard_New_k2_c fu st1 r2
  else
  some (.done st1.1)
theorem le_hazard_New_b1 (fu:Nat) (st1:(El T65)×Int):Lle (hazard_New_b1_c fu st1) (hazard_New_b1 st1):=by
  unfold hazard_New_b1_c hazard_New_b1
  repeat' first|with_reducible exact Lle.refl _|with_reducible exact Lle.none _|(with_reducible apply le_hazard_New_b2<;>intros)|(with_reducible apply le_hazard_New_k2<;>intros)|(refine Lle.while fu (fun s=>?_) _)|(refine Lle.bind ?_ (fun x=>?_))|(refine Lle.ck (fun _=>?_))|(refine Lle.ite ?_ ?_)|split|assumption
noncomputable def hazard_New_c (fu:Nat) (threads:Int) (size:Int):Option (Sum Unit ((El T65))) :=
  if (decide (threads<1))=true then
  some (Sum.inl ())
  else
  if (decide (4<threads))=true then
  some (Sum.inl ())
  else
  if (decide (size<1))=true then
  some (Sum.inl ())
  else
  if (decide (4<size))=true then
  some (Sum.inl ())
  else
  (whileN (hazard_New_b1_c fu) fu ((Ty.dflt T65),0)).bind fun r1 =>
  hazard_New_k1_c fu r1
theorem le_hazard_New (fu:Nat) (threads:Int) (size:Int):Lle (hazard_New_c fu threads size) (hazard_New threads size):=by
  unfold hazard_New_c hazard_New
  repeat' first|with_reducible exact Lle.refl _|with_reducible exact Lle.none _|(with_reducible apply le_hazard_New_b1<;>intros)|(with_reducible apply le_hazard_New_k1<;>intros)|(refine Lle.while fu (fun s=>?_) _)|(refine Lle.bind ?_ (fun x=>?_))|(refine Lle.ck (fun _=>?_))|(refine Lle.ite ?_ ?_)|split|assumption
noncomputable def hazard_isDeed_c (fu:Nat) (d:Int×Int×Int×Int):Option Unit :=
  some ()
theorem le_hazard_isDeed (fu:Nat) (d:Int×Int×Int×Int):Lle (hazard_isDeed_c fu d) (hazard_isDeed d):=by
  unfold hazard_isDeed_c hazard_isDeed
  repeat' first|with_reducible exact Lle.refl _|with_reducible exact Lle.none _|(refine Lle.while fu (fun s=>?_) _)|(refine Lle.bind ?_ (fun x=>?_))|(refine Lle.ck (fun _=>?_))|(refine Lle.ite ?_ ?_)|split|assumption
noncomputable def hazard_Yard_isNone_c (fu:Nat) (y:Int×Int×(El T63)×(El T65)×(El T69)):Option Unit :=
  some ()
theorem le_hazard_Yard_isNone (fu:Nat) (y:Int×Int×(El T63)×(El T65)×(El T69)):Lle (hazard_Yard_isNone_c fu y) (hazard_Yard_isNone y):=by
  unfold hazard_Yard_isNone_c hazard_Yard_isNone
  repeat' first|with_reducible exact Lle.refl _|with_reducible exact Lle.none _|(refine Lle.while fu (fun s=>?_) _)|(refine Lle.bind ?_ (fun x=>?_))|(refine Lle.ck (fun _=>?_))|(refine Lle.ite ?_ ?_)|split|assumption
noncomputable def hazard_isDeed_1_k1_c (fu:Nat):Option Bool :=
  some true
theorem le_hazard_isDeed_1_k1 (fu:Nat):Lle (hazard_isDeed_1_k1_c fu ) (hazard_isDeed_1_k1 ):=by
  unfold hazard_isDeed_1_k1_c hazard_isDeed_1_k1
  repeat' first|with_reducible exact Lle.refl _|with_reducible exact Lle.none _|(refine Lle.while fu (fun s=>?_) _)|(refine Lle.bind ?_ (fun x=>?_))|(refine Lle.ck (fun _=>?_))|(refine Lle.ite ?_ ?_)|split|assumption
noncomputable def hazard_isDeed_1_b1_c (fu:Nat) (a1:Int×Int×Int×Int) (st1:Int):Option (Step Int (Sum Unit Unit)) :=
  if (decide (st1<(([a1.2.1,a1.2.2.1,a1.2.2.2].drop (fieldsL.getD (0+a1.1.toNat*1) 0).toNat).length:Int)))=true then
  ck (0≤st1) <| ck (st1<(([a1.2.1,a1.2.2.1,a1.2.2.2].drop (fieldsL.getD (0+a1.1.toNat*1) 0).toNat).length:Int)) <| if (!(decide ((([a1.2.1,a1.2.2.1,a1.2.2.2].drop (fieldsL.getD (0+a1.1.toNat*1) 0).toNat).getD st1.toNat 0)=0)))=true then
  some (.done (Sum.inl ()))
  else
  ck (InK .i64 (st1+1)) <| some (.next (st1+1))
  else
  some (.done (Sum.inr ()))
theorem le_hazard_isDeed_1_b1 (fu:Nat) (a1:Int×Int×Int×Int) (st1:Int):Lle (hazard_isDeed_1_b1_c fu a1 st1) (hazard_isDeed_1_b1 a1 st1):=by
  unfold hazard_isDeed_1_b1_c hazard_isDeed_1_b1
  repeat' first|with_reducible exact Lle.refl _|with_reducible exact Lle.none _|(refine Lle.while fu (fun s=>?_) _)|(refine Lle.bind ?_ (fun x=>?_))|(refine Lle.ck (fun _=>?_))|(refine Lle.ite ?_ ?_)|split|assumption
noncomputable def hazard_isDeed_1_c (fu:Nat) (a1:Int×Int×Int×Int) (a0:Int×Int×(El T63)×(El T65)×(El T69)):Option Bool :=
  if (decide (a1.1<1))=true then
  some false
  else
  if (decide (6<a1.1))=true then
  some false
  else
  ck (0≤a1.1) <| ck (a1.1<7) <| ck ((0+a1.1.toNat*1)<7) <| ck (0≤(fieldsL.getD (0+a1.1.toNat*1) 0)) <| ck ((fieldsL.getD (0+a1.1.toNat*1) 0)≤3) <| (whileN (hazard_isDeed_1_b1_c fu a1) fu 0).bind fun x=>match x with
  | .inl _=>(some false)
  | .inr _=>(hazard_isDeed_1_k1_c fu)
theorem le_hazard_isDeed_1 (fu:Nat) (a1:Int×Int×Int×Int) (a0:Int×Int×(El T63)×(El T65)×(El T69)):Lle (hazard_isDeed_1_c fu a1 a0) (hazard_isDeed_1 a1 a0):=by
  unfold hazard_isDeed_1_c hazard_isDeed_1
  repeat' first|with_reducible exact Lle.refl _|with_reducible exact Lle.none _|(with_reducible apply le_hazard_isDeed_1_b1<;>intros)|(with_reducible apply le_hazard_isDeed_1_k1<;>intros)|(refine Lle.while fu (fun s=>?_) _)|(refine Lle.bind ?_ (fun x=>?_))|(refine Lle.ck (fun _=>?_))|(refine Lle.ite ?_ ?_)|split|assumption
noncomputable def hazard_Yard_fails_k1_c (fu:Nat):Option Int :=
  some 0
theorem le_hazard_Yard_fails_k1 (fu:Nat):Lle (hazard_Yard_fails_k1_c fu ) (hazard_Yard_fails_k1 ):=by
  unfold hazard_Yard_fails_k1_c hazard_Yard_fails_k1
  repeat' first|with_reducible exact Lle.refl _|with_reducible exact Lle.none _|(refine Lle.while fu (fun s=>?_) _)|(refine Lle.bind ?_ (fun x=>?_))|(refine Lle.ck (fun _=>?_))|(refine Lle.ite ?_ ?_)|split|assumption
noncomputable def hazard_Yard_fails_c (fu:Nat) (y:Int×Int×(El T63)×(El T65)×(El T69)) (c0:Int×Int×Int×Int) (checks:Int):Option Int :=
  (hazard_Yard_isNone_c fu y).bind fun v0 =>
  if (decide (y.1=0))=true then
  some 60
  else
  (hazard_isDeed_1_c fu c0 y).bind fun v0_2 =>
  if (!v0_2)=true then
  some checks
  else
  ck (InK .i64 1) <| hazard_Yard_fails_k1_c fu
theorem le_hazard_Yard_fails (fu:Nat) (y:Int×Int×(El T63)×(El T65)×(El T69)) (c0:Int×Int×Int×Int) (checks:Int):Lle (hazard_Yard_fails_c fu y c0 checks) (hazard_Yard_fails y c0 checks):=by
  unfold hazard_Yard_fails_c hazard_Yard_fails
  repeat' first|with_reducible exact Lle.refl _|with_reducible exact Lle.none _|(with_reducible apply le_hazard_Yard_isNone<;>intros)|(with_reducible apply le_hazard_isDeed_1<;>intros)|(with_reducible apply le_hazard_Yard_fails_k1<;>intros)|(refine Lle.while fu (fun s=>?_) _)|(refine Lle.bind ?_ (fun x=>?_))|(refine Lle.ck (fun _=>?_))|(refine Lle.ite ?_ ?_)|split|assumption
noncomputable def hazard_isThread_c (fu:Nat) (thread:Int):Option Unit :=
  some ()
theorem le_hazard_isThread (fu:Nat) (thread:Int):Lle (hazard_isThread_c fu thread) (hazard_isThread thread):=by
  unfold hazard_isThread_c hazard_isThread
  repeat' first|with_reducible exact Lle.refl _|with_reducible exact Lle.none _|(refine Lle.while fu (fun s=>?_) _)|(refine Lle.bind ?_ (fun x=>?_))|(refine Lle.ck (fun _=>?_))|(refine Lle.ite ?_ ?_)|split|assumption
noncomputable def hazard_isBelow_c (fu:Nat) (number:Int) (end0:Int):Option Bool :=
  if (decide (0≤number))=true then
  some (decide (number<end0))
  else
  some false
theorem le_hazard_isBelow (fu:Nat) (number:Int) (end0:Int):Lle (hazard_isBelow_c fu number end0) (hazard_isBelow number end0):=by
  unfold hazard_isBelow_c hazard_isBelow
  repeat' first|with_reducible exact Lle.refl _|with_reducible exact Lle.none _|(refine Lle.while fu (fun s=>?_) _)|(refine Lle.bind ?_ (fun x=>?_))|(refine Lle.ck (fun _=>?_))|(refine Lle.ite ?_ ?_)|split|assumption
noncomputable def hazard_isThread_1_c (fu:Nat) (a1:Int) (y:Int×Int×(El T63)×(El T65)×(El T69)):Option Bool :=
  (hazard_isBelow_c fu a1 y.1).bind fun v0 =>
  some v0
theorem le_hazard_isThread_1 (fu:Nat) (a1:Int) (y:Int×Int×(El T63)×(El T65)×(El T69)):Lle (hazard_isThread_1_c fu a1 y) (hazard_isThread_1 a1 y):=by
  unfold hazard_isThread_1_c hazard_isThread_1
  repeat' first|with_reducible exact Lle.refl _|with_reducible exact Lle.none _|(with_reducible apply le_hazard_isBelow<;>intros)|(refine Lle.while fu (fun s=>?_) _)|(refine Lle.bind ?_ (fun x=>?_))|(refine Lle.ck (fun _=>?_))|(refine Lle.ite ?_ ?_)|split|assumption
noncomputable def hazard_Yard_fails_2_k1_c (fu:Nat):Option Int :=
  some 0
theorem le_hazard_Yard_fails_2_k1 (fu:Nat):Lle (hazard_Yard_fails_2_k1_c fu ) (hazard_Yard_fails_2_k1 ):=by
  unfold hazard_Yard_fails_2_k1_c hazard_Yard_fails_2_k1
  repeat' first|with_reducible exact Lle.refl _|with_reducible exact Lle.none _|(refine Lle.while fu (fun s=>?_) _)|(refine Lle.bind ?_ (fun x=>?_))|(refine Lle.ck (fun _=>?_))|(refine Lle.ite ?_ ?_)|split|assumption
noncomputable def hazard_Yard_fails_2_c (fu:Nat) (y:Int×Int×(El T63)×(El T65)×(El T69)) (c0:Int) (checks:Int):Option Int :=
  (hazard_Yard_isNone_c fu y).bind fun v0 =>
  if (decide (y.1=0))=true then
  some 60
  else
  (hazard_isThread_1_c fu c0 y).bind fun v0_2 =>
  if (!v0_2)=true then
  some checks
  else
  ck (InK .i64 1) <| hazard_Yard_fails_2_k1_c fu
theorem le_hazard_Yard_fails_2 (fu:Nat) (y:Int×Int×(El T63)×(El T65)×(El T69)) (c0:Int) (checks:Int):Lle (hazard_Yard_fails_2_c fu y c0 checks) (hazard_Yard_fails_2 y c0 checks):=by
  unfold hazard_Yard_fails_2_c hazard_Yard_fails_2
  repeat' first|with_reducible exact Lle.refl _|with_reducible exact Lle.none _|(with_reducible apply le_hazard_Yard_isNone<;>intros)|(with_reducible apply le_hazard_isThread_1<;>intros)|(with_reducible apply le_hazard_Yard_fails_2_k1<;>intros)|(refine Lle.while fu (fun s=>?_) _)|(refine Lle.bind ?_ (fun x=>?_))|(refine Lle.ck (fun _=>?_))|(refine Lle.ite ?_ ?_)|split|assumption
noncomputable def slices_Index_k1_c (fu:Nat):Option Int :=
  some (-1)
theorem le_slices_Index_k1 (fu:Nat):Lle (slices_Index_k1_c fu ) (slices_Index_k1 ):=by
  unfold slices_Index_k1_c slices_Index_k1
  repeat' first|with_reducible exact Lle.refl _|with_reducible exact Lle.none _|(refine Lle.while fu (fun s=>?_) _)|(refine Lle.bind ?_ (fun x=>?_))|(refine Lle.ck (fun _=>?_))|(refine Lle.ite ?_ ?_)|split|assumption
noncomputable def slices_Index_b1_c (fu:Nat) (v0:Int) (s:Int×Int×(El T63)×(El T65)×(El T69)) (st1:Int):Option (Step Int (Sum Int Unit)) :=
  if (decide (st1<8))=true then
  ck (0≤st1) <| ck (st1<8) <| if (decide (v0=(intAt T63 s.2.2.1 st1.toNat)))=true then
  some (.done (Sum.inl st1))
  else
  ck (InK .i64 (st1+1)) <| some (.next (st1+1))
  else
  some (.done (Sum.inr ()))
theorem le_slices_Index_b1 (fu:Nat) (v0:Int) (s:Int×Int×(El T63)×(El T65)×(El T69)) (st1:Int):Lle (slices_Index_b1_c fu v0 s st1) (slices_Index_b1 v0 s st1):=by
  unfold slices_Index_b1_c slices_Index_b1
  repeat' first|with_reducible exact Lle.refl _|with_reducible exact Lle.none _|(refine Lle.while fu (fun s=>?_) _)|(refine Lle.bind ?_ (fun x=>?_))|(refine Lle.ck (fun _=>?_))|(refine Lle.ite ?_ ?_)|split|assumption
noncomputable def slices_Index_c (fu:Nat) (v0:Int) (s:Int×Int×(El T63)×(El T65)×(El T69)):Option Int :=
  (whileN (slices_Index_b1_c fu v0 s) fu 0).bind fun x=>match x with
  | .inl r1=>(some r1)
  | .inr _=>(slices_Index_k1_c fu)
theorem le_slices_Index (fu:Nat) (v0:Int) (s:Int×Int×(El T63)×(El T65)×(El T69)):Lle (slices_Index_c fu v0 s) (slices_Index v0 s):=by
  unfold slices_Index_c slices_Index
  repeat' first|with_reducible exact Lle.refl _|with_reducible exact Lle.none _|(with_reducible apply le_slices_Index_b1<;>intros)|(with_reducible apply le_slices_Index_k1<;>intros)|(refine Lle.while fu (fun s=>?_) _)|(refine Lle.bind ?_ (fun x=>?_))|(refine Lle.ck (fun _=>?_))|(refine Lle.ite ?_ ?_)|split|assumption
noncomputable def hazard_Yard_Take_c (fu:Nat) (thread:Int) (y:Int×Int×(El T63)×(El T65)×(El T69)):Option (Int×Int×(El T63)) :=
  (hazard_isThread_c fu thread).bind fun v0 =>
  (hazard_Yard_fails_2_c fu y thread 2).bind fun v0_2 =>
  if (!(decide (v0_2=0)))=true then
  some (0,v0_2,y.2.2.1)
  else
  (slices_Index_c fu 0 y).bind fun v0_3 =>
  if (decide (v0_3<0))=true then
  some (0,5,y.2.2.1)
  else
  ck (0≤v0_3) <| ck (v0_3<8) <| some (v0_3,0,(setInt T63 y.2.2.1 (v0_3.toNat*1) 1))
theorem le_hazard_Yard_Take (fu:Nat) (thread:Int) (y:Int×Int×(El T63)×(El T65)×(El T69)):Lle (hazard_Yard_Take_c fu thread y) (hazard_Yard_Take thread y):=by
  unfold hazard_Yard_Take_c hazard_Yard_Take
  repeat' first|with_reducible exact Lle.refl _|with_reducible exact Lle.none _|(with_reducible apply le_hazard_isThread<;>intros)|(with_reducible apply le_hazard_Yard_fails_2<;>intros)|(with_reducible apply le_slices_Index<;>intros)|(refine Lle.while fu (fun s=>?_) _)|(refine Lle.bind ?_ (fun x=>?_))|(refine Lle.ck (fun _=>?_))|(refine Lle.ite ?_ ?_)|split|assumption
noncomputable def hazard_isSlot_c (fu:Nat) (slot:Int):Option Unit :=
  some ()
theorem le_hazard_isSlot (fu:Nat) (slot:Int):Lle (hazard_isSlot_c fu slot) (hazard_isSlot slot):=by
  unfold hazard_isSlot_c hazard_isSlot
  repeat' first|with_reducible exact Lle.refl _|with_reducible exact Lle.none _|(refine Lle.while fu (fun s=>?_) _)|(refine Lle.bind ?_ (fun x=>?_))|(refine Lle.ck (fun _=>?_))|(refine Lle.ite ?_ ?_)|split|assumption
noncomputable def hazard_isNode_c (fu:Nat) (node:Int):Option Unit :=
  some ()
theorem le_hazard_isNode (fu:Nat) (node:Int):Lle (hazard_isNode_c fu node) (hazard_isNode node):=by
  unfold hazard_isNode_c hazard_isNode
  repeat' first|with_reducible exact Lle.refl _|with_reducible exact Lle.none _|(refine Lle.while fu (fun s=>?_) _)|(refine Lle.bind ?_ (fun x=>?_))|(refine Lle.ck (fun _=>?_))|(refine Lle.ite ?_ ?_)|split|assumption
noncomputable def hazard_isIn_c (fu:Nat) (node:Int):Option Unit :=
  some ()
theorem le_hazard_isIn (fu:Nat) (node:Int):Lle (hazard_isIn_c fu node) (hazard_isIn node):=by
  unfold hazard_isIn_c hazard_isIn
  repeat' first|with_reducible exact Lle.refl _|with_reducible exact Lle.none _|(refine Lle.while fu (fun s=>?_) _)|(refine Lle.bind ?_ (fun x=>?_))|(refine Lle.ck (fun _=>?_))|(refine Lle.ite ?_ ?_)|split|assumption
noncomputable def hazard_isSlot_1_c (fu:Nat) (a1:Int) (a0:Int×Int×(El T63)×(El T65)×(El T69)):Option Bool :=
  (hazard_isBelow_c fu a1 2).bind fun v0 =>
  some v0
theorem le_hazard_isSlot_1 (fu:Nat) (a1:Int) (a0:Int×Int×(El T63)×(El T65)×(El T69)):Lle (hazard_isSlot_1_c fu a1 a0) (hazard_isSlot_1 a1 a0):=by
  unfold hazard_isSlot_1_c hazard_isSlot_1
  repeat' first|with_reducible exact Lle.refl _|with_reducible exact Lle.none _|(with_reducible apply le_hazard_isBelow<;>intros)|(refine Lle.while fu (fun s=>?_) _)|(refine Lle.bind ?_ (fun x=>?_))|(refine Lle.ck (fun _=>?_))|(refine Lle.ite ?_ ?_)|split|assumption
noncomputable def hazard_isNode_1_c (fu:Nat) (a1:Int) (a0:Int×Int×(El T63)×(El T65)×(El T69)):Option Bool :=
  (hazard_isBelow_c fu a1 8).bind fun v0 =>
  some v0
theorem le_hazard_isNode_1 (fu:Nat) (a1:Int) (a0:Int×Int×(El T63)×(El T65)×(El T69)):Lle (hazard_isNode_1_c fu a1 a0) (hazard_isNode_1 a1 a0):=by
  unfold hazard_isNode_1_c hazard_isNode_1
  repeat' first|with_reducible exact Lle.refl _|with_reducible exact Lle.none _|(with_reducible apply le_hazard_isBelow<;>intros)|(refine Lle.while fu (fun s=>?_) _)|(refine Lle.bind ?_ (fun x=>?_))|(refine Lle.ck (fun _=>?_))|(refine Lle.ite ?_ ?_)|split|assumption
noncomputable def hazard_isIn_1_c (fu:Nat) (a1:Int) (y:Int×Int×(El T63)×(El T65)×(El T69)):Option Unit :=
  ck (0≤a1) <| ck (a1<8) <| some ()
theorem le_hazard_isIn_1 (fu:Nat) (a1:Int) (y:Int×Int×(El T63)×(El T65)×(El T69)):Lle (hazard_isIn_1_c fu a1 y) (hazard_isIn_1 a1 y):=by
  unfold hazard_isIn_1_c hazard_isIn_1
  repeat' first|with_reducible exact Lle.refl _|with_reducible exact Lle.none _|(refine Lle.while fu (fun s=>?_) _)|(refine Lle.bind ?_ (fun x=>?_))|(refine Lle.ck (fun _=>?_))|(refine Lle.ite ?_ ?_)|split|assumption
noncomputable def hazard_Yard_fails_3_k1_c (fu:Nat):Option Int :=
  some 0
theorem le_hazard_Yard_fails_3_k1 (fu:Nat):Lle (hazard_Yard_fails_3_k1_c fu ) (hazard_Yard_fails_3_k1 ):=by
  unfold hazard_Yard_fails_3_k1_c hazard_Yard_fails_3_k1
  repeat' first|with_reducible exact Lle.refl _|with_reducible exact Lle.none _|(refine Lle.while fu (fun s=>?_) _)|(refine Lle.bind ?_ (fun x=>?_))|(refine Lle.ck (fun _=>?_))|(refine Lle.ite ?_ ?_)|split|assumption
noncomputable def hazard_Yard_fails_3_c (fu:Nat) (y:Int×Int×(El T63)×(El T65)×(El T69)) (c0:Int) (checks:Int) (c0_2:Int) (checks_2:Int) (c0_3:Int) (checks_3:Int) (c0_4:Int) (checks_4:Int):Option Int :=
  (hazard_Yard_isNone_c fu y).bind fun v0 =>
  if (decide (y.1=0))=true then
  some 60
  else
  (hazard_isThread_1_c fu c0 y).bind fun v0_2 =>
  if (!v0_2)=true then
  some checks
  else
  ck (InK .i64 1) <| (hazard_isSlot_1_c fu c0_2 y).bind fun v0_3 =>
  if (!v0_3)=true then
  some checks_2
  else
  ck (InK .i64 2) <| (hazard_isNode_1_c fu c0_3 y).bind fun v0_4 =>
  if (!v0_4)=true then
  some checks_3
  else
  ck (InK .i64 3) <| (hazard_isIn_1_c fu c0_4 y).bind fun v0_5 =>
  if (!(decide ((intAt T63 y.2.2.1 (c0_4.toNat*1))=1)))=true then
  some checks_4
  else
  ck (InK .i64 4) <| hazard_Yard_fails_3_k1_c fu
theorem le_hazard_Yard_fails_3 (fu:Nat) (y:Int×Int×(El T63)×(El T65)×(El T69)) (c0:Int) (checks:Int) (c0_2:Int) (checks_2:Int) (c0_3:Int) (checks_3:Int) (c0_4:Int) (checks_4:Int):Lle (hazard_Yard_fails_3_c fu y c0 checks c0_2 checks_2 c0_3 checks_3 c0_4 checks_4) (hazard_Yard_fails_3 y c0 checks c0_2 checks_2 c0_3 checks_3 c0_4 checks_4):=by
  unfold hazard_Yard_fails_3_c hazard_Yard_fails_3
  repeat' first|with_reducible exact Lle.refl _|with_reducible exact Lle.none _|(with_reducible apply le_hazard_Yard_isNone<;>intros)|(with_reducible apply le_hazard_isThread_1<;>intros)|(with_reducible apply le_hazard_isSlot_1<;>intros)|(with_reducible apply le_hazard_isNode_1<;>intros)|(with_reducible apply le_hazard_isIn_1<;>intros)|(with_reducible apply le_hazard_Yard_fails_3_k1<;>intros)|(refine Lle.while fu (fun s=>?_) _)|(refine Lle.bind ?_ (fun x=>?_))|(refine Lle.ck (fun _=>?_))|(refine Lle.ite ?_ ?_)|split|assumption
noncomputable def hazard_Yard_Point_c (fu:Nat) (thread:Int) (slot:Int) (node:Int) (y:Int×Int×(El T63)×(El T65)×(El T69)):Option (Int×(El T65)) :=
  (hazard_isThread_c fu thread).bind fun v0 =>
  (hazard_isSlot_c fu slot).bind fun v0_2 =>
  (hazard_isNode_c fu node).bind fun v0_3 =>
  (hazard_isIn_c fu node).bind fun v0_4 =>
  (hazard_Yard_fails_3_c fu y thread 2 slot 2 node 2 node 5).bind fun v0_5 =>
  if (!(decide (v0_5=0)))=true then
  some (v0_5,y.2.2.2.1)
  else
  ck (0≤thread) <| ck (thread<4) <| ck (0≤slot) <| ck (slot<2) <| some (0,(setInt T65 y.2.2.2.1 ((thread.toNat*2)+slot.toNat*1) node))
theorem le_hazard_Yard_Point (fu:Nat) (thread:Int) (slot:Int) (node:Int) (y:Int×Int×(El T63)×(El T65)×(El T69)):Lle (hazard_Yard_Point_c fu thread slot node y) (hazard_Yard_Point thread slot node y):=by
  unfold hazard_Yard_Point_c hazard_Yard_Point
  repeat' first|with_reducible exact Lle.refl _|with_reducible exact Lle.none _|(with_reducible apply le_hazard_isThread<;>intros)|(with_reducible apply le_hazard_isSlot<;>intros)|(with_reducible apply le_hazard_isNode<;>intros)|(with_reducible apply le_hazard_isIn<;>intros)|(with_reducible apply le_hazard_Yard_fails_3<;>intros)|(refine Lle.while fu (fun s=>?_) _)|(refine Lle.bind ?_ (fun x=>?_))|(refine Lle.ck (fun _=>?_))|(refine Lle.ite ?_ ?_)|split|assumption
noncomputable def hazard_Yard_fails_4_k1_c (fu:Nat):Option Int :=
  some 0
theorem le_hazard_Yard_fails_4_k1 (fu:Nat):Lle (hazard_Yard_fails_4_k1_c fu ) (hazard_Yard_fails_4_k1 ):=by
  unfold hazard_Yard_fails_4_k1_c hazard_Yard_fails_4_k1
  repeat' first|with_reducible exact Lle.refl _|with_reducible exact Lle.none _|(refine Lle.while fu (fun s=>?_) _)|(refine Lle.bind ?_ (fun x=>?_))|(refine Lle.ck (fun _=>?_))|(refine Lle.ite ?_ ?_)|split|assumption
noncomputable def hazard_Yard_fails_4_c (fu:Nat) (y:Int×Int×(El T63)×(El T65)×(El T69)) (c0:Int) (checks:Int) (c0_2:Int) (checks_2:Int):Option Int :=
  (hazard_Yard_isNone_c fu y).bind fun v0 =>
  if (decide (y.1=0))=true then
  some 60
  else
  (hazard_isThread_1_c fu c0 y).bind fun v0_2 =>
  if (!v0_2)=true then
  some checks
  else
  ck (InK .i64 1) <| (hazard_isSlot_1_c fu c0_2 y).bind fun v0_3 =>
  if (!v0_3)=true then
  some checks_2
  else
  ck (InK .i64 2) <| hazard_Yard_fails_4_k1_c fu
theorem le_hazard_Yard_fails_4 (fu:Nat) (y:Int×Int×(El T63)×(El T65)×(El T69)) (c0:Int) (checks:Int) (c0_2:Int) (checks_2:Int):Lle (hazard_Yard_fails_4_c fu y c0 checks c0_2 checks_2) (hazard_Yard_fails_4 y c0 checks c0_2 checks_2):=by
  unfold hazard_Yard_fails_4_c hazard_Yard_fails_4
  repeat' first|with_reducible exact Lle.refl _|with_reducible exact Lle.none _|(with_reducible apply le_hazard_Yard_isNone<;>intros)|(with_reducible apply le_hazard_isThread_1<;>intros)|(with_reducible apply le_hazard_isSlot_1<;>intros)|(with_reducible apply le_hazard_Yard_fails_4_k1<;>intros)|(refine Lle.while fu (fun s=>?_) _)|(refine Lle.bind ?_ (fun x=>?_))|(refine Lle.ck (fun _=>?_))|(refine Lle.ite ?_ ?_)|split|assumption
noncomputable def hazard_Yard_Clear_c (fu:Nat) (thread:Int) (slot:Int) (y:Int×Int×(El T63)×(El T65)×(El T69)):Option (Int×(El T65)) :=
  (hazard_isThread_c fu thread).bind fun v0 =>
  (hazard_isSlot_c fu slot).bind fun v0_2 =>
  (hazard_Yard_fails_4_c fu y thread 2 slot 2).bind fun v0_3 =>
  if (!(decide (v0_3=0)))=true then
  some (v0_3,y.2.2.2.1)
  else
  ck (0≤thread) <| ck (thread<4) <| ck (0≤slot) <| ck (slot<2) <| some (0,(setInt T65 y.2.2.2.1 ((thread.toNat*2)+slot.toNat*1) (-1)))
theorem le_hazard_Yard_Clear (fu:Nat) (thread:Int) (slot:Int) (y:Int×Int×(El T63)×(El T65)×(El T69)):Lle (hazard_Yard_Clear_c fu thread slot y) (hazard_Yard_Clear thread slot y):=by
  unfold hazard_Yard_Clear_c hazard_Yard_Clear
  repeat' first|with_reducible exact Lle.refl _|with_reducible exact Lle.none _|(with_reducible apply le_hazard_isThread<;>intros)|(with_reducible apply le_hazard_isSlot<;>intros)|(with_reducible apply le_hazard_Yard_fails_4<;>intros)|(refine Lle.while fu (fun s=>?_) _)|(refine Lle.bind ?_ (fun x=>?_))|(refine Lle.ck (fun _=>?_))|(refine Lle.ite ?_ ?_)|split|assumption
noncomputable def hazard_Yard_fails_5_k1_c (fu:Nat):Option Int :=
  some 0
theorem le_hazard_Yard_fails_5_k1 (fu:Nat):Lle (hazard_Yard_fails_5_k1_c fu ) (hazard_Yard_fails_5_k1 ):=by
  unfold hazard_Yard_fails_5_k1_c hazard_Yard_fails_5_k1
  repeat' first|with_reducible exact Lle.refl _|with_reducible exact Lle.none _|(refine Lle.while fu (fun s=>?_) _)|(refine Lle.bind ?_ (fun x=>?_))|(refine Lle.ck (fun _=>?_))|(refine Lle.ite ?_ ?_)|split|assumption
noncomputable def hazard_Yard_fails_5_c (fu:Nat) (y:Int×Int×(El T63)×(El T65)×(El T69)) (c0:Int) (checks:Int) (c0_2:Int) (checks_2:Int) (c0_3:Int) (checks_3:Int):Option Int :=
  (hazard_Yard_isNone_c fu y).bind fun v0 =>
  if (decide (y.1=0))=true then
  some 60
  else
  (hazard_isThread_1_c fu c0 y).bind fun v0_2 =>
  if (!v0_2)=true then
  some checks
  else
  ck (InK .i64 1) <| (hazard_isNode_1_c fu c0_2 y).bind fun v0_3 =>
  if (!v0_3)=true then
  some checks_2
  else
  ck (InK .i64 2) <| (hazard_isIn_1_c fu c0_3 y).bind fun v0_4 =>
  if (!(decide ((intAt T63 y.2.2.1 (c0_3.toNat*1))=1)))=true then
  some checks_3
  else
  ck (InK .i64 3) <| hazard_Yard_fails_5_k1_c fu
theorem le_hazard_Yard_fails_5 (fu:Nat) (y:Int×Int×(El T63)×(El T65)×(El T69)) (c0:Int) (checks:Int) (c0_2:Int) (checks_2:Int) (c0_3:Int) (checks_3:Int):Lle (hazard_Yard_fails_5_c fu y c0 checks c0_2 checks_2 c0_3 checks_3) (hazard_Yard_fails_5 y c0 checks c0_2 checks_2 c0_3 checks_3):=by
  unfold hazard_Yard_fails_5_c hazard_Yard_fails_5
  repeat' first|with_reducible exact Lle.refl _|with_reducible exact Lle.none _|(with_reducible apply le_hazard_Yard_isNone<;>intros)|(with_reducible apply le_hazard_isThread_1<;>intros)|(with_reducible apply le_hazard_isNode_1<;>intros)|(with_reducible apply le_hazard_isIn_1<;>intros)|(with_reducible apply le_hazard_Yard_fails_5_k1<;>intros)|(refine Lle.while fu (fun s=>?_) _)|(refine Lle.bind ?_ (fun x=>?_))|(refine Lle.ck (fun _=>?_))|(refine Lle.ite ?_ ?_)|split|assumption
noncomputable def hazard_list_add_c (fu:Nat) (l:Nat) (node:Int) (l_2:Int×Int×(El T63)×(El T65)×(El T69)):Option Unit :=
  ck (l<36) <| ck (0≤(intAt T69 l_2.2.2.2.2 l)) <| ck ((intAt T69 l_2.2.2.2.2 l)<8) <| ck (((l+1)+(intAt T69 l_2.2.2.2.2 l).toNat*1)<36) <| ck (l<36) <| ck (InK .i64 ((intAt T69 (setInt T69 l_2.2.2.2.2 ((l+1)+(intAt T69 l_2.2.2.2.2 l).toNat*1) node) l)+1)) <| ck (l<36) <| some ()
theorem le_hazard_list_add (fu:Nat) (l:Nat) (node:Int) (l_2:Int×Int×(El T63)×(El T65)×(El T69)):Lle (hazard_list_add_c fu l node l_2) (hazard_list_add l node l_2):=by
  unfold hazard_list_add_c hazard_list_add
  repeat' first|with_reducible exact Lle.refl _|with_reducible exact Lle.none _|(refine Lle.while fu (fun s=>?_) _)|(refine Lle.bind ?_ (fun x=>?_))|(refine Lle.ck (fun _=>?_))|(refine Lle.ite ?_ ?_)|split|assumption
noncomputable def slices_Clone_c (fu:Nat) (s:List Int):Option ((List Int)) :=
  ck (s.length*8≤140737488355328) <| some s
theorem le_slices_Clone (fu:Nat) (s:List Int):Lle (slices_Clone_c fu s) (slices_Clone s):=by
  unfold slices_Clone_c slices_Clone
  repeat' first|with_reducible exact Lle.refl _|with_reducible exact Lle.none _|(refine Lle.while fu (fun s=>?_) _)|(refine Lle.bind ?_ (fun x=>?_))|(refine Lle.ck (fun _=>?_))|(refine Lle.ite ?_ ?_)|split|assumption
noncomputable def hazard_list_all_c (fu:Nat) (l:Int×(El T66)):Option ((List Int)) :=
  ck (0≤l.1) <| ck (l.1≤8) <| (slices_Clone_c fu ((rowX T66 l.2).take l.1.toNat)).bind fun v0 =>
  some v0
theorem le_hazard_list_all (fu:Nat) (l:Int×(El T66)):Lle (hazard_list_all_c fu l) (hazard_list_all l):=by
  unfold hazard_list_all_c hazard_list_all
  repeat' first|with_reducible exact Lle.refl _|with_reducible exact Lle.none _|(with_reducible apply le_slices_Clone<;>intros)|(refine Lle.while fu (fun s=>?_) _)|(refine Lle.bind ?_ (fun x=>?_))|(refine Lle.ck (fun _=>?_))|(refine Lle.ite ?_ ?_)|split|assumption
noncomputable def slices_Index_2_k1_c (fu:Nat):Option Int :=
  some (-1)
theorem le_slices_Index_2_k1 (fu:Nat):Lle (slices_Index_2_k1_c fu ) (slices_Index_2_k1 ):=by
  unfold slices_Index_2_k1_c slices_Index_2_k1
  repeat' first|with_reducible exact Lle.refl _|with_reducible exact Lle.none _|(refine Lle.while fu (fun s=>?_) _)|(refine Lle.bind ?_ (fun x=>?_))|(refine Lle.ck (fun _=>?_))|(refine Lle.ite ?_ ?_)|split|assumption
noncomputable def slices_Index_2_b1_c (fu:Nat) (v0:Int) (s:Int×Int) (st1:Int):Option (Step Int (Sum Int Unit)) :=
  if (decide (st1<2))=true then
  ck (0≤st1) <| ck (st1<2) <| if (decide (st1=0))=true then
  if (decide (v0=s.1))=true then
  some (.done (Sum.inl 0))
  else
  ck (InK .i64 (0+1)) <| some (.next (0+1))
  else
  if (decide (v0=s.2))=true then
  some (.done (Sum.inl 1))
  else
  ck (InK .i64 (1+1)) <| some (.next (1+1))
  else
  some (.done (Sum.inr ()))
theorem le_slices_Index_2_b1 (fu:Nat) (v0:Int) (s:Int×Int) (st1:Int):Lle (slices_Index_2_b1_c fu v0 s st1) (slices_Index_2_b1 v0 s st1):=by
  unfold slices_Index_2_b1_c slices_Index_2_b1
  repeat' first|with_reducible exact Lle.refl _|with_reducible exact Lle.none _|(refine Lle.while fu (fun s=>?_) _)|(refine Lle.bind ?_ (fun x=>?_))|(refine Lle.ck (fun _=>?_))|(refine Lle.ite ?_ ?_)|split|assumption
noncomputable def slices_Index_2_c (fu:Nat) (v0:Int) (s:Int×Int):Option Int :=
  (whileN (slices_Index_2_b1_c fu v0 s) fu 0).bind fun x=>match x with
  | .inl r1=>(some r1)
  | .inr _=>(slices_Index_2_k1_c fu)
theorem le_slices_Index_2 (fu:Nat) (v0:Int) (s:Int×Int):Lle (slices_Index_2_c fu v0 s) (slices_Index_2 v0 s):=by
  unfold slices_Index_2_c slices_Index_2
  repeat' first|with_reducible exact Lle.refl _|with_reducible exact Lle.none _|(with_reducible apply le_slices_Index_2_b1<;>intros)|(with_reducible apply le_slices_Index_2_k1<;>intros)|(refine Lle.while fu (fun s=>?_) _)|(refine Lle.bind ?_ (fun x=>?_))|(refine Lle.ck (fun _=>?_))|(refine Lle.ite ?_ ?_)|split|assumption
noncomputable def slices_Contains_c (fu:Nat) (v0:Int) (s:Int×Int):Option Bool :=
  (slices_Index_2_c fu v0 s).bind fun v0_2 =>
  some (decide (0≤v0_2))
theorem le_slices_Contains (fu:Nat) (v0:Int) (s:Int×Int):Lle (slices_Contains_c fu v0 s) (slices_Contains v0 s):=by
  unfold slices_Contains_c slices_Contains
  repeat' first|with_reducible exact Lle.refl _|with_reducible exact Lle.none _|(with_reducible apply le_slices_Index_2<;>intros)|(refine Lle.while fu (fun s=>?_) _)|(refine Lle.bind ?_ (fun x=>?_))|(refine Lle.ck (fun _=>?_))|(refine Lle.ite ?_ ?_)|split|assumption
noncomputable def hazard_Yard_isHeld_k1_c (fu:Nat):Option Bool :=
  some false
theorem le_hazard_Yard_isHeld_k1 (fu:Nat):Lle (hazard_Yard_isHeld_k1_c fu ) (hazard_Yard_isHeld_k1 ):=by
  unfold hazard_Yard_isHeld_k1_c hazard_Yard_isHeld_k1
  repeat' first|with_reducible exact Lle.refl _|with_reducible exact Lle.none _|(refine Lle.while fu (fun s=>?_) _)|(refine Lle.bind ?_ (fun x=>?_))|(refine Lle.ck (fun _=>?_))|(refine Lle.ite ?_ ?_)|split|assumption
noncomputable def hazard_Yard_isHeld_b1_c (fu:Nat) (node:Int) (y:Int×Int×(El T63)×(El T65)×(El T69)) (st1:Int):Option (Step Int (Sum Unit Unit)) :=
  if (decide (st1<4))=true then
  ck (0≤st1) <| ck (st1<4) <| (slices_Contains_c fu node ((intAt T65 y.2.2.2.1 (st1.toNat*2)),(intAt T65 y.2.2.2.1 ((st1.toNat*2)+1)))).bind fun v0 =>
  if v0=true then
  some (.done (Sum.inl ()))
  else
  ck (InK .i64 (st1+1)) <| some (.next (st1+1))
  else
  some (.done (Sum.inr ()))
theorem le_hazard_Yard_isHeld_b1 (fu:Nat) (node:Int) (y:Int×Int×(El T63)×(El T65)×(El T69)) (st1:Int):Lle (hazard_Yard_isHeld_b1_c fu node y st1) (hazard_Yard_isHeld_b1 node y st1):=by
  unfold hazard_Yard_isHeld_b1_c hazard_Yard_isHeld_b1
  repeat' first|with_reducible exact Lle.refl _|with_reducible exact Lle.none _|(with_reducible apply le_slices_Contains<;>intros)|(refine Lle.while fu (fun s=>?_) _)|(refine Lle.bind ?_ (fun x=>?_))|(refine Lle.ck (fun _=>?_))|(refine Lle.ite ?_ ?_)|split|assumption
noncomputable def hazard_Yard_isHeld_c (fu:Nat) (node:Int) (y:Int×Int×(El T63)×(El T65)×(El T69)):Option Bool :=
  (whileN (hazard_Yard_isHeld_b1_c fu node y) fu 0).bind fun x=>match x with
  | .inl _=>(some true)
  | .inr _=>(hazard_Yard_isHeld_k1_c fu)
theorem le_hazard_Yard_isHeld (fu:Nat) (node:Int) (y:Int×Int×(El T63)×(El T65)×(El T69)):Lle (hazard_Yard_isHeld_c fu node y) (hazard_Yard_isHeld node y):=by
  unfold hazard_Yard_isHeld_c hazard_Yard_isHeld
  repeat' first|with_reducible exact Lle.refl _|with_reducible exact Lle.none _|(with_reducible apply le_hazard_Yard_isHeld_b1<;>intros)|(with_reducible apply le_hazard_Yard_isHeld_k1<;>intros)|(refine Lle.while fu (fun s=>?_) _)|(refine Lle.bind ?_ (fun x=>?_))|(refine Lle.ck (fun _=>?_))|(refine Lle.ite ?_ ?_)|split|assumption
noncomputable def hazard_list_add_2_c (fu:Nat) (node:Int) (l:Int×(El T66)):Option Unit :=
  ck (0≤l.1) <| ck (l.1<8) <| ck (InK .i64 (l.1+1)) <| some ()
theorem le_hazard_list_add_2 (fu:Nat) (node:Int) (l:Int×(El T66)):Lle (hazard_list_add_2_c fu node l) (hazard_list_add_2 node l):=by
  unfold hazard_list_add_2_c hazard_list_add_2
  repeat' first|with_reducible exact Lle.refl _|with_reducible exact Lle.none _|(refine Lle.while fu (fun s=>?_) _)|(refine Lle.bind ?_ (fun x=>?_))|(refine Lle.ck (fun _=>?_))|(refine Lle.ite ?_ ?_)|split|assumption
noncomputable def hazard_Yard_sweep_k1_c (fu:Nat) (thread:Int) (y:Int×Int×(El T63)×(El T65)×(El T69)) (v0:(List Int)) (b1:(El T63)×Int×(El T66)):Option (Int×(El T63)×(El T69)) :=
  ck (0≤thread) <| ck (thread<4) <| ck (InK .i64 ((v0.length:Int) - b1.2.1)) <| some (((v0.length:Int) - b1.2.1),b1.1,(putX T69 (.pair (.int .i64) T66) y.2.2.2.2 (thread.toNat*9) b1.2))
theorem le_hazard_Yard_sweep_k1 (fu:Nat) (thread:Int) (y:Int×Int×(El T63)×(El T65)×(El T69)) (v0:(List Int)) (b1:(El T63)×Int×(El T66)):Lle (hazard_Yard_sweep_k1_c fu thread y v0 b1) (hazard_Yard_sweep_k1 thread y v0 b1):=by
  unfold hazard_Yard_sweep_k1_c hazard_Yard_sweep_k1
  repeat' first|with_reducible exact Lle.refl _|with_reducible exact Lle.none _|(refine Lle.while fu (fun s=>?_) _)|(refine Lle.bind ?_ (fun x=>?_))|(refine Lle.ck (fun _=>?_))|(refine Lle.ite ?_ ?_)|split|assumption
noncomputable def hazard_Yard_sweep_b1_c (fu:Nat) (y:Int×Int×(El T63)×(El T65)×(El T69)) (v0:(List Int)) (st1:(El T63)×Int×(El T66)×Int):Option (Step ((El T63)×Int×(El T66)×Int) ((El T63)×Int×(El T66))) :=
  if (decide (st1.2.2.2<(v0.length:Int)))=true then
  ck (0≤st1.2.2.2) <| ck (st1.2.2.2<(v0.length:Int)) <| (hazard_Yard_isHeld_c fu (v0.getD st1.2.2.2.toNat 0) (y.1,y.2.1,st1.1,y.2.2.2)).bind fun v0_2 =>
  if v0_2=true then
  (hazard_list_add_2_c fu (v0.getD st1.2.2.2.toNat 0) (st1.2.1,st1.2.2.1)).bind fun v0_3 =>
  ck (InK .i64 (st1.2.2.2+1)) <| some (.next (st1.1,(st1.2.1+1),(setInt T66 st1.2.2.1 (st1.2.1.toNat*1) (v0.getD st1.2.2.2.toNat 0)),(st1.2.2.2+1)))
  else
  ck (0≤(v0.getD st1.2.2.2.toNat 0)) <| ck ((v0.getD st1.2.2.2.toNat 0)<8) <| ck (InK .i64 (st1.2.2.2+1)) <| some (.next ((setInt T63 st1.1 ((v0.getD st1.2.2.2.toNat 0).toNat*1) 0),st1.2.1,st1.2.2.1,(st1.2.2.2+1)))
  else
  some (.done (st1.1,st1.2.1,st1.2.2.1))
theorem le_hazard_Yard_sweep_b1 (fu:Nat) (y:Int×Int×(El T63)×(El T65)×(El T69)) (v0:(List Int)) (st1:(El T63)×Int×(El T66)×Int):Lle (hazard_Yard_sweep_b1_c fu y v0 st1) (hazard_Yard_sweep_b1 y v0 st1):=by
  unfold hazard_Yard_sweep_b1_c hazard_Yard_sweep_b1
  repeat' first|with_reducible exact Lle.refl _|with_reducible exact Lle.none _|(with_reducible apply le_hazard_Yard_isHeld<;>intros)|(with_reducible apply le_hazard_list_add_2<;>intros)|(refine Lle.while fu (fun s=>?_) _)|(refine Lle.bind ?_ (fun x=>?_))|(refine Lle.ck (fun _=>?_))|(refine Lle.ite ?_ ?_)|split|assumption
noncomputable def hazard_Yard_sweep_c (fu:Nat) (thread:Int) (y:Int×Int×(El T63)×(El T65)×(El T69)):Option (Int×(El T63)×(El T69)) :=
  ck (0≤thread) <| ck (thread<4) <| (hazard_list_all_c fu ((intAt T69 y.2.2.2.2 (thread.toNat*9)),(subX T69 y.2.2.2.2 T66 ((thread.toNat*9)+1)))).bind fun v0 =>
  (whileN (hazard_Yard_sweep_b1_c fu y v0) fu (y.2.2.1,0,(Ty.dflt T66),0)).bind fun r1 =>
  hazard_Yard_sweep_k1_c fu thread y v0 r1
theorem le_hazard_Yard_sweep (fu:Nat) (thread:Int) (y:Int×Int×(El T63)×(El T65)×(El T69)):Lle (hazard_Yard_sweep_c fu thread y) (hazard_Yard_sweep thread y):=by
  unfold hazard_Yard_sweep_c hazard_Yard_sweep
  repeat' first|with_reducible exact Lle.refl _|with_reducible exact Lle.none _|(with_reducible apply le_hazard_list_all<;>intros)|(with_reducible apply le_hazard_Yard_sweep_b1<;>intros)|(with_reducible apply le_hazard_Yard_sweep_k1<;>intros)|(refine Lle.while fu (fun s=>?_) _)|(refine Lle.bind ?_ (fun x=>?_))|(refine Lle.ck (fun _=>?_))|(refine Lle.ite ?_ ?_)|split|assumption
noncomputable def hazard_Yard_PutBy_c (fu:Nat) (thread:Int) (node:Int) (y:Int×Int×(El T63)×(El T65)×(El T69)):Option (Int×Int×(El T63)×(El T69)) :=
  (hazard_isThread_c fu thread).bind fun v0 =>
  (hazard_isNode_c fu node).bind fun v0_2 =>
  (hazard_isIn_c fu node).bind fun v0_3 =>
  (hazard_Yard_fails_5_c fu y thread 2 node 2 node 5).bind fun v0_4 =>
  if (!(decide (v0_4=0)))=true then
  some (0,v0_4,y.2.2.1,y.2.2.2.2)
  else
  ck (0≤node) <| ck (node<8) <| ck (0≤thread) <| ck (thread<4) <| (hazard_list_add_c fu (thread.toNat*9) node (y.1,y.2.1,(setInt T63 y.2.2.1 (node.toNat*1) 2),y.2.2.2)).bind fun v0_5 =>
  ck (0≤thread) <| ck (thread<4) <| if (decide ((intAt T69 (setInt T69 (setInt T69 y.2.2.2.2 (((thread.toNat*9)+1)+(intAt T69 y.2.2.2.2 (thread.toNat*9)).toNat*1) node) (thread.toNat*9) ((intAt T69 (setInt T69 y.2.2.2.2 (((thread.toNat*9)+1)+(intAt T69 y.2.2.2.2 (thread.toNat*9)).toNat*1) node) (thread.toNat*9))+1)) (thread.toNat*9))<y.2.1))=true then
  some (0,0,(setInt T63 y.2.2.1 (node.toNat*1) 2),(setInt T69 (setInt T69 y.2.2.2.2 (((thread.toNat*9)+1)+(intAt T69 y.2.2.2.2 (thread.toNat*9)).toNat*1) node) (thread.toNat*9) ((intAt T69 (setInt T69 y.2.2.2.2 (((thread.toNat*9)+1)+(intAt T69 y.2.2.2.2 (thread.toNat*9)).toNat*1) node) (thread.toNat*9))+1)))
  else
  (hazard_Yard_sweep_c fu thread (y.1,y.2.1,(setInt T63 y.2.2.1 (node.toNat*1) 2),y.2.2.2.1,(setInt T69 (setInt T69 y.2.2.2.2 (((thread.toNat*9)+1)+(intAt T69 y.2.2.2.2 (thread.toNat*9)).toNat*1) node) (thread.toNat*9) ((intAt T69 (setInt T69 y.2.2.2.2 (((thread.toNat*9)+1)+(intAt T69 y.2.2.2.2 (thread.toNat*9)).toNat*1) node) (thread.toNat*9))+1)))).bind fun v0_6 =>
  some (v0_6.1,0,v0_6.2)
theorem le_hazard_Yard_PutBy (fu:Nat) (thread:Int) (node:Int) (y:Int×Int×(El T63)×(El T65)×(El T69)):Lle (hazard_Yard_PutBy_c fu thread node y) (hazard_Yard_PutBy thread node y):=by
  unfold hazard_Yard_PutBy_c hazard_Yard_PutBy
  repeat' first|with_reducible exact Lle.refl _|with_reducible exact Lle.none _|(with_reducible apply le_hazard_isThread<;>intros)|(with_reducible apply le_hazard_isNode<;>intros)|(with_reducible apply le_hazard_isIn<;>intros)|(with_reducible apply le_hazard_Yard_fails_5<;>intros)|(with_reducible apply le_hazard_list_add<;>intros)|(with_reducible apply le_hazard_Yard_sweep<;>intros)|(refine Lle.while fu (fun s=>?_) _)|(refine Lle.bind ?_ (fun x=>?_))|(refine Lle.ck (fun _=>?_))|(refine Lle.ite ?_ ?_)|split|assumption
noncomputable def hazard_Yard_Sweep_c (fu:Nat) (thread:Int) (y:Int×Int×(El T63)×(El T65)×(El T69)):Option (Int×Int×(El T63)×(El T69)) :=
  (hazard_isThread_c fu thread).bind fun v0 =>
  (hazard_Yard_fails_2_c fu y thread 2).bind fun v0_2 =>
  if (!(decide (v0_2=0)))=true then
  some (0,v0_2,y.2.2.1,y.2.2.2.2)
  else
  (hazard_Yard_sweep_c fu thread y).bind fun v0_3 =>
  some (v0_3.1,0,v0_3.2)
theorem le_hazard_Yard_Sweep (fu:Nat) (thread:Int) (y:Int×Int×(El T63)×(El T65)×(El T69)):Lle (hazard_Yard_Sweep_c fu thread y) (hazard_Yard_Sweep thread y):=by
  unfold hazard_Yard_Sweep_c hazard_Yard_Sweep
  repeat' first|with_reducible exact Lle.refl _|with_reducible exact Lle.none _|(with_reducible apply le_hazard_isThread<;>intros)|(with_reducible apply le_hazard_Yard_fails_2<;>intros)|(with_reducible apply le_hazard_Yard_sweep<;>intros)|(refine Lle.while fu (fun s=>?_) _)|(refine Lle.bind ?_ (fun x=>?_))|(refine Lle.ck (fun _=>?_))|(refine Lle.ite ?_ ?_)|split|assumption
noncomputable def hazard_points_c (fu:Nat) (thread:Int) (slot:Int):Option Unit :=
  some ()
theorem le_hazard_points (fu:Nat) (thread:Int) (slot:Int):Lle (hazard_points_c fu thread slot) (hazard_points thread slot):=by
  unfold hazard_points_c hazard_points
  repeat' first|with_reducible exact Lle.refl _|with_reducible exact Lle.none _|(refine Lle.while fu (fun s=>?_) _)|(refine Lle.bind ?_ (fun x=>?_))|(refine Lle.ck (fun _=>?_))|(refine Lle.ite ?_ ?_)|split|assumption
noncomputable def hazard_points_1_c (fu:Nat) (a1:Int) (a2:Int) (y:Int×Int×(El T63)×(El T65)×(El T69)):Option Unit :=
  ck (0≤a1) <| ck (a1<4) <| ck (0≤a2) <| ck (a2<2) <| some ()
theorem le_hazard_points_1 (fu:Nat) (a1:Int) (a2:Int) (y:Int×Int×(El T63)×(El T65)×(El T69)):Lle (hazard_points_1_c fu a1 a2 y) (hazard_points_1 a1 a2 y):=by
  unfold hazard_points_1_c hazard_points_1
  repeat' first|with_reducible exact Lle.refl _|with_reducible exact Lle.none _|(refine Lle.while fu (fun s=>?_) _)|(refine Lle.bind ?_ (fun x=>?_))|(refine Lle.ck (fun _=>?_))|(refine Lle.ite ?_ ?_)|split|assumption
noncomputable def hazard_Yard_fails_6_k1_c (fu:Nat):Option Int :=
  some 0
theorem le_hazard_Yard_fails_6_k1 (fu:Nat):Lle (hazard_Yard_fails_6_k1_c fu ) (hazard_Yard_fails_6_k1 ):=by
  unfold hazard_Yard_fails_6_k1_c hazard_Yard_fails_6_k1
  repeat' first|with_reducible exact Lle.refl _|with_reducible exact Lle.none _|(refine Lle.while fu (fun s=>?_) _)|(refine Lle.bind ?_ (fun x=>?_))|(refine Lle.ck (fun _=>?_))|(refine Lle.ite ?_ ?_)|split|assumption
noncomputable def hazard_Yard_fails_6_c (fu:Nat) (y:Int×Int×(El T63)×(El T65)×(El T69)) (c0:Int) (checks:Int) (c0_2:Int) (checks_2:Int) (c0_3:Int) (c1:Int) (checks_3:Int):Option Int :=
  (hazard_Yard_isNone_c fu y).bind fun v0 =>
  if (decide (y.1=0))=true then
  some 60
  else
  (hazard_isThread_1_c fu c0 y).bind fun v0_2 =>
  if (!v0_2)=true then
  some checks
  else
  ck (InK .i64 1) <| (hazard_isSlot_1_c fu c0_2 y).bind fun v0_3 =>
  if (!v0_3)=true then
  some checks_2
  else
  ck (InK .i64 2) <| (hazard_points_1_c fu c0_3 c1 y).bind fun v0_4 =>
  if (!(!(decide ((intAt T65 y.2.2.2.1 ((c0_3.toNat*2)+c1.toNat*1))=(-1)))))=true then
  some checks_3
  else
  ck (InK .i64 3) <| hazard_Yard_fails_6_k1_c fu
theorem le_hazard_Yard_fails_6 (fu:Nat) (y:Int×Int×(El T63)×(El T65)×(El T69)) (c0:Int) (checks:Int) (c0_2:Int) (checks_2:Int) (c0_3:Int) (c1:Int) (checks_3:Int):Lle (hazard_Yard_fails_6_c fu y c0 checks c0_2 checks_2 c0_3 c1 checks_3) (hazard_Yard_fails_6 y c0 checks c0_2 checks_2 c0_3 c1 checks_3):=by
  unfold hazard_Yard_fails_6_c hazard_Yard_fails_6
  repeat' first|with_reducible exact Lle.refl _|with_reducible exact Lle.none _|(with_reducible apply le_hazard_Yard_isNone<;>intros)|(with_reducible apply le_hazard_isThread_1<;>intros)|(with_reducible apply le_hazard_isSlot_1<;>intros)|(with_reducible apply le_hazard_points_1<;>intros)|(with_reducible apply le_hazard_Yard_fails_6_k1<;>intros)|(refine Lle.while fu (fun s=>?_) _)|(refine Lle.bind ?_ (fun x=>?_))|(refine Lle.ck (fun _=>?_))|(refine Lle.ite ?_ ?_)|split|assumption
noncomputable def hazard_Yard_Use_c (fu:Nat) (thread:Int) (slot:Int) (y:Int×Int×(El T63)×(El T65)×(El T69)):Option (Int×Int) :=
  (hazard_isThread_c fu thread).bind fun v0 =>
  (hazard_isSlot_c fu slot).bind fun v0_2 =>
  (hazard_points_c fu thread slot).bind fun v0_3 =>
  (hazard_Yard_fails_6_c fu y thread 2 slot 2 thread slot 5).bind fun v0_4 =>
  if (!(decide (v0_4=0)))=true then
  some (0,v0_4)
  else
  ck (0≤thread) <| ck (thread<4) <| ck (0≤slot) <| ck (slot<2) <| some ((intAt T65 y.2.2.2.1 ((thread.toNat*2)+slot.toNat*1)),0)
theorem le_hazard_Yard_Use (fu:Nat) (thread:Int) (slot:Int) (y:Int×Int×(El T63)×(El T65)×(El T69)):Lle (hazard_Yard_Use_c fu thread slot y) (hazard_Yard_Use thread slot y):=by
  unfold hazard_Yard_Use_c hazard_Yard_Use
  repeat' first|with_reducible exact Lle.refl _|with_reducible exact Lle.none _|(with_reducible apply le_hazard_isThread<;>intros)|(with_reducible apply le_hazard_isSlot<;>intros)|(with_reducible apply le_hazard_points<;>intros)|(with_reducible apply le_hazard_Yard_fails_6<;>intros)|(refine Lle.while fu (fun s=>?_) _)|(refine Lle.bind ?_ (fun x=>?_))|(refine Lle.ck (fun _=>?_))|(refine Lle.ite ?_ ?_)|split|assumption
noncomputable def hazard_Yard_Do_c (fu:Nat) (d:Int×Int×Int×Int) (y:Int×Int×(El T63)×(El T65)×(El T69)):Option (Int×Int×(El T63)×(El T65)×(El T69)) :=
  (hazard_isDeed_c fu d).bind fun v0 =>
  (hazard_Yard_fails_c fu y d 2).bind fun v0_2 =>
  if (!(decide (v0_2=0)))=true then
  some (0,v0_2,y.2.2)
  else
  if (decide (d.1=1))=true then
  (hazard_Yard_Take_c fu d.2.1 y).bind fun v0_3 =>
  some (v0_3.1,v0_3.2.1,v0_3.2.2,y.2.2.2)
  else
  if (decide (d.1=2))=true then
  (hazard_Yard_Point_c fu d.2.1 d.2.2.1 d.2.2.2 y).bind fun v0_4 =>
  some (0,v0_4.1,y.2.2.1,v0_4.2,y.2.2.2.2)
  else
  if (decide (d.1=3))=true then
  (hazard_Yard_Clear_c fu d.2.1 d.2.2.1 y).bind fun v0_5 =>
  some (0,v0_5.1,y.2.2.1,v0_5.2,y.2.2.2.2)
  else
  if (decide (d.1=4))=true then
  (hazard_Yard_PutBy_c fu d.2.1 d.2.2.1 y).bind fun v0_6 =>
  some (v0_6.1,v0_6.2.1,v0_6.2.2.1,y.2.2.2.1,v0_6.2.2.2)
  else
  if (decide (d.1=5))=true then
  (hazard_Yard_Sweep_c fu d.2.1 y).bind fun v0_7 =>
  some (v0_7.1,v0_7.2.1,v0_7.2.2.1,y.2.2.2.1,v0_7.2.2.2)
  else
  (hazard_Yard_Use_c fu d.2.1 d.2.2.1 y).bind fun v0_8 =>
  some (v0_8.1,v0_8.2,y.2.2)
theorem le_hazard_Yard_Do (fu:Nat) (d:Int×Int×Int×Int) (y:Int×Int×(El T63)×(El T65)×(El T69)):Lle (hazard_Yard_Do_c fu d y) (hazard_Yard_Do d y):=by
  unfold hazard_Yard_Do_c hazard_Yard_Do
  repeat' first|with_reducible exact Lle.refl _|with_reducible exact Lle.none _|(with_reducible apply le_hazard_isDeed<;>intros)|(with_reducible apply le_hazard_Yard_fails<;>intros)|(with_reducible apply le_hazard_Yard_Take<;>intros)|(with_reducible apply le_hazard_Yard_Point<;>intros)|(with_reducible apply le_hazard_Yard_Clear<;>intros)|(with_reducible apply le_hazard_Yard_PutBy<;>intros)|(with_reducible apply le_hazard_Yard_Sweep<;>intros)|(with_reducible apply le_hazard_Yard_Use<;>intros)|(refine Lle.while fu (fun s=>?_) _)|(refine Lle.bind ?_ (fun x=>?_))|(refine Lle.ck (fun _=>?_))|(refine Lle.ite ?_ ?_)|split|assumption
noncomputable def hazard_Play_k1_c (fu:Nat) (b1:(List Int)):Option ((List Int)×Int) :=
  some (b1,0)
theorem le_hazard_Play_k1 (fu:Nat) (b1:(List Int)):Lle (hazard_Play_k1_c fu b1) (hazard_Play_k1 b1):=by
  unfold hazard_Play_k1_c hazard_Play_k1
  repeat' first|with_reducible exact Lle.refl _|with_reducible exact Lle.none _|(refine Lle.while fu (fun s=>?_) _)|(refine Lle.bind ?_ (fun x=>?_))|(refine Lle.ck (fun _=>?_))|(refine Lle.ite ?_ ?_)|split|assumption
noncomputable def hazard_Play_b1_c (fu:Nat) (threads:Int) (size:Int) (deeds:List (Int×Int×Int×Int)) (st1:(El T63)×(El T65)×(El T69)×(List Int)×Int):Option (Step ((El T63)×(El T65)×(El T69)×(List Int)×Int) ((List Int))) :=
  if (decide (st1.2.2.2.2<(deeds.length:Int)))=true then
  ck (0≤st1.2.2.2.2) <| ck (st1.2.2.2.2<(deeds.length:Int)) <| (hazard_Yard_Do_c fu (deeds.getD st1.2.2.2.2.toNat (0,0,0,0)) (threads,size,st1.1,st1.2.1,st1.2.2.1)).bind fun v0_4 =>
  if (!(decide (v0_4.2.1=0)))=true then
  ck (InK .i64 (-v0_4.2.1)) <| ck ((st1.2.2.2.1.length+1)*8≤140737488355328) <| ck (InK .i64 (st1.2.2.2.2+1)) <| some (.next (v0_4.2.2.1,v0_4.2.2.2.1,v0_4.2.2.2.2,(st1.2.2.2.1++[(-v0_4.2.1)]),(st1.2.2.2.2+1)))
  else
  ck ((st1.2.2.2.1.length+1)*8≤140737488355328) <| ck (InK .i64 (st1.2.2.2.2+1)) <| some (.next (v0_4.2.2.1,v0_4.2.2.2.1,v0_4.2.2.2.2,(st1.2.2.2.1++[v0_4.1]),(st1.2.2.2.2+1)))
  else
  some (.done st1.2.2.2.1)
theorem le_hazard_Play_b1 (fu:Nat) (threads:Int) (size:Int) (deeds:List (Int×Int×Int×Int)) (st1:(El T63)×(El T65)×(El T69)×(List Int)×Int):Lle (hazard_Play_b1_c fu threads size deeds st1) (hazard_Play_b1 threads size deeds st1):=by
  unfold hazard_Play_b1_c hazard_Play_b1
  repeat' first|with_reducible exact Lle.refl _|with_reducible exact Lle.none _|(with_reducible apply le_hazard_Yard_Do<;>intros)|(refine Lle.while fu (fun s=>?_) _)|(refine Lle.bind ?_ (fun x=>?_))|(refine Lle.ck (fun _=>?_))|(refine Lle.ite ?_ ?_)|split|assumption
noncomputable def hazard_Play_c (fu:Nat) (threads:Int) (size:Int) (deeds:List (Int×Int×Int×Int)):Option ((List Int)×Int) :=
  (hazard_New_c fu threads size).bind fun v0=>match v0 with
  | .inl v0_2=>(some ([],2))
  | .inr v0_3=>(if (decide (100<(deeds.length:Int)))=true then
  some ([],2)
  else
  (whileN (hazard_Play_b1_c fu threads size deeds) fu ((Ty.dflt T63),v0_3,(Ty.dflt T69),[],0)).bind fun r1 =>
  hazard_Play_k1_c fu r1)
theorem le_hazard_Play (fu:Nat) (threads:Int) (size:Int) (deeds:List (Int×Int×Int×Int)):Lle (hazard_Play_c fu threads size deeds) (hazard_Play threads size deeds):=by
  unfold hazard_Play_c hazard_Play
  repeat' first|with_reducible exact Lle.refl _|with_reducible exact Lle.none _|(with_reducible apply le_hazard_New<;>intros)|(with_reducible apply le_hazard_Play_b1<;>intros)|(with_reducible apply le_hazard_Play_k1<;>intros)|(refine Lle.while fu (fun s=>?_) _)|(refine Lle.bind ?_ (fun x=>?_))|(refine Lle.ck (fun _=>?_))|(refine Lle.ite ?_ ?_)|split|assumption
noncomputable def linealref06_SameInts_k1_c (fu:Nat):Option Bool :=
  some true
theorem le_linealref06_SameInts_k1 (fu:Nat):Lle (linealref06_SameInts_k1_c fu ) (linealref06_SameInts_k1 ):=by
  unfold linealref06_SameInts_k1_c linealref06_SameInts_k1
  repeat' first|with_reducible exact Lle.refl _|with_reducible exact Lle.none _|(refine Lle.while fu (fun s=>?_) _)|(refine Lle.bind ?_ (fun x=>?_))|(refine Lle.ck (fun _=>?_))|(refine Lle.ite ?_ ?_)|split|assumption
noncomputable def linealref06_SameInts_b1_c (fu:Nat) (a:List Int) (b:List Int) (st1:Int):Option (Step Int (Sum Unit Unit)) :=
  if (decide (st1<(a.length:Int)))=true then
  ck (0≤st1) <| ck (st1<(a.length:Int)) <| ck (0≤st1) <| ck (st1<(b.length:Int)) <| if (!(decide ((a.getD st1.toNat 0)=(b.getD st1.toNat 0))))=true then
  some (.done (Sum.inl ()))
  else
  ck (InK .i64 (st1+1)) <| some (.next (st1+1))
  else
  some (.done (Sum.inr ()))
theorem le_linealref06_SameInts_b1 (fu:Nat) (a:List Int) (b:List Int) (st1:Int):Lle (linealref06_SameInts_b1_c fu a b st1) (linealref06_SameInts_b1 a b st1):=by
  unfold linealref06_SameInts_b1_c linealref06_SameInts_b1
  repeat' first|with_reducible exact Lle.refl _|with_reducible exact Lle.none _|(refine Lle.while fu (fun s=>?_) _)|(refine Lle.bind ?_ (fun x=>?_))|(refine Lle.ck (fun _=>?_))|(refine Lle.ite ?_ ?_)|split|assumption
noncomputable def linealref06_SameInts_c (fu:Nat) (a:List Int) (b:List Int):Option Bool :=
  if (!(decide ((a.length:Int)=(b.length:Int))))=true then
  some false
  else
  (whileN (linealref06_SameInts_b1_c fu a b) fu 0).bind fun x=>match x with
  | .inl _=>(some false)
  | .inr _=>(linealref06_SameInts_k1_c fu)
theorem le_linealref06_SameInts (fu:Nat) (a:List Int) (b:List Int):Lle (linealref06_SameInts_c fu a b) (linealref06_SameInts a b):=by
  unfold linealref06_SameInts_c linealref06_SameInts
  repeat' first|with_reducible exact Lle.refl _|with_reducible exact Lle.none _|(with_reducible apply le_linealref06_SameInts_b1<;>intros)|(with_reducible apply le_linealref06_SameInts_k1<;>intros)|(refine Lle.while fu (fun s=>?_) _)|(refine Lle.bind ?_ (fun x=>?_))|(refine Lle.ck (fun _=>?_))|(refine Lle.ite ?_ ?_)|split|assumption
noncomputable def lineallaw06_Sane_c (fu:Nat):Option Bool :=
  (hazard_Play_c fu 2 2 [(1,0,0,0),(1,0,0,0),(4,0,0,0),(4,0,1,0)]).bind fun v0 =>
  if (decide (v0.2=0))=true then
  (linealref06_SameInts_c fu v0.1 [0,1,0,2]).bind fun v0_2 =>
  some v0_2
  else
  some false
theorem le_lineallaw06_Sane (fu:Nat):Lle (lineallaw06_Sane_c fu ) (lineallaw06_Sane ):=by
  unfold lineallaw06_Sane_c lineallaw06_Sane
  repeat' first|with_reducible exact Lle.refl _|with_reducible exact Lle.none _|(with_reducible apply le_hazard_Play<;>intros)|(with_reducible apply le_linealref06_SameInts<;>intros)|(refine Lle.while fu (fun s=>?_) _)|(refine Lle.bind ?_ (fun x=>?_))|(refine Lle.ck (fun _=>?_))|(refine Lle.ite ?_ ?_)|split|assumption
theorem lineallaw06_Sane_run:lineallaw06_Sane=some (true):=le_lineallaw06_Sane 40 _ (by decide +kernel)
end Go.Proofs.YtcckpmeepcoafaaDoor
