/-
 Layer 7,pure: everybody,longest,bound (ProgressNumbers); classes of claims (ProgressClasses); names (ProgressNames); fewer moves (ProgressLess).
-/
import Derived.Test.YteclokkdgmacpaaU11
import Derived.Test.YteclokkdgmacpaaU7
namespace Go.Proofs.Yteclokkdgmacpaa
open Go.RowKit
set_option linter.unusedVariables false
set_option linter.unusedSimpArgs false
set_option linter.unusedSectionVars false
set_option maxRecDepth 10000
noncomputable def holB (g:Gr) (c t:Int):Bool:=(rkR (rkA (clm c t) g)).2
theorem holR_ok {g:Gr} {c t:Int} (h:ask g c t=0):holR g c t=(holB g c t,0):=if_pos h
theorem holB_iff {g:Gr} {c t:Int} (h:ask g c t=0):holB g c t=true↔¬ Bad (clm c t) g:=by
 unfold holB
 rcases least_or h with hb | ⟨r,hr⟩
 ·rw [rkA_none (ask_cases h).1 hb]
  exact ⟨fun hh=>(by cases hh),fun hh=>absurd hb hh⟩
 ·rw [rkA_some hr]
  exact ⟨fun _=>prv_good (ask_cases h).1 hr.prv,fun _=>rfl⟩
noncomputable def evB (g:Gr):Bool:=holB g 1 0 && holB g 1 1 && holB g 1 2
noncomputable def evR (g:Gr):Bool×Int:=if okG g=true then (evB g,0) else (false,70)
def maxL (r:List Int):Int:=r.foldl max 0
noncomputable def grR (g:Gr) (c t:Int):Int×Int:=if (rksR g c t).2=0 then (maxL (rksR g c t).1,0) else (0,(rksR g c t).2)
/-! ### Circles of one graph in another -/
section
variable {g g':Gr} (hg:GOK g) (hg':GOK g') (e1:g'.1=g.1)
include hg hg' e1
end
section
variable {g:Gr} (hg:GOK g)
include hg
end
/-! ### Names -/
/-! ### Fewer moves -/
end Go.Proofs.Yteclokkdgmacpaa
