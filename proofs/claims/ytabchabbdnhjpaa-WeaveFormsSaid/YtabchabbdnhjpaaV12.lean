/-
  Layer 3, pure: WeaveMeets.
-/
import Derived.Test.YtabchabbdnhjpaaV9
import Derived.Test.YtabchabbdnhjpaaV11
namespace Go.Proofs.Ytabchabbdnhjpaa
open Go.RowKit

set_option linter.unusedVariables false
set_option linter.unusedSimpArgs false
set_option maxRecDepth 10000

variable {l : Ltr}

theorem dep_self (l : Ltr) (a : Int) : dep l a a = true := by simp [dep]
theorem dep_ne {a b : Int} (h : dep l a b = false) : a ≠ b := fun e => by subst e; rw [dep_self] at h; cases h

/-! ### What both have in front -/

theorem wo_mid {a : Int} : ∀ {y x : List Int}, (∀ b ∈ y, dep l a b = false) → wo l (y ++ a :: x) a = some (y ++ x)
  | [], x, _ => wo_head l a x
  | b :: y, x, h => by
    have hb := h b (by simp)
    rw [List.cons_append, wo_skip (Ne.symm (dep_ne hb)) hb, wo_mid (fun c hc => h c (by simp [hc]))]; rfl

theorem apart_comm : ∀ {x y : List Int}, (∀ a ∈ x, ∀ b ∈ y, dep l a b = false) → eqv l (x ++ y) (y ++ x)
  | [], y, _ => by rw [List.nil_append, List.append_nil]; exact eqv_refl l y
  | a :: x, y, h => by
    rw [List.cons_append]
    exact eqv_cons.2 ⟨y ++ x, wo_mid (h a (by simp)), apart_comm fun c hc => h c (by simp [hc])⟩

/-! ### The law -/

def bothB (l : Ltr) (w v : List Int) : List Int × Int :=
  if (SP l w v).2.1.any (fun a => (SP l w v).2.2.any (dep l a)) = true then ([], 5)
  else if (SP l w v).1.length + (SP l w v).2.1.length + (SP l w v).2.2.length ≤ 10 then (FF l ((SP l w v).1 ++ (SP l w v).2.1 ++ (SP l w v).2.2), 0) else ([], 4)

end Go.Proofs.Ytabchabbdnhjpaa
