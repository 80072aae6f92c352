/-
  The abstract machine: writing into rows of rows of the call's own. No program is named here.
-/
import Derived.Test.YtabchabbdnhjpaaAvf
namespace Go.Proofs.Ytabchabbdnhjpaa
open Go.RowKit

set_option linter.constructorNameAsVariable false
set_option linter.unusedSimpArgs false
set_option linter.unusedVariables false

section
variable {b : Nat} {e : TypeId} {t : Ty} {xss : List (List (El t))} {h : List (Nat × ABlk)}

theorem two_set (hs : smallH h = true) {i : Nat} (hi : i < xss.length) (ys : List (El t)) (c : Nat) : hpGet (two h (rowsL b e t (xss.set i ys))) c = if c = inm b i then some (.arr e t ys) else hpGet (two h (rowsL b e t xss)) c := by
  unfold two
  by_cases hc : c < 1000000
  · have := inm_big b i
    rw [if_neg (by omega), hpGet_two_small hc, hpGet_two_small hc]
  · rw [hpGet_two_big hs (by omega), hpGet_two_big hs (by omega)]
    by_cases e1 : c = inm b i
    · rw [if_pos e1, e1, hpGet_rows_at (by rw [List.length_set]; exact hi)]
      simp [List.getD, hi]
    · rw [if_neg e1]
      cases hr : hpGet (rowsL b e t xss) c with
      | some B =>
        obtain ⟨j, hj, e2, e3⟩ := hpGet_rows hr
        have hne : i ≠ j := fun e4 => e1 (by rw [e2, e4])
        rw [e2, hpGet_rows_at (by rw [List.length_set]; exact hj), e3]
        simp [List.getD, List.getElem?_set_ne hne]
      | none =>
        refine hpGet_rows_none fun j hj e2 => ?_
        rw [List.length_set] at hj
        rw [e2, hpGet_rows_at hj] at hr; cases hr

end

theorem smallH_clean {K : List Nat} : ∀ {h : List (Nat × ABlk)}, smallH h = true → smallH (cleanH K h) = true
  | [], _ => rfl
  | (c, B) :: r, hs => by
    rw [smallH_cons, Bool.and_eq_true] at hs
    have e1 : cleanH K ((c, B) :: r) = if K.contains c then cleanH K r else (c, B.clean K) :: cleanH K r := rfl
    rw [e1]
    split
    · exact smallH_clean hs.2
    · rw [smallH_cons, hs.1, smallH_clean hs.2]; rfl

section
variable {P : Program} {T : Tab} {n : Nat} {ro : Option Nat} {Q : Exit → ASt → Prop} {σ : Nat → AVal} {H : AHeap} {g : Gh} {o : Oper} {ops rs : List Oper} {t e : TypeId} {i ie : TInfo}

end

section
variable {P : Program} {T : Tab} {n : Nat} {ro : Option Nat} {Q : Exit → ASt → Prop} {g : Gh} {o : Oper} {ops rs : List Oper} {l : List (Nat × AVal)} {h : List (Nat × ABlk)}

end
end Go.Proofs.Ytabchabbdnhjpaa
