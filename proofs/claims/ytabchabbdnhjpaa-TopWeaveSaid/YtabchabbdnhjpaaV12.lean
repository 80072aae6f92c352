/-
  Layer 3, pure: WeaveMeets.
-/
import Derived.Test.YtabchabbdnhjpaaV9
import Derived.Test.YtabchabbdnhjpaaV11
namespace Go.Proofs.Ytabchabbdnhjpaa
open Go.RowKit

set_option linter.unusedVariables false
set_option linter.unusedSimpArgs false
set_option maxRecDepth 10000

variable {l : Ltr}

theorem dep_self (l : Ltr) (a : Int) : dep l a a = true := by simp [dep]
theorem dep_ne {a b : Int} (h : dep l a b = false) : a ≠ b := fun e => by subst e; rw [dep_self] at h; cases h

/-! ### What both have in front -/

theorem SP_rs : ∀ (n : Nat) (x y : List Int), x.length = n → rs l (SP l x y).1 x = some (SP l x y).2.1 ∧ rs l (SP l x y).1 y = some (SP l x y).2.2 ∧ nx l (SP l x y).2.1 (SP l x y).2.2 = none := by
  intro n
  induction n using Nat.strongRecOn with
  | ind n ih =>
    intro x y hn
    rw [SP_eq l x y]
    cases h : nx l x y with
    | none => exact ⟨rfl, rfl, h⟩
    | some q =>
      obtain ⟨a, u, o⟩ := q
      have hh := nx_some h
      have := (wo_some l x a u hh.1).1
      obtain ⟨h1, h2, h3⟩ := ih u.length (by omega) u o rfl
      simp only
      rw [rs_cons, rs_cons, hh.1, hh.2]
      exact ⟨h1, h2, h3⟩

theorem nx_apart (hl : okL l = true) {x y : List Int} (hx : isWd l x = true) (h : nx l x y = none) (b : Int) : wo l x b = none ∨ wo l y b = none := by
  cases h1 : wo l x b with
  | none => exact .inl rfl
  | some u =>
    have hb := isWd_six hl hx b (wo_some l x b u h1).2.2
    have hn := List.findSome?_eq_none_iff.1 h b.toNat (List.mem_range.2 (by omega))
    unfold nxF at hn
    have e : ((b.toNat : Nat) : Int) = b := by omega
    rw [e, h1, Option.bind_some] at hn
    exact .inr (by simpa using hn)

theorem wo_mid {a : Int} : ∀ {y x : List Int}, (∀ b ∈ y, dep l a b = false) → wo l (y ++ a :: x) a = some (y ++ x)
  | [], x, _ => wo_head l a x
  | b :: y, x, h => by
    have hb := h b (by simp)
    rw [List.cons_append, wo_skip (Ne.symm (dep_ne hb)) hb, wo_mid (fun c hc => h c (by simp [hc]))]; rfl

theorem apart_comm : ∀ {x y : List Int}, (∀ a ∈ x, ∀ b ∈ y, dep l a b = false) → eqv l (x ++ y) (y ++ x)
  | [], y, _ => by rw [List.nil_append, List.append_nil]; exact eqv_refl l y
  | a :: x, y, h => by
    rw [List.cons_append]
    exact eqv_cons.2 ⟨y ++ x, wo_mid (h a (by simp)), apart_comm fun c hc => h c (by simp [hc])⟩

/-! ### The law -/

theorem Common_ok {w v : List Int} (hf : few l.2) (hl : okL l = true) (hw : isWd l w = true) (hv : isWd l v = true) : weave_Common l w v = some (FF l (SP l w v).1, 0) := by
  rw [Common_eq l w v hf (len60 hw) (len60 hv)]
  unfold commonA; rw [if_pos (errW_of2 hl hw hv)]

def bothB (l : Ltr) (w v : List Int) : List Int × Int :=
  if (SP l w v).2.1.any (fun a => (SP l w v).2.2.any (dep l a)) = true then ([], 5)
  else if (SP l w v).1.length + (SP l w v).2.1.length + (SP l w v).2.2.length ≤ 10 then (FF l ((SP l w v).1 ++ (SP l w v).2.1 ++ (SP l w v).2.2), 0) else ([], 4)

theorem Both_ok {w v : List Int} (hf : few l.2) (hl : okL l = true) (hw : isWd l w = true) (hv : isWd l v = true) : weave_Both l w v = some (bothB l w v) := by
  rw [Both3_eq l w v hf (len60 hw) (len60 hv)]
  unfold bothA bothB; rw [if_pos (errW_of2 hl hw hv)]

end Go.Proofs.Ytabchabbdnhjpaa
