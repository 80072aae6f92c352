/-
  Layer 2, pure: loops that keep some calls.
-/
import Derived.Test.YtlfpagicagmjgaaH2c
namespace Go.Proofs.Ytlfpagicagmjgaa
open Go.RowKit

set_option linter.unusedVariables false
set_option linter.unusedSimpArgs false
set_option maxRecDepth 10000

theorem flat_loop (g : HC6 → List HC6) (hg : ∀ c, (g c).length ≤ 1) (h : List HC6) (hl : h.length ≤ 1000) {body : List HC6 × Int → Option (Step (List HC6 × Int) (List HC6))}
    (hb : ∀ (k : Nat) (x : HC6) (s : List HC6), h[k]? = some x → s.length ≤ 1000 → k < h.length → InK .i64 ((k : Int) + 1) → body (s, (k : Int)) = some (.next (s ++ g x, (k : Int) + 1))) (hd : ∀ s, body (s, (h.length : Int)) = some (.done s)) : whileO body ([], 0) = some (h.flatMap g) := by
  have hfl : ∀ l : List HC6, (l.flatMap g).length ≤ l.length := by
    intro l
    induction l with
    | nil => simp
    | cons a r ih => have := hg a; simp only [List.flatMap_cons, List.length_append, List.length_cons]; omega
  obtain ⟨r, er, hr⟩ := scan2 (R := List HC6) h (fun k (s : List HC6) => s = (h.take k).flatMap g) (fun r => r = h.flatMap g) (body := body) (s0 := []) (by simp) (fun k x s hk hI => by
    obtain ⟨hlt, hin⟩ := few_in (few_of hl) hk
    have hsl : s.length ≤ 1000 := by rw [hI]; have := hfl (h.take k); rw [List.length_take] at this; omega
    refine .inl ⟨_, hb k x s hk hsl hlt hin, ?_⟩
    rw [take_one hk, List.flatMap_append, hI]; simp) (fun s hI => ⟨_, hd s, by rw [hI, List.take_length]⟩)
  rw [er, hr]

def keepIf (p : HC6 → Bool) (c : HC6) : List HC6 := if p c = true then [c] else []

theorem keepIf_len (p : HC6 → Bool) (c : HC6) : (keepIf p c).length ≤ 1 := by unfold keepIf; split <;> simp

theorem flat_keep (p : HC6 → Bool) : ∀ h : List HC6, h.flatMap (keepIf p) = h.filter p
  | [] => rfl
  | c :: r => by
    rw [List.flatMap_cons, flat_keep p r, List.filter_cons]
    unfold keepIf
    cases p c <;> rfl

end Go.Proofs.Ytlfpagicagmjgaa
