/-
  Layer 2, pure: what is played.
-/
import Derived.Test.YtdkdkpenmgkdcaaH5
namespace Go.Proofs.Ytdkdkpenmgkdcaa
open Go.RowKit

set_option linter.unusedVariables false
set_option linter.unusedSimpArgs false
set_option maxRecDepth 10000

/-- The states after the calls. -/
def stA (specs : List Tup) : Int × Int → List HC6 → Int × Int
  | s, [] => s
  | s, c :: r => stA specs (stTo s c.2.1 (nexS (spAt specs c.2.1) (stOf s c.2.1) c.2.2.1)) r

theorem stA_one (specs : List Tup) : ∀ (a : List HC6) (s : Int × Int) (c : HC6), stA specs s (a ++ [c]) = stTo (stA specs s a) c.2.1 (nexS (spAt specs c.2.1) (stOf (stA specs s a) c.2.1) c.2.2.1)
  | [], s, c => rfl
  | d :: r, s, c => stA_one specs r _ c

theorem plA_one (specs : List Tup) : ∀ (a : List HC6) (k : Nat) (s : Int × Int) (c : HC6), plA specs k s (a ++ [c]) = plA specs k s a ++ [(c.1, c.2.1, c.2.2.1, sayS (spAt specs c.2.1) (stOf (stA specs s a) c.2.1) c.2.2.1, 2 * ((k + a.length : Nat) : Int) + 1, 2 * ((k + a.length : Nat) : Int) + 2)]
  | [], k, s, c => rfl
  | d :: r, k, s, c => by
    have h := plA_one specs r (k + 1) (stTo s d.2.1 (nexS (spAt specs d.2.1) (stOf s d.2.1) d.2.2.1)) c
    rw [show k + 1 + r.length = k + (d :: r).length by simp; omega] at h
    exact congrArg (List.cons _) h

theorem plA_len (specs : List Tup) : ∀ (w : List HC6) (k : Nat) (s : Int × Int), (plA specs k s w).length = w.length
  | [], _, _ => rfl
  | c :: r, k, s => by simp [plA, plA_len specs r]

/-- The calls played are calls. -/
theorem plA_ok {specs : List Tup} (hs : okSs specs = true) : ∀ (w : List HC6) (k : Nat) (s : Int × Int), (∀ c ∈ w, canC specs c = true) → okP2 specs s → k + w.length ≤ 8 → ∀ c ∈ plA specs k s w, okC c = true
  | [], k, s, _, _, _, c, h => by cases h
  | d :: r, k, s, hw, hp, hk, c, h => by
    have hd := hw d (List.mem_cons_self ..)
    obtain ⟨p1, p2, p3⟩ := canC_parts hd
    have hsp := ok_parts (okSs_at hs p2)
    have hl2 := okSs_len hs
    rw [List.length_cons] at hk
    rcases List.mem_cons.1 h with rfl | h
    · obtain ⟨_, _, a3⟩ := tab_at hsp.2.2.2.2.2 (hp _ p2.1 p2.2) p3
      unfold ansB at a3
      have a4 := of_decide_eq_true a3
      have : sayS (spAt specs d.2.1) (stOf s d.2.1) d.2.2.1 = (((spAt specs d.2.1).2.2.2.getD (stOf s d.2.1).toNat []).getD d.2.2.1.toNat 0) := rfl
      exact okC_mk ⟨p1, by omega, by omega, by omega, by omega, .inr (by omega)⟩
    · exact plA_ok hs r (k + 1) _ (fun c hc => hw c (List.mem_cons_of_mem _ hc)) (okP2_to hs hd hp) (by omega) c h

theorem playA_ok (specs : List Tup) (w : List HC6) : (∀ c ∈ (playA specs w).1, okC c = true) ∧ (playA specs w).1.length ≤ 1000 := by
  unfold playA
  by_cases hs : okSs specs = true
  · rw [if_pos hs]
    split
    · rename_i h
      simp only [Bool.and_eq_true, decide_eq_true_eq] at h
      refine ⟨plA_ok hs w 0 (0, 0) (fun c hc => ?_) (okP2_zero hs) (by omega), by rw [plA_len]; omega⟩
      have := List.all_eq_true.1 h.2 c hc
      simp only [Bool.and_eq_true] at this
      exact this.2
    · exact ⟨(fun c h => by cases h), by decide⟩
  · rw [if_neg hs]; exact ⟨(fun c h => by cases h), by decide⟩

end Go.Proofs.Ytdkdkpenmgkdcaa
