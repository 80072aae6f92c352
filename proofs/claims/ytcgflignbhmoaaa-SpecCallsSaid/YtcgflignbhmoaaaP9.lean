/-
  Layer 1, pure: calls that commute, overwrite, only read, meddle; the law about them.
-/
import Derived.Test.YtcgflignbhmoaaaP8
namespace Go.Proofs.Ytcgflignbhmoaaa
open Go.RowKit

set_option linter.unusedVariables false
set_option linter.unusedSimpArgs false
set_option linter.unusedSectionVars false

def nxt (s : Tup) (q o : Int) : Int := at2 s.2.2.1 q o.toNat
def say (s : Tup) (q o : Int) : Int := at2 s.2.2.2 q o.toNat

def comB (s : Tup) (p a b : Int) : Bool := decide (say s p a = say s (nxt s p b) a) && decide (say s (nxt s p a) b = say s p b) && sameB s (nxt s (nxt s p a) b) (nxt s (nxt s p b) a)
def ovwB (s : Tup) (p a b : Int) : Bool := decide (say s (nxt s p a) b = say s p b) && sameB s (nxt s (nxt s p a) b) (nxt s p b)
def medB (s : Tup) (p a b : Int) : Bool := !comB s p a b && !ovwB s p a b && !ovwB s p b a

theorem run_two (s : Tup) (p a b : Int) : runF s p [a, b] = ([say s p a, say s (nxt s p a) b], nxt s (nxt s p a) b) := rfl
theorem run_one (s : Tup) (p a : Int) : runF s p [a] = ([say s p a], nxt s p a) := rfl

section
variable {s : Tup} (hv : (toSp s).ok = true)
include hv

theorem nxt_in {q o : Int} (hq : inR s.1 q = true) (ho : inR s.2.1 o = true) : inR s.1 (nxt s q o) = true := nx_in hv hq ho

theorem com_eq {p a b : Int} (hp : inR s.1 p = true) (ha : inR s.2.1 a = true) (hb : inR s.2.1 b = true) : spec_machine_commute s p a b = some (comB s p a b) := by
  have w1 : wordB s [a, b] = true := wordB_of (by simp) fun x hx => by simp at hx; rcases hx with rfl | rfl <;> assumption
  have w2 : wordB s [b, a] = true := wordB_of (by simp) fun x hx => by simp at hx; rcases hx with rfl | rfl <;> assumption
  unfold spec_machine_commute
  rw [(machine_run_eq hv hp w1).1, Option.bind_some, (machine_run_eq hv hp w2).1, Option.bind_some, run_two, run_two]
  rw [ck_pos (by simp), ck_pos (by simp)]
  unfold comB
  by_cases h1 : say s p a = say s (nxt s p b) a
  · rw [if_pos (by simp [h1]), ck_pos (by simp), ck_pos (by simp)]
    by_cases h2 : say s (nxt s p a) b = say s p b
    · rw [if_pos (by simp [h2]), machine_same_eq hv (nxt_in hv (nxt_in hv hp ha) hb) (nxt_in hv (nxt_in hv hp hb) ha)]
      simp [h1, h2]
    · rw [if_neg (by simp [h2])]; simp [h2]
  · rw [if_neg (by simp [h1])]; simp [h1]

theorem ovw_eq {p a b : Int} (hp : inR s.1 p = true) (ha : inR s.2.1 a = true) (hb : inR s.2.1 b = true) : spec_machine_overwrites s p a b = some (ovwB s p a b) := by
  have w1 : wordB s [a, b] = true := wordB_of (by simp) fun x hx => by simp at hx; rcases hx with rfl | rfl <;> assumption
  have w2 : wordB s [b] = true := wordB_of (by simp) fun x hx => by simp at hx; subst hx; assumption
  unfold spec_machine_overwrites
  rw [(machine_run_eq hv hp w1).1, Option.bind_some, (machine_run_eq hv hp w2).1, Option.bind_some, run_two, run_one]
  rw [ck_pos (by simp), ck_pos (by simp)]
  unfold ovwB
  by_cases h2 : say s (nxt s p a) b = say s p b
  · rw [if_pos (by simp [h2]), machine_same_eq hv (nxt_in hv (nxt_in hv hp ha) hb) (nxt_in hv hp hb)]
    simp [h2]
  · rw [if_neg (by simp [h2])]; simp [h2]

theorem med_eq {p a b : Int} (hp : inR s.1 p = true) (ha : inR s.2.1 a = true) (hb : inR s.2.1 b = true) : spec_machine_meddle s p a b = some (medB s p a b) := by
  unfold spec_machine_meddle medB
  rw [com_eq hv hp ha hb, Option.bind_some, ovw_eq hv hp ha hb, ovw_eq hv hp hb ha]
  cases comB s p a b
  · cases ovwB s p a b <;> simp
  · simp

/-- A call that only reads. -/
def readsB (s : Tup) (o : Int) : Bool := (waysL s).all fun x => sameB s x.1 (nxt s x.1 o)

theorem reads_step {o : Int} (ho : inR s.2.1 o = true) {x : Int × List Int} (hx : inR s.1 x.1 = true) (st : Unit) : spec_Reads_y1 o (s.1, s.2.1, s.2.2.1, s.2.2.2, 0) x st = some (if sameB s x.1 (nxt s x.1 o) = true then .next () else .done ()) := by
  obtain ⟨c1, c2, c3, c4, c5, c6, c7⟩ := run_step_ok hv hx ho
  unfold spec_Reads_y1
  simp only [getD_at]
  rw [ck_pos c1, ck_pos c3, ck_pos c4, ck_pos c6, show ((s.1, s.2.1, s.2.2.1, s.2.2.2) : Tup) = s from rfl, machine_same_eq hv hx c7, Option.bind_some]
  have e : nxt s x.1 o = at2 s.2.2.1 x.1 o.toNat := rfl
  rw [e]
  cases sameB s x.1 (at2 s.2.2.1 x.1 o.toNat) <;> simp

theorem fold_reads {o : Int} (ho : inR s.2.1 o = true) : ∀ (l : List (Int × List Int)), (∀ x ∈ l, inR s.1 x.1 = true) → foldY (spec_Reads_y1 o (s.1, s.2.1, s.2.2.1, s.2.2.2, 0)) l () = some (if l.all (fun x => sameB s x.1 (nxt s x.1 o)) = true then .inl () else .inr ())
  | [], _ => rfl
  | x :: l, h => by
    simp only [foldY]
    rw [reads_step hv ho (h x (by simp)), Option.bind_some, List.all_cons]
    cases sameB s x.1 (nxt s x.1 o)
    · simp
    · simp only [if_true, Bool.true_and]
      exact fold_reads ho l fun y hy => h y (by simp [hy])

theorem Reads_in (hs : okS s) {o : Int} (ho : inR s.2.1 o = true) : spec_Reads s o = some (readsB s o, 0) := by
  unfold spec_Reads spec_machine_ways readsB
  rw [checked_eq s hs [] (by rw [maxLen_num]; simp), Option.bind_some]
  simp only [hv, if_true, List.all_nil, decide_true, Bool.not_true, Bool.false_eq_true, if_false]
  rw [show ((s.1, s.2.1, s.2.2.1, s.2.2.2) : Tup) = s from rfl, isCall_eq, Option.bind_some, ho]
  simp only [Bool.not_true, Bool.false_eq_true, if_false, Option.bind_some]
  rw [ways_eq hv _ () (fold_reads hv ho (waysL s) fun x hx => ways_in hv hx), Option.bind_some]
  cases (waysL s).all fun x => sameB s x.1 (nxt s x.1 o) <;> simp [spec_Reads_k1]

end

end Go.Proofs.Ytcgflignbhmoaaa
