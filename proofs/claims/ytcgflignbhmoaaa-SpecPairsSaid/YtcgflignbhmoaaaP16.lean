/-
  Layer 1, pure: states of two machines that some word tells apart are told apart by one of at most 15 calls.
-/
import Derived.Test.YtcgflignbhmoaaaP15
namespace Go.Proofs.Ytcgflignbhmoaaa
open Go.RowKit

set_option linter.unusedVariables false
set_option linter.unusedSectionVars false
set_option linter.unusedSimpArgs false

/-- Calls lead to states. -/
def closedP (S : Sp) : Prop := ∀ p o, inR S.st p = true → inR S.op o = true → inR S.st (at2 S.nx p o.toNat) = true

theorem Stable.all2 {S : Sp} (hc : closedP S) {n : Nat} (h : Stable S n) : ∀ m p q, inR S.st p = true → inR S.st q = true → Eqv S n p q → Eqv S (n + m) p q
  | 0, p, q, _, _, he => he
  | m + 1, p, q, hp, hq, he => by
    have h1 := h p q hp hq he
    rw [Eqv.succ_iff] at h1
    refine Eqv.succ_iff.2 fun o ho => ⟨(h1 o ho).1, ?_⟩
    exact Stable.all2 hc h m _ _ (hc _ _ hp ho) (hc _ _ hq ho) (h1 o ho).2

theorem short_diff2 {S : Sp} (hs : 1 ≤ S.st) (hc : closedP S) {p q : Int} (hp : inR S.st p = true) (hq : inR S.st q = true) {w : List Int} (hw : calls S.op w) (hd : ans S p w ≠ ans S q w) : ∃ v, calls S.op v ∧ ans S p v ≠ ans S q v ∧ (v.length : Int) ≤ S.st - 1 := by
  have h0 : 1 ≤ (firsts S 0).length := by
    have : (0 : Nat) ∈ firsts S 0 := by
      unfold firsts
      rw [List.mem_filter]
      exact ⟨List.mem_range.2 (by omega), by rw [isFirst_iff]; exact fun r hr => by omega⟩
    have := List.length_pos_of_mem this
    omega
  have hst : ∃ n : Nat, (n : Int) ≤ S.st - 1 ∧ Stable S n := by
    refine Classical.byContradiction fun hn => ?_
    have key : ∀ n : Nat, (n : Int) ≤ S.st → n + 1 ≤ (firsts S n).length := by
      intro n
      induction n with
      | zero => intro _; exact h0
      | succ n ih =>
        intro hle
        have h1 := ih (by omega)
        have h2 := firsts_lt (S := S) (n := n) fun hst => hn ⟨n, by omega, hst⟩
        omega
    have h1 := key S.st.toNat (by omega)
    have h2 : (firsts S S.st.toNat).length ≤ S.st.toNat := by
      have := List.length_filter_le (isFirst S S.st.toNat) (List.range S.st.toNat)
      simpa [firsts] using this
    omega
  obtain ⟨n, hn, hstab⟩ := hst
  have hne : ¬ Eqv S n p q := fun he => hd ((hstab.all2 hc w.length p q hp hq he) w hw (by omega))
  have : ∃ v, calls S.op v ∧ v.length ≤ n ∧ ans S p v ≠ ans S q v := Classical.byContradiction fun hh => hne fun v h1 h2 => Classical.byContradiction fun h3 => hh ⟨v, h1, h2, h3⟩
  obtain ⟨v, h1, h2, h3⟩ := this
  exact ⟨v, h1, h3, by omega⟩

/-! ### Two machines as one -/

def uni (S T : Sp) : Sp := ⟨S.st + T.st, S.op, S.nx ++ T.nx.map (List.map (· + S.st)), S.sy ++ T.sy⟩

theorem at2_left {A B : List (List Int)} {p : Int} (h0 : 0 ≤ p) (h : p < (A.length : Int)) (o : Nat) : at2 (A ++ B) p o = at2 A p o := by
  unfold at2
  rw [List.getElem?_append_left (by omega)]

theorem at2_right {A B : List (List Int)} {p q : Int} (hq : 0 ≤ q) (h : p = (A.length : Int) + q) (o : Nat) : at2 (A ++ B) p o = at2 B q o := by
  unfold at2
  rw [List.getElem?_append_right (by omega), show p.toNat - A.length = q.toNat from by omega]

theorem at2_plus {st op c : Int} {f : Int → Bool} {B : List (List Int)} (hB : tab st op f B = true) {q : Int} (hq : inR st q = true) {o : Nat} (ho : (o : Int) < op) : at2 (B.map (List.map (· + c))) q o = at2 B q o + c := by
  obtain ⟨r, h1, h2, _, _⟩ := tab_at hB hq ho
  have e : at2 (B.map (List.map (· + c))) q o = ((((B.map (List.map (· + c)))[q.toNat]?).getD [])[o]?).getD 0 := rfl
  rw [e, List.getElem?_map, h1, Option.map_some, Option.getD_some, List.getElem?_map, h2, Option.map_some, Option.getD_some]

section
variable {S T : Sp} (hS : S.ok = true) (hT : T.ok = true) (hop : S.op = T.op)
include hS hT hop

theorem uni_left {p o : Int} (hp : inR S.st p = true) (ho : inR S.op o = true) : at2 (uni S T).nx p o.toNat = at2 S.nx p o.toNat ∧ at2 (uni S T).sy p o.toNat = at2 S.sy p o.toNat := by
  have hm := Sp.okE hS
  have l1 := (tab_row hm.2.2.2.2.1).1
  have l2 := (tab_row hm.2.2.2.2.2).1
  simp only [inR, decide_eq_true_eq] at hp
  exact ⟨at2_left hp.1 (by omega) _, at2_left hp.1 (by omega) _⟩

theorem uni_right {q o : Int} (hq : inR T.st q = true) (ho : inR S.op o = true) : at2 (uni S T).nx (S.st + q) o.toNat = S.st + at2 T.nx q o.toNat ∧ at2 (uni S T).sy (S.st + q) o.toNat = at2 T.sy q o.toNat := by
  have hm := Sp.okE hS
  have hn := Sp.okE hT
  have l1 := (tab_row hm.2.2.2.2.1).1
  have l2 := (tab_row hm.2.2.2.2.2).1
  have hq' := hq
  simp only [inR, decide_eq_true_eq] at hq' ho
  refine ⟨?_, at2_right hq'.1 (by omega) _⟩
  have e : at2 (uni S T).nx (S.st + q) o.toNat = at2 (T.nx.map (List.map (· + S.st))) q o.toNat := at2_right hq'.1 (by omega) _
  rw [e, at2_plus hn.2.2.2.2.1 hq (by omega), Int.add_comm]

theorem uni_closed : closedP (uni S T) := by
  intro p o hp ho
  have ho' : inR S.op o = true := ho
  have hp0 : inR (S.st + T.st) p = true := hp
  have hp' := hp0
  simp only [inR, decide_eq_true_eq] at hp'
  have hn := Sp.okE hT
  have h1 := hn.1
  show inR (S.st + T.st) _ = true
  simp only [inR, decide_eq_true_eq]
  by_cases h : p < S.st
  · have hin : inR S.st p = true := by simp only [inR, decide_eq_true_eq]; omega
    rw [(uni_left hS hT hop hin ho').1]
    have := nx_in hS hin ho'
    simp only [inR, decide_eq_true_eq] at this
    omega
  · have hin : inR T.st (p - S.st) = true := by simp only [inR, decide_eq_true_eq]; omega
    have := (uni_right hS hT hop hin ho').1
    rw [show S.st + (p - S.st) = p from by omega] at this
    rw [this]
    have hx := nx_in hT hin (o := o) (by rw [← hop]; exact ho')
    simp only [inR, decide_eq_true_eq] at hx
    have := (Sp.okE hS).1
    omega

theorem uni_ans1 : ∀ (w : List Int) (p : Int), inR S.st p = true → calls S.op w → ans (uni S T) p w = ans S p w
  | [], _, _, _ => rfl
  | o :: w, p, hp, hc => by
    have ho := hc o (by simp)
    obtain ⟨h1, h2⟩ := uni_left hS hT hop hp ho
    simp only [ans]
    rw [h1, h2, uni_ans1 w _ (nx_in hS hp ho) fun x hx => hc x (by simp [hx])]

theorem uni_ans2 : ∀ (w : List Int) (q : Int), inR T.st q = true → calls S.op w → ans (uni S T) (S.st + q) w = ans T q w
  | [], _, _, _ => rfl
  | o :: w, q, hq, hc => by
    have ho := hc o (by simp)
    obtain ⟨h1, h2⟩ := uni_right hS hT hop hq ho
    simp only [ans]
    rw [h1, h2, uni_ans2 w _ (nx_in hT hq (by rw [← hop]; exact ho)) fun x hx => hc x (by simp [hx])]

end

end Go.Proofs.Ytcgflignbhmoaaa
