/-
  How many accesses conflict; what is deleted; pairs.
-/
import Derived.Test.YtdicomoggfhbfaaD2
namespace Go.Proofs.Ytdicomoggfhbfaa
open Go.RowKit

set_option linter.unusedVariables false
set_option linter.unusedSimpArgs false

/-- How many accesses conflict. -/
def nConf (x : Acs) : Nat := sumN x.length fun t => sumN (x.getD t []).length fun a => sumN t fun u => sumN (x.getD u []).length fun b => (conf x (t : Int) (a : Int) (u : Int) (b : Int)).toNat

/-! ### What is deleted -/

theorem clear_take {α : Type} (l : List α) (z : α) {i : Nat} (hi : i ≤ l.length) : (((l.take i) ++ (List.replicate ((l.length : Int) - (i : Int)).toNat z)) ++ (l.drop (i + ((l.length : Int) - (i : Int)).toNat))).take i = l.take i := by
  rw [List.append_assoc, List.take_append_of_le_length (by rw [List.length_take]; omega), List.take_take, Nat.min_self]

/-- What stays is moved to the front. -/
theorem del_loop {α : Type} (s : List α) (p : α → Bool) (i0 : Nat) {x0 : α} (hx0 : s[i0]? = some x0) (hp0 : p x0 = true) (hi0 : ∀ y ∈ s.take i0, p y = false) {body : List α × Int × Int → Option (Step (List α × Int × Int) (List α × Int))}
    (hb : ∀ (l : List α) (i j : Nat) (x : α), l.length = s.length → i < j → l[j]? = some x → x ∈ s → body (l, (i : Int), (j : Int)) = some (.next (if p x = true then (l, (i : Int), (j : Int) + 1) else (l.set i x, (i : Int) + 1, (j : Int) + 1))))
    (hd : ∀ (l : List α) (i : Nat), l.length = s.length → body (l, (i : Int), (s.length : Int)) = some (.done (l, (i : Int)))) :
    ∃ (l : List α) (i : Nat), whileO body (s, (i0 : Int), (i0 : Int) + 1) = some (l, (i : Int)) ∧ l.length = s.length ∧ i < s.length ∧ l.take i = s.filter fun x => !p x := by
  have hlt := (List.getElem?_eq_some_iff.1 hx0).1
  have hf0 : ∀ (l : List α), (∀ y ∈ l, p y = false) → l.filter (fun x => !p x) = l := fun l h => List.filter_eq_self.2 fun y hy => by rw [h y hy]; rfl
  obtain ⟨r, e, l, i, rfl, h1, h2, h3⟩ := whileO_inv (S := List α × Int × Int) (R := List α × Int) (body := body) (fun st => ∃ (l : List α) (i j : Nat), st = (l, (i : Int), (j : Int)) ∧ l.length = s.length ∧ i < j ∧ j ≤ s.length ∧ l.take i = (s.take j).filter (fun x => !p x) ∧ l.drop j = s.drop j) (fun st => s.length - st.2.2.toNat)
    (fun r => ∃ (l : List α) (i : Nat), r = (l, (i : Int)) ∧ l.length = s.length ∧ i < s.length ∧ l.take i = s.filter fun x => !p x)
    (by
      rintro st ⟨l, i, j, rfl, hl, hij, hj, ht, hdr⟩
      by_cases hjl : j < s.length
      · have hjx : l[j]? = some (s[j]) := by
          have : (l.drop j)[0]? = (s.drop j)[0]? := by rw [hdr]
          rw [List.getElem?_drop, List.getElem?_drop, Nat.add_zero] at this
          rw [this]; exact List.getElem?_eq_getElem hjl
        have hsj : s[j]? = some (s[j]) := List.getElem?_eq_getElem hjl
        have hd1 : l.drop (j + 1) = s.drop (j + 1) := by
          have := congrArg (List.drop 1) hdr
          rwa [List.drop_drop, List.drop_drop] at this
        refine .inl ⟨_, hb l i j _ hl hij hjx (List.getElem_mem hjl), ?_, ?_⟩
        · cases hp : p (s[j]) with
          | true =>
            rw [if_pos rfl]
            refine ⟨l, i, j + 1, by simp, hl, by omega, by omega, ?_, hd1⟩
            rw [ht, take_one hsj, List.filter_append]
            simp [hp]
          | false =>
            rw [if_neg (by simp)]
            refine ⟨l.set i (s[j]), i + 1, j + 1, by simp, by rw [List.length_set, hl], by omega, by omega, ?_, ?_⟩
            · have hset : (l.set i (s[j]))[i]? = some (s[j]) := by rw [List.getElem?_set, if_pos rfl, if_pos (by omega)]
              rw [take_one hset, List.take_set_of_le (Nat.le_refl i), ht, take_one hsj, List.filter_append]
              simp [hp]
            · rw [List.drop_set_of_lt (by omega), hd1]
        · cases hp : p (s[j]) with
          | true => rw [if_pos rfl]; simp only; omega
          | false => rw [if_neg (by simp)]; simp only; omega
      · have : j = s.length := by omega
        subst this
        exact .inr ⟨_, hd l i hl, l, i, rfl, hl, by omega, by rw [ht, List.take_length]⟩)
    (s, (i0 : Int), (i0 : Int) + 1) ⟨s, i0, i0 + 1, by simp, rfl, by omega, by omega, by rw [take_one hx0, List.filter_append, hf0 _ hi0]; simp [hp0], rfl⟩
  exact ⟨l, i, e, h1, h2, h3⟩

theorem delF {α : Type} (s : List α) (p : α → Bool) (hs : few s) {idx : Option Int} (hi : idx = some (idxI p s)) {body : List α × Int × Int → Option (Step (List α × Int × Int) (List α × Int))} {k1 : List α × Int → Option (List α)}
    (hb : ∀ (l : List α) (i j : Nat) (x : α), l.length = s.length → i < j → l[j]? = some x → x ∈ s → body (l, (i : Int), (j : Int)) = some (.next (if p x = true then (l, (i : Int), (j : Int) + 1) else (l.set i x, (i : Int) + 1, (j : Int) + 1))))
    (hd : ∀ (l : List α) (i : Nat), l.length = s.length → body (l, (i : Int), (s.length : Int)) = some (.done (l, (i : Int))))
    (hk : ∀ (l : List α) (i : Nat), i < l.length → k1 (l, (i : Int)) = some (l.take i)) :
    (idx.bind fun v0 => if (decide (v0 = (-1))) = true then some s else ck (InK .i64 (v0 + 1)) <| (whileO body (s, v0, v0 + 1)).bind fun r1 => k1 r1) = some (s.filter fun x => !p x) := by
  rw [hi, Option.bind_some]
  unfold idxI
  cases h : s.findIdx? p with
  | none =>
    rw [List.findIdx?_eq_none_iff] at h
    rw [if_pos (by simp)]
    rw [List.filter_eq_self.2 fun y hy => by simp [h y hy]]
  | some k =>
    obtain ⟨hk1, hp, hlt⟩ := List.findIdx?_eq_some_iff_getElem.1 h
    simp only
    rw [if_neg (by simp), ck_pos (by unfold few at hs; rw [inK_i64]; omega)]
    obtain ⟨l, i, e, e1, e2, e3⟩ := del_loop s p k (List.getElem?_eq_getElem hk1) hp (fun y hy => by
      obtain ⟨j, hj, rfl⟩ := List.getElem_of_mem hy
      rw [List.getElem_take]
      rw [List.length_take] at hj
      have := hlt j (by omega)
      simpa using this) hb hd
    rw [e, Option.bind_some, hk l i (by omega), e3]

theorem stas_len {x : Acs} (hv : vld x = true) : (stas x).length ≤ 48 := by
  have hlen := vld_len hv
  have hr := vld_row hv
  have gen : ∀ {β : Type} (n c m : Nat) (f : Nat → List β), n ≤ m → (∀ k, (f k).length ≤ c) → ((List.range n).flatMap f).length ≤ m * c := by
    intro β n c m f hn hf
    have : ∀ k, ((List.range k).flatMap f).length ≤ k * c := by
      intro k
      induction k with
      | zero => simp
      | succ k ih =>
        rw [List.range_succ, List.flatMap_append, List.length_append, Nat.succ_mul]
        have := hf k
        simp only [List.flatMap_cons, List.flatMap_nil, List.append_nil]; omega
    exact Nat.le_trans (this n) (Nat.mul_le_mul_right c hn)
  unfold stas
  exact gen _ 16 3 _ hlen.2.1 fun t => gen _ 4 4 _ (hr t) fun a => gen _ 1 4 _ (hr t) fun b => by split <;> simp

theorem mem_stas {x : Acs} {s : Sta} : s ∈ stas x ↔ isSt x s = true := by
  unfold stas
  simp only [List.mem_flatMap, List.mem_range]
  constructor
  · rintro ⟨t, ht, a, ha, b, hb, h⟩
    split at h
    · rename_i hs
      simp only [List.mem_singleton] at h
      rw [h]; exact hs
    · simp at h
  · intro h
    obtain ⟨t, a, b⟩ := s
    have hA : hasA x t a = true ∧ hasA x t b = true := by
      unfold isSt isPr at h
      simp only [Bool.or_eq_true, Bool.and_eq_true, decide_eq_true_eq] at h
      rcases h with ⟨e, h⟩ | h
      · subst e; exact ⟨h, h⟩
      · exact ⟨h.1, h.2.1⟩
    obtain ⟨h1, h2, h3, h4⟩ := hasA_iff.1 hA.1
    obtain ⟨_, _, k3, k4⟩ := hasA_iff.1 hA.2
    refine ⟨t.toNat, by omega, a.toNat, by omega, b.toNat, by omega, ?_⟩
    rw [Int.toNat_of_nonneg h1, Int.toNat_of_nonneg h3, Int.toNat_of_nonneg k3, if_pos h]; simp

theorem few_stas {x : Acs} (hv : vld x = true) : few (stas x) := few_of (stas_len hv)

def oneB (s : Sta) : Bool := decide (s.2.1 = s.2.2)
def prs (x : Acs) : List Sta := (stas x).filter fun s => !oneB s

theorem pairs_eq {x : Acs} (hv : vld x = true) : delay_accesses_pairs x = some (prs x) := by
  unfold delay_accesses_pairs
  rw [stations_eq hv, Option.bind_some]
  have hf := few_stas hv
  generalize hs : stas x = s at hf
  have hidx : slices_IndexFunc_5 s = some (idxI oneB s) := by
    unfold slices_IndexFunc_5
    rw [whileO_first s oneB (fun k a hk => by
      obtain ⟨hlt, hik⟩ := few_in hf hk
      unfold slices_IndexFunc_5_b1 delay_isOne oneB
      rw [if_pos (decide_eq_true (by omega)), ck_pos (by omega), ck_pos (by omega), Int.toNat_natCast, getD_of hk, Option.bind_some]
      by_cases e : a.2.1 = a.2.2 <;> simp [e, ck_pos hik]) (by unfold slices_IndexFunc_5_b1; rw [if_neg (by simp)]), Option.bind_some]
    unfold idxI slices_IndexFunc_5_k1
    cases s.findIdx? oneB <;> rfl
  have := delF s oneB hf hidx (body := slices_DeleteFunc_b1) (k1 := slices_DeleteFunc_k1) (fun l i j y hl hij hj _ => by
    have hjl := (List.getElem?_eq_some_iff.1 hj).1
    have hf' : few l := by unfold few at *; omega
    obtain ⟨_, hik⟩ := few_in hf' hj
    unfold slices_DeleteFunc_b1 delay_isOne oneB
    simp only
    rw [if_pos (decide_eq_true (by omega)), ck_pos (by omega), ck_pos (by omega), Int.toNat_natCast, getD_of hj, Option.bind_some]
    by_cases e : y.2.1 = y.2.2
    · rw [if_neg (by simp [e]), ck_pos hik, if_pos (by simp [e])]
    · rw [if_pos (by simp [e]), ck_pos (by omega), ck_pos (by omega), ck_pos (by rw [inK_i64] at *; omega), ck_pos hik, if_neg (by simp [e]), Int.toNat_natCast]) (fun l i hl => by
      unfold slices_DeleteFunc_b1
      simp only
      rw [if_neg (by simp [hl])]) (fun l i hi => by
        unfold slices_DeleteFunc_k1
        simp only
        rw [Int.toNat_natCast, ck_pos (by omega), ck_pos (by omega), ck_pos (by omega), ck_pos (by omega), ck_pos (by omega), ck_pos (by simp only [List.length_append, List.length_take, List.length_replicate, List.length_drop]; omega), clear_take l _ (by omega)])
  have e : slices_DeleteFunc s = some (s.filter fun x => !oneB x) := by unfold slices_DeleteFunc; exact this
  rw [e, Option.bind_some]
  unfold prs
  rw [hs]

end Go.Proofs.Ytdicomoggfhbfaa
