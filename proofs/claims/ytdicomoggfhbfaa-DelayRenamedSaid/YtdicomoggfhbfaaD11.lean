/-
  DelayLess: with one access less no circle comes about.
-/
import Derived.Test.YtdicomoggfhbfaaD6
import Derived.Test.YtdicomoggfhbfaaD5
namespace Go.Proofs.Ytdicomoggfhbfaa
open Go.RowKit

set_option linter.unusedVariables false
set_option linter.unusedSimpArgs false

theorem sumL_erase {α : Type} [BEq α] [LawfulBEq α] {m : List α} {a : α} (h : a ∈ m) (f : α → Nat) : sumL m f = f a + sumL (m.erase a) f := by
  rw [sumL_perm (List.perm_cons_erase h) f, sumL_cons]
theorem sumL_sub {α : Type} [BEq α] [LawfulBEq α] {f : α → Nat} : ∀ {l m : List α}, l.Nodup → (∀ a ∈ l, a ∈ m) → sumL l f ≤ sumL m f
  | [], m, _, _ => Nat.zero_le _
  | a :: l, m, hn, hs => by
    have hn' := List.nodup_cons.1 hn
    have ih := sumL_sub (f := f) (l := l) (m := m.erase a) hn'.2 (fun b hb => by
      have hne : b ≠ a := fun e => hn'.1 (e ▸ hb)
      exact (List.mem_erase_of_ne hne).2 (hs b (by simp [hb])))
    rw [sumL_cons, sumL_erase (hs a (by simp)) f]
    omega

/-- Sums over what is carried over one by one. -/
theorem sumL_inj {α β : Type} [BEq β] [LawfulBEq β] {l : List α} {m : List β} (ι : α → β) (hn : (l.map ι).Nodup) (hs : ∀ a ∈ l, ι a ∈ m) (f : β → Nat) : sumL l (fun a => f (ι a)) ≤ sumL m f := by
  rw [← sumL_map l ι f]
  exact sumL_sub hn fun b hb => by obtain ⟨a, ha, rfl⟩ := List.mem_map.1 hb; exact hs a ha

theorem map_nodup {α β : Type} {l : List α} {ι : α → β} (hn : l.Nodup) (hi : ∀ a ∈ l, ∀ b ∈ l, ι a = ι b → a = b) : (l.map ι).Nodup := by
  unfold List.Nodup at *
  rw [List.pairwise_map]
  exact List.Pairwise.imp_of_mem (fun {a b} ha hb h e => h (hi a ha b hb e)) hn

theorem stas_nodup (x : Acs) : (stas x).Nodup := by
  unfold stas List.Nodup
  rw [List.pairwise_flatMap]
  refine ⟨fun t _ => ?_, ?_⟩
  · rw [List.pairwise_flatMap]
    refine ⟨fun a _ => ?_, ?_⟩
    · rw [List.pairwise_flatMap]
      refine ⟨fun b _ => by split <;> simp, ?_⟩
      refine List.pairwise_lt_range.imp fun {b b'} h u hu v hv e => ?_
      split at hu
      · split at hv
        · simp only [List.mem_singleton] at hu hv
          rw [hu, hv] at e
          simp at e; omega
        · simp at hv
      · simp at hu
    · refine List.pairwise_lt_range.imp fun {a a'} h u hu v hv e => ?_
      obtain ⟨b, _, hu⟩ := List.mem_flatMap.1 hu
      obtain ⟨b', _, hv⟩ := List.mem_flatMap.1 hv
      split at hu
      · split at hv
        · simp only [List.mem_singleton] at hu hv
          rw [hu, hv] at e
          simp at e; omega
        · simp at hv
      · simp at hu
  · refine List.pairwise_lt_range.imp fun {t t'} h u hu v hv e => ?_
    obtain ⟨a, _, hu⟩ := List.mem_flatMap.1 hu
    obtain ⟨b, _, hu⟩ := List.mem_flatMap.1 hu
    obtain ⟨a', _, hv⟩ := List.mem_flatMap.1 hv
    obtain ⟨b', _, hv⟩ := List.mem_flatMap.1 hv
    split at hu
    · split at hv
      · simp only [List.mem_singleton] at hu hv
        rw [hu, hv] at e
        simp at e; omega
      · simp at hv
    · simp at hu

/-- Circles that are carried over. -/
theorem nC_le {x y : Acs} (ι : Sta → Sta) (hi : ∀ a ∈ stas y, ∀ b ∈ stas y, ι a = ι b → a = b) (hs : ∀ a ∈ stas y, isSt x (ι a) = true)
    (h2 : ∀ r ∈ stas y, ∀ s ∈ stas y, c2 x (ι r) (ι s) = c2 y r s) (h3 : ∀ r ∈ stas y, ∀ s ∈ stas y, ∀ q ∈ stas y, c3 x (ι r) (ι s) (ι q) = c3 y r s q) : nC y ≤ nC x := by
  have hn := map_nodup (stas_nodup y) hi
  have hm : ∀ a ∈ stas y, ι a ∈ stas x := fun a ha => mem_stas.2 (hs a ha)
  have inj : ∀ f : Sta → Nat, sumL (stas y) (fun a => f (ι a)) ≤ sumL (stas x) f := sumL_inj ι hn hm
  unfold nC
  refine Nat.add_le_add ?_ ?_
  · refine Nat.le_trans (Nat.le_of_eq (sumL_congr (g := fun r => sumL (stas y) fun s => (c2 x (ι r) (ι s)).toNat) fun r hr => sumL_congr fun s hs => by rw [h2 r hr s hs])) ?_
    refine Nat.le_trans (sumL_mono (g := fun r => sumL (stas x) fun s => (c2 x (ι r) s).toNat) fun r _ => inj fun s => (c2 x (ι r) s).toNat) ?_
    exact inj fun r => sumL (stas x) fun s => (c2 x r s).toNat
  · refine Nat.le_trans (Nat.le_of_eq (sumL_congr (g := fun r => sumL (stas y) fun s => sumL (stas y) fun q => (c3 x (ι r) (ι s) (ι q)).toNat) fun r hr => sumL_congr fun s hs => sumL_congr fun q hq => by rw [h3 r hr s hs q hq])) ?_
    refine Nat.le_trans (sumL_mono (g := fun r => sumL (stas x) fun s => sumL (stas x) fun q => (c3 x (ι r) s q).toNat) fun r _ => ?_) ?_
    · refine Nat.le_trans (sumL_mono (g := fun s => sumL (stas x) fun q => (c3 x (ι r) (ι s) q).toNat) fun s _ => inj fun q => (c3 x (ι r) (ι s) q).toNat) ?_
      exact inj fun s => sumL (stas x) fun q => (c3 x (ι r) s q).toNat
    · exact inj fun r => sumL (stas x) fun s => sumL (stas x) fun q => (c3 x r s q).toNat

/-! ### Conflicts, as a sum over accesses -/
def accs (x : Acs) : List (Nat × Nat) := (List.range x.length).flatMap fun t => (List.range (x.getD t []).length).map fun a => (t, a)
def cfl (x : Acs) (p q : Nat × Nat) : Nat := if q.1 < p.1 then (conf x (p.1 : Int) (p.2 : Int) (q.1 : Int) (q.2 : Int)).toNat else 0
/-! ### Without an access -/
def lessA (x : Acs) (t a : Nat) : Acs := (List.range x.length).map fun k => if k = t then (x.getD k []).take a ++ (x.getD k []).drop (a + 1) else x.getD k []
def upA (t a : Nat) (u b : Nat) : Nat := if u = t ∧ a ≤ b then b + 1 else b

/-- Where an access stands with the one that is gone. -/
def upI (t a : Nat) (u b : Int) : Int := (upA t a u.toNat b.toNat : Nat)
def upS (t a : Nat) (s : Sta) : Sta := (s.1, upI t a s.1 s.2.1, upI t a s.1 s.2.2)

section
variable {x : Acs} {t a : Nat} (ht : t < x.length) (ha : a < (x.getD t []).length)
include ht ha

end

end Go.Proofs.Ytdicomoggfhbfaa
