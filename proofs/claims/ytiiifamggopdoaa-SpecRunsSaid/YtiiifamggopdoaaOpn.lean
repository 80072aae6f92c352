/-
  What an argument of a law is, read off the row's premises: a specification, a slice of integers.
-/
import Derived.Test.YtiiifamggopdoaaBase
import Derived.Test.YtiiifamggopdoaaProg
import Derived.ProofKit
import Derived.Deep.Matrix
import Derived.Lib.SmallJoins
import Derived.SizedLaws
namespace Go.Proofs.Ytiiifamggopdoaa
open Go.ChangeShapes Go.WideShapes Go.ChangeAt Go.RowKit Go.Deep Go.Joins

set_option linter.constructorNameAsVariable false

theorem Try.cellsInt : Try.prog.cellsOf 3 = 1 := by kernel_rfl
theorem Try.cellsInts : Try.prog.cellsOf 25 = 1 := by kernel_rfl
theorem Try.bytesInt : Try.prog.bytesOf 3 = 8 := by kernel_rfl
theorem Try.bytesInts : Try.prog.bytesOf 25 = 24 := by kernel_rfl
theorem Try.cellsSpec : Try.prog.cellsOf 24 = 4 := by kernel_rfl

theorem weightsAll_mem {H : Type} {P : Program} {e : TypeId} {d : DataW H} {n : Nat} (hn : n ∈ d.weights P e) : ∀ {l : List (DataW H)}, d ∈ l → n ∈ DataW.weightsAll P e l
  | [], h => by simp at h
  | x :: r, h => by
    rw [DataW.weightsAll, List.mem_append]
    rcases List.mem_cons.1 h with rfl | h
    · exact .inl hn
    · exact .inr (weightsAll_mem hn h)

theorem reach_eq : reachBytes = 140737488351232 := by decide

section
variable {H : Type} {enc : TypeId × Value → H} {W : World}

theorem ints_len {zs : List Int} {L : Nat} (h : ∀ n ∈ (DataW.slice (lits (H := H) .i64 (zs.take L)) (lits .i64 (zs.drop L))).weights Try.prog 25, n ≤ reachBytes) : zs.length ≤ 17592186044416 := by
  have := h (((lits (H := H) .i64 (zs.take L)).length + (lits (H := H) .i64 (zs.drop L)).length) * Try.prog.bytesOf 3) (by simp [DataW.weights, Try.underlying25])
  rw [Try.bytesInt, reach_eq] at this
  simp only [lits, List.length_map, List.length_take, List.length_drop] at this
  omega

theorem ints_of_cells {a : Addr} {L C : Nat} {zs : List Int} (hl : L ≤ C) (hz : zs.length = C) (hb : zs.length ≤ 17592186044416) (hc : ∀ c, c < C → W.cell? (a.add c) = some (.int .i64 (zs.getD c 0))) : Ints W (.slice (some a) L C) (zs.take L) := by
  have hlen : (zs.take L).length = L := by rw [List.length_take]; omega
  refine ⟨some a, C, by rw [hlen], by omega, by omega, fun hp => ?_⟩
  obtain ⟨b, off, spot⟩ := a
  have hspot : spot = none := by simpa [Addr.add] using World.cell?_spot (hc 0 (by omega))
  subst hspot
  refine ⟨b, off, rfl, fun i x hx => ?_⟩
  have hi := lt_of_get hx
  have := hc i (by omega)
  rw [add_none] at this
  rw [this]
  rw [List.getElem?_take] at hx
  split at hx
  · rw [List.getD_eq_getElem?_getD, hx]; rfl
  · cases hx

theorem open_intsN {fuel : Nat} {v : Value} {y : DataW H × List MemPlace} (hwt : ∀ n ∈ y.1.weights Try.prog 25, n ≤ reachBytes) (h : DataW.trod enc Try.prog W 0 (fun _ => true) true fuel 25 [v] = some y) : ∃ xs, Ints W v xs := by
  rcases open_ints Try.underlying25 Try.underlying3 Try.cellsInt h with ⟨hcs, _⟩ | ⟨a, len, cap, zs, hcs, _, hl, _, hz, hx, hcell, _⟩
  · obtain rfl : v = .slice none 0 0 := by simpa using hcs
    exact ⟨[], Ints.nil W⟩
  · obtain rfl : v = .slice (some a) len cap := by simpa using hcs
    subst hx
    simp only [if_true] at hz
    exact ⟨_, ints_of_cells hl hz (ints_len hwt) (fun c hc => hcell c (by omega))⟩

theorem open_tabN {fuel : Nat} {v : Value} {y : DataW H × List MemPlace} (hwt : ∀ n ∈ y.1.weights Try.prog 22, n ≤ reachBytes) (h : DataW.trod enc Try.prog W 0 (fun _ => true) true fuel 22 [v] = some y) :
    ∃ (rs : List (List Int)) (a : Option Addr) (c : Nat), v = .slice a rs.length c ∧ Mat W (.slice a rs.length c) rs := by
  rcases open_int_rows Try.underlying22 Try.underlying25 Try.underlying3 Try.cellsInts Try.cellsInt h with ⟨hcs, _⟩ | ⟨a, len, cap, A, L, C, Z, hcs, _, hl, _, hx, hrow⟩
  · obtain rfl : v = .slice none 0 0 := by simpa using hcs
    exact ⟨[], none, 0, rfl, none, 0, rfl, by simp, by simp, by simp⟩
  · obtain rfl : v = .slice (some a) len cap := by simpa using hcs
    subst hx
    have hlen : ((List.range len).map fun r => (Z r).take (L r)).length = len := by simp
    refine ⟨(List.range len).map fun r => (Z r).take (L r), some a, cap, by rw [hlen], some a, cap, rfl, by rw [hlen]; exact hl, ?_, fun hp => ?_⟩
    · have := hwt ((((List.range len).map fun r => intRow (H := H) .i64 (A r) (L r) (Z r)).length + ((List.range (cap - len)).map fun j => intRow (H := H) .i64 (A (len + j)) (L (len + j)) (Z (len + j))).length) * Try.prog.bytesOf 25) (by simp [DataW.weights, Try.underlying22])
      rw [Try.bytesInts, reach_eq] at this
      simp only [List.length_map, List.length_range] at this
      rw [hlen]; omega
    · rw [hlen] at hp
      obtain ⟨b, off, spot⟩ := a
      have hspot : spot = none := by simpa [Addr.add] using World.cell?_spot (hrow 0 (by omega)).1
      subst hspot
      refine ⟨b, off, rfl, fun i r hr => ?_⟩
      have hi : i < len := by have := lt_of_get hr; simpa using this
      obtain rfl : (Z i).take (L i) = r := by simpa [hi] using hr
      obtain ⟨h1, h2, _, h4, _, h6, h7⟩ := hrow i (by omega)
      have hr2 : ((Z i).take (L i)).length = L i := by rw [List.length_take]; omega
      rw [add_none] at h1
      rw [hr2]
      refine ⟨A i, C i, h1, ?_⟩
      cases hA : A i with
      | none =>
        have := h6 hA
        have hL : L i = 0 := by omega
        rw [this, hL, List.take_zero]
        exact Ints.nil W
      | some a' =>
        refine ints_of_cells h2 h4 (ints_len (H := H) (L := L i) fun n hn => hwt n ?_) (h7 a' hA).2
        have hm : intRow (H := H) .i64 (A i) (L i) (Z i) ∈ (List.range len).map fun r => intRow (H := H) .i64 (A r) (L r) (Z r) := List.mem_map.2 ⟨i, List.mem_range.2 hi, rfl⟩
        have hn' : n ∈ (intRow (H := H) .i64 (A i) (L i) (Z i)).weights Try.prog 25 := by rw [hA]; exact hn
        have := weightsAll_mem hn' hm
        simp only [DataW.weights, Try.underlying22, List.mem_cons, List.mem_append]
        exact .inr (.inl this)

set_option maxRecDepth 100000 in
theorem open_specN {v : Value} {d : DataW H} {p : List MemPlace} {r : Reach} {b0 : Nat} (hv : Value.okWide Try.prog W r b0 24 v) (hwt : ∀ n ∈ d.weights Try.prog 24, n ≤ reachBytes) (h : DataW.Trod enc Try.prog W 0 (fun _ => true) true 24 v d p) : ∃ S, IsSp W v S := by
  obtain ⟨c0, c1, c2, c3, y0, y1, y2, y3, m, rfl, rfl, _, hy0, hy1, hy2, hy3⟩ := open_agg4 Try.underlying24 (by kernel_rfl) Try.cellsSpec hv h
  obtain ⟨x, e0, _, _⟩ := DataW.trod_int Try.underlying3 hy0
  obtain ⟨y, e1, _, _⟩ := DataW.trod_int Try.underlying3 hy1
  simp at e0 e1
  subst e0 e1
  have hw2 : ∀ n ∈ y2.1.weights Try.prog 22, n ≤ reachBytes := fun n hn => hwt n (by simp [DataW.weights, DataW.weightsEach, Try.underlying24, hn])
  have hw3 : ∀ n ∈ y3.1.weights Try.prog 22, n ≤ reachBytes := fun n hn => hwt n (by simp [DataW.weights, DataW.weightsEach, Try.underlying24, hn])
  obtain ⟨nx, na, nc, rfl, hn⟩ := open_tabN hw2 hy2
  obtain ⟨sy, sa, sc, rfl, hs⟩ := open_tabN hw3 hy3
  exact ⟨⟨x, y, nx, sy⟩, na, nc, sa, sc, rfl, hn, hs⟩
end
end Go.Proofs.Ytiiifamggopdoaa
