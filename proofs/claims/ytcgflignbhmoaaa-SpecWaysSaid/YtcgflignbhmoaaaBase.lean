/-
  Memory predicates over slices of integers and specifications, and small lemmas on worlds. No program is named here.
-/
import Derived.WalkKit
import Derived.WalkSpells
import Derived.WalkSmall
import Derived.Lib.Hide
namespace Go.Proofs.Ytcgflignbhmoaaa
open Go.RowKit

theorem cell_lt {w : World} {a : Addr} {v : Value} (h : w.cell? a = some v) : a.block < w.heap.size := by
  unfold World.cell? at h
  cases ho : w.heap[a.block]? with
  | none => simp [ho] at h
  | some o => exact (Array.getElem?_eq_some_iff.1 ho).1

theorem get_of_lt {α : Type} {xs : List α} {k : Nat} (h : k < xs.length) : ∃ x, xs[k]? = some x := ⟨xs[k], by simp [h]⟩
theorem lt_of_get {α : Type} {xs : List α} {k : Nat} {x : α} (h : xs[k]? = some x) : k < xs.length := (List.getElem?_eq_some_iff.1 h).1

/-- Block b of w is a row of cells, none of them frozen. -/
def Blk (w : World) (b : Nat) (cs : Array Value) (t : TypeId) : Prop := w.heap[b]? = some (.cells cs t (0, 0))
theorem Blk.lt {w : World} {b : Nat} {cs : Array Value} {t : TypeId} (h : Blk w b cs t) : b < w.heap.size := (Array.getElem?_eq_some_iff.1 h).1
theorem Blk.alloc {w : World} {b : Nat} {cs : Array Value} {t : TypeId} (h : Blk w b cs t) (o : Obj) : Blk (w.alloc o) b cs t := (Below.heap_alloc w o b h.lt).trans h
theorem Blk.below {w w' : World} {b : Nat} {cs : Array Value} {t : TypeId} (h : Blk w b cs t) (hb : Below w.heap.size w w') : Blk w' b cs t := (hb.block b h.lt).trans h
theorem Blk.cell {w : World} {b : Nat} {cs : Array Value} {t : TypeId} (h : Blk w b cs t) {i : Nat} {v : Value} (hi : cs[i]? = some v) : w.cell? ⟨b, i, none⟩ = some v := by
  have h' : w.heap[b]? = some (.cells cs t (0, 0)) := h
  simp [World.cell?, h', hi]
/-- A slice value over the integers xs, in the world w. -/
def Ints (w : World) (v : Value) (xs : List Int) : Prop :=
  ∃ (a : Option Addr) (c : Nat), v = .slice a xs.length c ∧ xs.length ≤ c ∧ xs.length ≤ 17592186044416 ∧
    (0 < xs.length → ∃ b off, a = some ⟨b, off, none⟩ ∧ ∀ i x, xs[i]? = some x → w.cell? ⟨b, off + i, none⟩ = some (.int .i64 x))

theorem Ints.below {w w' : World} {v : Value} {xs : List Int} (h : Ints w v xs) (hb : Below w.heap.size w w') : Ints w' v xs := by
  obtain ⟨a, c, h1, h2, h3, h4⟩ := h
  refine ⟨a, c, h1, h2, h3, fun hp => ?_⟩
  obtain ⟨b, off, ha, hc⟩ := h4 hp
  exact ⟨b, off, ha, fun i x hx => (hb.cell (p := ⟨b, off + i, none⟩) (cell_lt (hc i x hx))).trans (hc i x hx)⟩

theorem Ints.nil (w : World) : Ints w (.slice none 0 0) [] := ⟨none, 0, rfl, by simp, by simp, by simp⟩

theorem Ints.len {w : World} {a : Option Addr} {n c : Nat} {xs : List Int} (h : Ints w (.slice a n c) xs) : n = xs.length := by
  obtain ⟨a', c', h1, _⟩ := h; injection h1

/-- A slice value over the rows rs, in the world w. -/
def Mat (w : World) (v : Value) (rs : List (List Int)) : Prop :=
  ∃ (a : Option Addr) (c : Nat), v = .slice a rs.length c ∧ rs.length ≤ c ∧ rs.length ≤ 17592186044416 ∧
    (0 < rs.length → ∃ b off, a = some ⟨b, off, none⟩ ∧ ∀ i r, rs[i]? = some r → ∃ a' c', w.cell? ⟨b, off + i, none⟩ = some (.slice a' r.length c') ∧ Ints w (.slice a' r.length c') r)

theorem Mat.below {w w' : World} {v : Value} {rs : List (List Int)} (h : Mat w v rs) (hb : Below w.heap.size w w') : Mat w' v rs := by
  obtain ⟨a, c, h1, h2, h3, h4⟩ := h
  refine ⟨a, c, h1, h2, h3, fun hp => ?_⟩
  obtain ⟨b, off, ha, hc⟩ := h4 hp
  refine ⟨b, off, ha, fun i r hr => ?_⟩
  obtain ⟨a', c', g1, g2⟩ := hc i r hr
  exact ⟨a', c', (hb.cell (p := ⟨b, off + i, none⟩) (cell_lt g1)).trans g1, g2.below hb⟩

theorem Mat.row {w : World} {a : Option Addr} {n c : Nat} {rs : List (List Int)} (h : Mat w (.slice a n c) rs) {i : Nat} {r : List Int} (hr : rs[i]? = some r) :
    ∃ b off a' c', a = some ⟨b, off, none⟩ ∧ w.cell? ⟨b, off + i, none⟩ = some (.slice a' r.length c') ∧ Ints w (.slice a' r.length c') r := by
  obtain ⟨a1, c1, h1, _, _, h4⟩ := h
  injection h1 with e1 e2 e3
  have := lt_of_get hr
  obtain ⟨b, off, ha, hc⟩ := h4 (by omega)
  obtain ⟨a', c', g1, g2⟩ := hc i r hr
  exact ⟨b, off, a', c', e1.trans ha, g1, g2⟩

theorem Ints.at {w : World} {a : Option Addr} {n c : Nat} {xs : List Int} (h : Ints w (.slice a n c) xs) {i : Nat} {x : Int} (hx : xs[i]? = some x) :
    ∃ b off, a = some ⟨b, off, none⟩ ∧ w.cell? ⟨b, off + i, none⟩ = some (.int .i64 x) := by
  obtain ⟨a1, c1, h1, _, _, h4⟩ := h
  injection h1 with e1 e2 e3
  have := lt_of_get hx
  obtain ⟨b, off, ha, hc⟩ := h4 (by omega)
  exact ⟨b, off, e1.trans ha, hc i x hx⟩

/-- The data of a specification. -/
structure Sp where
  st : Int
  op : Int
  nx : List (List Int)
  sy : List (List Int)

/-- A specification's value, in the world w. -/
def IsSp (w : World) (v : Value) (S : Sp) : Prop :=
  ∃ (na : Option Addr) (nc : Nat) (sa : Option Addr) (sc : Nat), v = .agg #[.int .i64 S.st, .int .i64 S.op, .slice na S.nx.length nc, .slice sa S.sy.length sc] ∧ Mat w (.slice na S.nx.length nc) S.nx ∧ Mat w (.slice sa S.sy.length sc) S.sy

theorem IsSp.below {w w' : World} {v : Value} {S : Sp} (h : IsSp w v S) (hb : Below w.heap.size w w') : IsSp w' v S := by
  obtain ⟨na, nc, sa, sc, h1, h2, h3⟩ := h
  exact ⟨na, nc, sa, sc, h1, h2.below hb, h3.below hb⟩

/-- A number from 0 to less than n. -/
def inR (n : Int) (x : Int) : Bool := decide (0 ≤ x ∧ x < n)
/-- An answer. -/
def ansB (x : Int) : Bool := decide (0 ≤ x ∧ x ≤ 5)

/-- The table of a specification: a row for each state, in it a number for each call. -/
def tab (st op : Int) (p : Int → Bool) (rs : List (List Int)) : Bool := decide ((rs.length : Int) = st) && rs.all fun r => decide ((r.length : Int) = op) && r.all p

def Sp.ok (S : Sp) : Bool :=
  decide (1 ≤ S.st) && decide (S.st ≤ 8) && decide (1 ≤ S.op) && decide (S.op ≤ 4) && tab S.st S.op (inR S.st) S.nx && tab S.st S.op ansB S.sy

end Go.Proofs.Ytcgflignbhmoaaa
