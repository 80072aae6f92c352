/-
  The order of steps, called with two of them: what it answers, and which blocks it lays.
-/
import Derived.Test.YtifleoceebaooaaTbr
import Derived.Deep.Draws
import Derived.Sort.Grow
namespace Go.Proofs.Ytifleoceebaooaa
open Go.RowKit Go.Sort

set_option linter.unusedSimpArgs false
set_option linter.unusedVariables false

def orI (p q r : Int) : Int := if p ≠ 0 then p else if q ≠ 0 then q else r

set_option maxRecDepth 100000 in
set_option maxHeartbeats 2000000 in
theorem or_at (p q r : Int) (W : World) (g : Nat) (c0 : W.cell? ⟨g, 0, none⟩ = some (.int .i64 p)) (c1 : W.cell? ⟨g, 1, none⟩ = some (.int .i64 q)) (c2 : W.cell? ⟨g, 2, none⟩ = some (.int .i64 r)) :
    Calls Try.prog 133 #[.slice (some ⟨g, 0, none⟩) 3 3] W fun e w' => e = .returned (.int .i64 (orI p q r)) ∧ w' = W := by
  go_enter Try.func133, Try.ntmps133
  go_wp2_with fail
  refine wp_loop_rounds 4 ?_
  rw [rounds_succ]
  go_wp2_with fail
  · go_ret
    refine ⟨?_, rfl⟩
    simp_all [orI]
  rw [rounds_succ]
  go_wp2_with fail
  · go_ret
    refine ⟨?_, rfl⟩
    simp_all [orI]
  rw [rounds_succ]
  go_wp2_with fail
  · go_ret
    refine ⟨?_, rfl⟩
    simp_all [orI]
  rw [rounds_succ]
  go_wp2_with fail
  go_ret
  refine ⟨?_, rfl⟩
  simp_all [orI]

/-- Numbers whose differences are numbers. -/
def smI (n : Int) : Prop := -1000000000000 ≤ n ∧ n ≤ 1000000000000
def smS (z : Int × Int × Int) : Prop := smI z.1 ∧ smI z.2.1 ∧ smI z.2.2

def cmpS (x y : Int × Int × Int) : Int := orI (x.1 - y.1) (x.2.1 - y.2.1) (x.2.2 - y.2.2)

def encS (z : Int × Int × Int) : List Value := [.int .i64 z.1, .int .i64 z.2.1, .int .i64 z.2.2]

theorem wrap_sub {a b : Int} (h : smI a) (k : smI b) : IntKind.i64.wrap (a - b) = a - b := by
  unfold smI at h k
  simp only [IntKind.wrap, IntKind.signed, IntKind.bits]; simp; omega

theorem al_cell (w : World) (vs : Array Value) (t : TypeId) (n i : Nat) (u : Value) (hn : n = w.heap.size) (hu : vs[i]? = some u) : (w.alloc (.cells vs t)).cell? ⟨n, i, none⟩ = some u := by
  subst hn
  unfold World.cell? World.alloc
  simp only [Array.getElem?_push_size]
  exact hu

theorem al_size (w : World) (o : Obj) : (w.alloc o).heap.size = w.heap.size + 1 := by
  unfold World.alloc
  simp only [Array.size_push]

set_option maxRecDepth 100000 in
set_option maxHeartbeats 2000000 in
theorem cmp_at {x y : Int × Int × Int} (hx : smS x) (hy : smS y) (W : World) :
    Calls Try.prog 124 #[.agg #[.int .i64 x.1, .int .i64 x.2.1, .int .i64 x.2.2], .agg #[.int .i64 y.1, .int .i64 y.2.1, .int .i64 y.2.2]] W
      fun e w' => e = .returned (.int .i64 (cmpS x y)) ∧ ∃ q os', w' = grow (W.drewN q) os' := by
  have w1 := wrap_sub hx.1 hy.1
  have w2 := wrap_sub hx.2.1 hy.2.1
  have w3 := wrap_sub hx.2.2 hy.2.2
  clear hx hy
  go_enter Try.func124, Try.ntmps124
  go_wp2_with fail
  refine (or_at (x.1 - y.1) (x.2.1 - y.2.1) (x.2.2 - y.2.2) _ _ ?_ ?_ ?_).mono ?_
  · exact al_cell _ _ _ _ _ _ (by rw [al_size, al_size]) rfl
  · exact al_cell _ _ _ _ _ _ (by rw [al_size, al_size]) rfl
  · exact al_cell _ _ _ _ _ _ (by rw [al_size, al_size]) rfl
  rintro e w' ⟨rfl, rfl⟩
  go_wp2_with fail
  go_ret
  exact ⟨rfl, 0, _, by rw [alloc_eq_grow, alloc_eq_grow, alloc_eq_grow, grow_grow, grow_grow]; rfl⟩

end Go.Proofs.Ytifleoceebaooaa
