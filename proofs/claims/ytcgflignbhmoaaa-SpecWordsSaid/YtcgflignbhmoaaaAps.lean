/-
  The first of the shortest words that two specifications answer otherwise, as a walk over pairs finds it. No program is named here.
-/
import Derived.Test.YtcgflignbhmoaaaBfs
namespace Go.Proofs.Ytcgflignbhmoaaa

/-- The first call that two states answer otherwise. -/
def fstDiff (M N : Sp) (p : Int × Int) : Option Nat := (List.range M.op.toNat).find? fun o => at2 M.sy p.1 o != at2 N.sy p.2 o

def apartL (M N : Sp) : List Elt → Option (List Int)
  | [] => none
  | e :: r => match fstDiff M N e.1 with
    | some o => some (e.2 ++ [(o : Int)])
    | none => apartL M N r

def apartP (M N : Sp) (f : Int × Int) : Option (List Int) := apartL M N (bfs M N f)

theorem fstDiff_none {M N : Sp} {p : Int × Int} (h : ∀ o : Nat, (o : Int) < M.op → at2 M.sy p.1 o = at2 N.sy p.2 o) : fstDiff M N p = none := by
  unfold fstDiff
  rw [List.find?_eq_none]
  intro o ho
  have := List.mem_range.1 ho
  simp [h o (by omega)]

theorem fstDiff_some {M N : Sp} {p : Int × Int} {o : Nat} (ho : (o : Int) < M.op) (h : ∀ i : Nat, i < o → at2 M.sy p.1 i = at2 N.sy p.2 i) (hd : at2 M.sy p.1 o ≠ at2 N.sy p.2 o) : fstDiff M N p = some o := by
  unfold fstDiff
  have hs : List.range M.op.toNat = List.range o ++ (o :: (List.range (M.op.toNat - o - 1)).map (· + (o + 1))) := by
    rw [show M.op.toNat = o + (M.op.toNat - o - 1 + 1) from by omega, List.range_add, List.range_succ_eq_map]
    simp only [List.map_cons, List.map_map, Nat.add_zero]
    congr 2
    rw [show o + (M.op.toNat - o - 1 + 1) - o - 1 = M.op.toNat - o - 1 from by omega]
    refine List.map_congr_left fun x _ => ?_
    simp; omega
  rw [hs, List.find?_append, List.find?_eq_none.2 (fun i hi => by simp [h i (List.mem_range.1 hi)])]
  simp [hd]

theorem apartL_none {M N : Sp} : ∀ {l : List Elt}, (∀ e ∈ l, fstDiff M N e.1 = none) → apartL M N l = none
  | [], _ => rfl
  | e :: r, h => by
    unfold apartL
    rw [h e (by simp)]
    exact apartL_none fun x hx => h x (by simp [hx])

theorem apartL_some {M N : Sp} {e : Elt} {o : Nat} (ho : fstDiff M N e.1 = some o) : ∀ {pre : List Elt} {suf : List Elt}, (∀ e ∈ pre, fstDiff M N e.1 = none) → apartL M N (pre ++ e :: suf) = some (e.2 ++ [(o : Int)])
  | [], suf, _ => by simp [apartL, ho]
  | x :: r, suf, h => by
    simp only [List.cons_append, apartL]
    rw [h x (by simp)]
    exact apartL_some ho fun y hy => h y (by simp [hy])
end Go.Proofs.Ytcgflignbhmoaaa
