/-
  A map that the call made, from pairs of integers to bools, which only grows: its entries are known in the order in which they came. No program is named here.
-/
import Derived.Test.YtiiifamggopdoaaRng
import Derived.Maps.OwnIn
import Derived.WideKeyPair
namespace Go.Proofs.Ytiiifamggopdoaa
open Go.RowKit Go.Maps

def pairV (p : Int × Int) : Value := .agg #[.int .i64 p.1, .int .i64 p.2]

/-- Block b of w is a map whose keys are the pairs ps, in this order, each with true. -/
def Seen (P : Program) (k : TypeId) (w : World) (b : Nat) (ps : List (Int × Int)) : Prop :=
  ∃ (es : Array MapEntry) (clock : Nat), w.heap[b]? = some (.map es clock) ∧ es.toList.map (fun e => (e.key, e.val)) = ps.map (fun p => (pairV p, Value.bool true)) ∧ ∀ p ∈ ps, ∃ l, keyOf P k (pairV p) = some l

variable {P : Program} {k t e : TypeId} {w : World} {b : Nat} {ps : List (Int × Int)}

theorem pairV_inj {p q : Int × Int} (h : pairV p = pairV q) : p = q := by
  simp [pairV] at h
  exact Prod.ext h.1 h.2

theorem Seen.lt (h : Seen P k w b ps) : b < w.heap.size := by
  obtain ⟨es, c, hb, _⟩ := h
  exact (Array.getElem?_eq_some_iff.1 hb).1

theorem Seen.kp {w' : World} {R : Nat → Prop} (h : Seen P k w b ps) (hk : Kp R w w') (hR : R b) : Seen P k w' b ps := by
  have hl := h.lt
  obtain ⟨es, c, hb, r⟩ := h
  exact ⟨es, c, (hk.block b hR hl).trans hb, r⟩

theorem seen_made (w : World) (n : Nat) (hn : n = w.heap.size) : Seen P k (w.alloc (.map #[] 0)) n [] := by
  subst hn
  exact ⟨#[], 0, (MapKept.heap_alloc w _).1, rfl, by simp⟩

theorem Seen.find (K : Keyed P k) (h : Seen P k w b ps) {p : Int × Int} {l : Lit} (hkey : keyOf P k (pairV p) = some l) {es : Array MapEntry} {clock : Nat} (hb : w.heap[b]? = some (.map es clock)) :
    ((Instr.findKey k (pairV p) es.toList).run P w = .ok none w ∧ p ∉ ps) ∨ (∃ j e, (Instr.findKey k (pairV p) es.toList).run P w = .ok (some (j, e.val)) w ∧ es.toList[j]? = some e ∧ e.val = .bool true ∧ p ∈ ps) := by
  obtain ⟨es', clock', hb', hm, hk⟩ := h
  rw [hb] at hb'
  obtain ⟨rfl, rfl⟩ : es = es' ∧ clock = clock' := by injection hb' with h1; injection h1 with h2 h3; exact ⟨h2, h3⟩
  have hin : ∀ x ∈ es.toList, ∃ q ∈ ps, x.key = pairV q ∧ x.val = .bool true := fun x hx => by
    have : (x.key, x.val) ∈ ps.map (fun p => (pairV p, Value.bool true)) := by rw [← hm]; exact List.mem_map.2 ⟨x, hx, rfl⟩
    obtain ⟨q, hq, e1⟩ := List.mem_map.1 this
    injection e1 with e2 e3
    exact ⟨q, hq, e2.symm, e3.symm⟩
  have hout : ∀ q ∈ ps, ∃ x ∈ es.toList, x.key = pairV q := fun q hq => by
    have : (pairV q, Value.bool true) ∈ es.toList.map (fun e => (e.key, e.val)) := by rw [hm]; exact List.mem_map.2 ⟨q, hq, rfl⟩
    obtain ⟨x, hx, e1⟩ := List.mem_map.1 this
    injection e1 with e2 e3
    exact ⟨x, hx, e2⟩
  rcases K.find w hkey es.toList (fun x hx => by obtain ⟨q, hq, e1, _⟩ := hin x hx; rw [e1]; exact hk q hq) with ⟨h1, h2⟩ | ⟨j, e0, h1, h2, h3⟩
  · refine .inl ⟨h1, fun hp => ?_⟩
    obtain ⟨x, hx, e1⟩ := hout p hp
    exact h2 x hx e1
  · obtain ⟨q, hq, e1, e2⟩ := hin e0 (List.mem_of_getElem? h2)
    refine .inr ⟨j, e0, h1, h2, e2, ?_⟩
    rw [h3] at e1
    rw [pairV_inj e1]; exact hq

theorem Seen.look (K : Keyed P k) (ht : P.underlying t = some (.map k e)) (hz : (zeroValue e).run P w = .ok (.bool false) w) (h : Seen P k w b ps) {p : Int × Int} {l : Lit} (hkey : keyOf P k (pairV p) = some l) :
    (Instr.lookup t (.map (some b)) (pairV p) false).run P w = .ok (.bool (decide (p ∈ ps))) w := by
  have h' := h
  obtain ⟨es, clock, hb, _⟩ := h'
  rcases h.find K hkey hb with ⟨h1, h2⟩ | ⟨j, e0, h1, h2, h3, h4⟩
  · simp [Instr.lookup, run_underlying ht, MapKept.run_getObj_map hb, K.check w _ hkey, h1, hz, Result.andThen, h2]
  · simp [Instr.lookup, run_underlying ht, MapKept.run_getObj_map hb, K.check w _ hkey, h1, Result.andThen, h3, h4]

theorem Seen.put (K : Keyed P k) (ht : P.underlying t = some (.map k e)) (h : Seen P k w b ps) {p : Int × Int} {l : Lit} (hkey : keyOf P k (pairV p) = some l) (hp : p ∉ ps) :
    ∃ w', (Instr.mapUpdate t (.map (some b)) (pairV p) (.bool true)).run P w = .ok () w' ∧ Seen P k w' b (ps ++ [p]) ∧ w.grownBy w' (some b) := by
  have h' := h
  obtain ⟨es, clock, hb, hm, hk⟩ := h'
  rcases h.find K hkey hb with ⟨h1, _⟩ | ⟨j, e0, h1, h2, h3, h4⟩
  · refine ⟨_, by simp [Instr.mapUpdate, run_underlying ht, MapKept.run_getObj_map hb, K.check w false hkey, h1, MapKept.run_setObj_map _ hb, Result.andThen]; rfl, ⟨es.push ⟨pairV p, .bool true, clock⟩, clock + 1, ChangeMaps.heap_setBlock_same hb _, ?_, ?_⟩, ⟨rfl, rfl, rfl, by simp [ChangeMaps.setBlock], fun i _ hi => ChangeMaps.heap_setBlock_other hb _ (fun e => hi (by rw [e]))⟩⟩
    · simp [hm]
    · intro q hq
      rcases List.mem_append.1 hq with hq | hq
      · exact hk q hq
      · simp at hq; subst hq; exact ⟨l, hkey⟩
  · exact absurd h4 hp

/-- 'm[k]' in a walk inside a fence. -/
theorem wpListIn_look_seen {F : Fence} {nF : Nat} {ops : Array Oper} {rest : List Oper} {o : Oper} {a : Act} {Q : Exit → Act → World → Prop}
    (hg : o.guard = none) (m x : Operand) (t : TypeId) (hop : o.op = Op.lookup t m x false) (k e : TypeId) (K : Keyed P k) (ht : P.underlying t = some (.map k e)) (hz : (zeroValue e).run P w = .ok (.bool false) w) (b : Nat) (ps : List (Int × Int))
    (hm : a.eval m = .map (some b)) (h : Seen P k w b ps) (p : Int × Int) (l : Lit) (hx : a.eval x = pairV p) (hkey : keyOf P k (pairV p) = some l)
    (hK : wpListIn F nF P ops Q rest (a.put o.dst (.bool (decide (p ∈ ps)))) w) : wpListIn F nF P ops Q (o :: rest) a w := by
  refine wpListIn_plain hg fun K' hK' => ?_
  have hrun := h.look K ht hz hkey
  unfold Oper.wpIn
  refine ⟨by simp [Oper.about, hop], ?_⟩
  rw [Oper.semAt_plain F _ _ (by rw [hop]; intro c hc'; cases hc')]
  simp only [execOp, hop, hm, hx]
  simp [hrun, Result.andThen]
  exact hK' _ _ hK

/-- 'm[k] = true' in a walk inside a fence. -/
theorem wpListIn_put_seen {F : Fence} {nF : Nat} {ops : Array Oper} {rest : List Oper} {o : Oper} {a : Act} {Q : Exit → Act → World → Prop}
    (hg : o.guard = none) (m x v : Operand) (t : TypeId) (hop : o.op = Op.mapUpdate t m x v ∨ o.op = Op.insert t m x v) (k e : TypeId) (K : Keyed P k) (ht : P.underlying t = some (.map k e)) (b : Nat) (ps : List (Int × Int))
    (hm : a.eval m = .map (some b)) (h : Seen P k w b ps) (p : Int × Int) (l : Lit) (hx : a.eval x = pairV p) (hv : a.eval v = .bool true) (hkey : keyOf P k (pairV p) = some l) (hp : p ∉ ps)
    (hK : ∀ w', Seen P k w' b (ps ++ [p]) → w.grownBy w' (some b) → wpListIn F nF P ops Q rest (a.put o.dst undef) w') : wpListIn F nF P ops Q (o :: rest) a w := by
  refine wpListIn_plain hg fun K' hK' => ?_
  obtain ⟨w', hrun, r1, r2⟩ := h.put K ht hkey hp
  unfold Oper.wpIn
  rcases hop with hop | hop
  all_goals
    refine ⟨by simp [Oper.about, hop], ?_⟩
    rw [Oper.semAt_plain F _ _ (by rw [hop]; intro c hc'; cases hc')]
    simp only [execOp, hop, hm, hx, hv]
    simp [hrun, Result.andThen]
    exact hK' _ _ (hK w' r1 r2)
end Go.Proofs.Ytiiifamggopdoaa
