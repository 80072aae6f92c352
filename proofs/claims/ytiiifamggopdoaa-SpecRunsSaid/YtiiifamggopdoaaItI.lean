/-
  What the walk over pairs keeps in memory while it goes: the pairs found, their words, the pairs seen.
-/
import Derived.Test.YtiiifamggopdoaaMap
import Derived.Test.YtiiifamggopdoaaBfs
import Derived.Test.YtiiifamggopdoaaLon
namespace Go.Proofs.Ytiiifamggopdoaa
open Go.RowKit Go.Maps

theorem own_mono {w : World} {b b' e s : Nat} {v : Value} {n : Nat} {xs : List Value} (h : w.ownsRow b e s v n xs) (hb : b' ≤ b) : w.ownsRow b' e s v n xs := by
  obtain ⟨h1, h2⟩ := h
  refine ⟨h1, h2.imp id ?_⟩
  rintro ⟨g, cap, cur, hv, hg, r⟩
  exact ⟨g, cap, cur, hv, Nat.le_trans hb hg, r⟩

theorem own_kp {A B : World} {R : Nat → Prop} {b e s : Nat} {v : Value} {n : Nat} {xs : List Value} (h : A.ownsRow b e s v n xs) (hk : Kp R A B) (hR : ∀ k, v.ownBlock = some k → R k) : B.ownsRow b e s v n xs := by
  have hlt := h.lt
  obtain ⟨h1, h2⟩ := h
  refine ⟨h1, h2.imp id ?_⟩
  rintro ⟨g, cap, cur, hv, hg, hh, r⟩
  have hv' : v.ownBlock = some g := by subst hv; rfl
  exact ⟨g, cap, cur, hv, hg, (hk.block g (hR g hv') (hlt g hv').2).trans hh, r⟩

theorem own_heap {w : World} {b e s : Nat} {v : Value} {n : Nat} {xs : List Value} (h : w.ownsRow b e s v n xs) {g : Nat} (hg : v.ownBlock = some g) : ∃ cur, w.heap[g]? = some (.cells cur e (0, 0)) := by
  rcases h.2 with ⟨rfl, _⟩ | ⟨g', cap, cur, rfl, _, hh, _⟩
  · cases hg
  · injection hg with hg
    subst hg
    exact ⟨cur, hh⟩

theorem own_ne {w : World} {b e s b' e' s' : Nat} {v v' : Value} {n n' : Nat} {xs xs' : List Value} (h : w.ownsRow b e s v n xs) (h' : w.ownsRow b' e' s' v' n' xs') (hne : e ≠ e') {k : Nat} (hk : v.ownBlock = some k) : some k ≠ v'.ownBlock := by
  intro hk'
  obtain ⟨c, h1⟩ := own_heap h hk
  obtain ⟨c', h2⟩ := own_heap h' hk'.symm
  rw [h1] at h2
  injection h2 with h2
  injection h2 with _ h2
  exact hne h2

theorem own_seen {P : Program} {w : World} {b e s kt sb : Nat} {v : Value} {n : Nat} {xs : List Value} {ps : List (Int × Int)} (h : w.ownsRow b e s v n xs) (hs : Seen P kt w sb ps) {k : Nat} (hk : v.ownBlock = some k) : k ≠ sb := by
  rintro rfl
  obtain ⟨c, h1⟩ := own_heap h hk
  obtain ⟨es, cl, h2, _⟩ := hs
  rw [h1] at h2
  cases h2

def cellsOf (acc : List Elt) : List Value := acc.flatMap fun e => [.int .i64 e.1.1, .int .i64 e.1.2]

theorem cellsOf_get : ∀ (acc : List Elt) (k : Nat) (x : Elt), acc[k]? = some x → (cellsOf acc)[k * 2]? = some (.int .i64 x.1.1) ∧ (cellsOf acc)[k * 2 + 1]? = some (.int .i64 x.1.2)
  | [], k, x, h => by simp at h
  | y :: r, 0, x, h => by simp at h; subst h; simp [cellsOf]
  | y :: r, k + 1, x, h => by
    have := cellsOf_get r k x (by simpa using h)
    simp only [cellsOf, List.flatMap_cons, List.cons_append, List.nil_append] at this ⊢
    rw [show (k + 1) * 2 = k * 2 + 2 from by omega]
    simpa using this

/-- What the walk has in memory: acc is found, ws are the words' values, sb the map of what is seen; all in blocks of D. -/
structure ItInv (D : Nat → Prop) (w : World) (fv wv : Value) (sb : Nat) (acc : List Elt) (ws : List Value) : Prop where
  f : w.ownsRow 0 75 2 fv acc.length (cellsOf acc)
  fD : ∀ k, fv.ownBlock = some k → D k
  g : w.ownsRow 0 25 1 wv acc.length ws
  gD : ∀ k, wv.ownBlock = some k → D k
  row : ∀ (i : Nat) (x : Elt), acc[i]? = some x → ∃ u, ws[i]? = some u ∧ w.ownsRow 0 3 1 u x.2.length (x.2.map (Value.int .i64)) ∧ ∀ k, u.ownBlock = some k → D k
  s : Seen Try.prog 75 w sb (acc.map (·.1))
  sD : D sb

theorem ItInv.kp {D D' R : Nat → Prop} {A B : World} {fv wv : Value} {sb : Nat} {acc : List Elt} {ws : List Value} (h : ItInv D A fv wv sb acc ws) (hk : Kp R A B) (hR : ∀ k, D k → R k) (hD : ∀ k, D k → D' k) : ItInv D' B fv wv sb acc ws :=
  ⟨own_kp h.f hk fun k e => hR k (h.fD k e), fun k e => hD k (h.fD k e), own_kp h.g hk fun k e => hR k (h.gD k e), fun k e => hD k (h.gD k e),
   fun i x hx => let ⟨u, h1, h2, h3⟩ := h.row i x hx; ⟨u, h1, own_kp h2 hk fun k e => hR k (h3 k e), fun k e => hD k (h3 k e)⟩,
   h.s.kp hk (hR _ h.sD), hD _ h.sD⟩

theorem ItInv.cellF {D : Nat → Prop} {w : World} {fv wv : Value} {sb : Nat} {acc : List Elt} {ws : List Value} (h : ItInv D w fv wv sb acc ws) {k : Nat} {x : Elt} (hx : acc[k]? = some x) :
    ∃ fb fc, fv = .slice (some ⟨fb, 0, none⟩) acc.length fc ∧ w.cell? ⟨fb, k * 2, none⟩ = some (.int .i64 x.1.1) ∧ w.cell? ⟨fb, k * 2 + 1, none⟩ = some (.int .i64 x.1.2) := by
  have hlt := lt_of_get hx
  rcases h.f.2 with ⟨_, h0⟩ | ⟨g, cap, cur, hv, _⟩
  · omega
  · have hg : fv.ownBlock = some g := by rw [hv]; rfl
    obtain ⟨h1, h2⟩ := cellsOf_get acc k x hx
    have k1 := h.f.cells hg _ _ h1
    have k2 := h.f.cells hg _ _ h2
    rw [add_none] at k1 k2
    simp only [Nat.zero_add] at k1 k2
    exact ⟨g, cap, hv, k1, k2⟩

theorem ItInv.cellW {D : Nat → Prop} {w : World} {fv wv : Value} {sb : Nat} {acc : List Elt} {ws : List Value} (h : ItInv D w fv wv sb acc ws) {k : Nat} {x : Elt} (hx : acc[k]? = some x) :
    ∃ wb wc u, wv = .slice (some ⟨wb, 0, none⟩) acc.length wc ∧ w.cell? ⟨wb, k, none⟩ = some u ∧ w.ownsRow 0 3 1 u x.2.length (x.2.map (Value.int .i64)) ∧ ∀ k, u.ownBlock = some k → D k := by
  have hlt := lt_of_get hx
  obtain ⟨u, h1, h2, h3⟩ := h.row k x hx
  rcases h.g.2 with ⟨_, h0⟩ | ⟨g, cap, cur, hv, _⟩
  · omega
  · have hg : wv.ownBlock = some g := by rw [hv]; rfl
    have k1 := h.g.cells hg _ _ h1
    rw [add_none] at k1
    simp only [Nat.zero_add] at k1
    exact ⟨g, cap, u, hv, k1, h2, h3⟩

/-- D and what is new from A to B. -/
def Up (D : Nat → Prop) (A B : World) (k : Nat) : Prop := D k ∨ (A.heap.size ≤ k ∧ k < B.heap.size)

theorem Kp.up {D : Nat → Prop} {A B C : World} (h : Kp (fun k => ¬ D k) A B) (k : Kp (fun k => ¬ Up D A B k) B C) : Kp (fun k => ¬ D k) A C :=
  ⟨k.os.trans h.os, k.tape.trans h.tape, k.output.trans h.output, Nat.le_trans h.size k.size, fun i hi hl =>
    (k.block i (fun e => e.elim hi fun e => by omega) (Nat.lt_of_lt_of_le hl h.size)).trans (h.block i hi hl)⟩

/-- The found row as the append finds it, behind the map's turn and the new element's block. -/
theorem ItInv.f2 {D : Nat → Prop} {w w1 w2 : World} {fv wv : Value} {sb : Nat} {acc : List Elt} {ws : List Value} (h : ItInv D w fv wv sb acc ws) (h1 : Below w.heap.size w w1) (h2 : w1.grownBy w2 (some sb)) (o : Obj) :
    (w2.alloc o).ownsRow 0 75 2 fv acc.length (cellsOf acc) := by
  have a := own_kp h.f (Kp.all h1 (fun _ => True)) (fun _ _ => trivial)
  exact (own_kp a (Kp.of_grownBy h2) fun k e e' => own_seen h.f h.s e (by injection e')).alloc o

/-- The words' row as its append finds it. -/
theorem ItInv.g2 {D : Nat → Prop} {w w1 w2 w3 w4 : World} {fv wv : Value} {sb : Nat} {acc : List Elt} {ws : List Value} (h : ItInv D w fv wv sb acc ws) (h1 : Below w.heap.size w w1) (h2 : w1.grownBy w2 (some sb)) (o : Obj)
    (h3 : (w2.alloc o).grownBy w3 fv.ownBlock) (h4 : Below w3.heap.size w3 w4) (o' : Obj) : (w4.alloc o').ownsRow 0 25 1 wv acc.length ws := by
  have a := own_kp h.g (Kp.all h1 (fun _ => True)) (fun _ _ => trivial)
  have b := (own_kp a (Kp.of_grownBy h2) fun k e e' => own_seen h.g h.s e (by injection e')).alloc o
  have c := own_kp b (Kp.of_grownBy h3) fun k e => own_ne h.g h.f (by decide) e
  exact (own_kp c (Kp.all h4 (fun _ => True)) (fun _ _ => trivial)).alloc o'

/-- A word's row, behind the found row's append. -/
theorem ItInv.w2 {D : Nat → Prop} {w w1 w2 w3 : World} {fv wv : Value} {sb : Nat} {acc : List Elt} {ws : List Value} (h : ItInv D w fv wv sb acc ws) (h1 : Below w.heap.size w w1) (h2 : w1.grownBy w2 (some sb)) (o : Obj)
    (h3 : (w2.alloc o).grownBy w3 fv.ownBlock) {u : Value} {n : Nat} {xs : List Value} (hu : w.ownsRow 0 3 1 u n xs) : w3.ownsRow 0 3 1 u n xs := by
  have a := own_kp hu (Kp.all h1 (fun _ => True)) (fun _ _ => trivial)
  have b := (own_kp a (Kp.of_grownBy h2) fun k e e' => own_seen hu h.s e (by injection e')).alloc o
  exact own_kp b (Kp.of_grownBy h3) fun k e => own_ne hu h.f (by decide) e

/-- Another word's row lies on through all of it. -/
theorem ItInv.keepW {D : Nat → Prop} {w w1 w2 w3 w4 w5 : World} {fv wv : Value} {sb : Nat} {acc : List Elt} {ws : List Value} (h : ItInv D w fv wv sb acc ws) (h1 : Below w.heap.size w w1) (h2 : w1.grownBy w2 (some sb)) (o : Obj)
    (h3 : (w2.alloc o).grownBy w3 fv.ownBlock) (h4 : Below w3.heap.size w3 w4) (o' : Obj) (h5 : (w4.alloc o').grownBy w5 wv.ownBlock) {v : Value} {n : Nat} {xs : List Value} (hv : w.ownsRow 0 3 1 v n xs) : w5.ownsRow 0 3 1 v n xs := by
  have a := h.w2 h1 h2 o h3 hv
  have b := (own_kp a (Kp.all h4 (fun _ => True)) (fun _ _ => trivial)).alloc o'
  exact own_kp b (Kp.of_grownBy h5) fun k e => own_ne b (h.g2 h1 h2 o h3 h4 o') (by decide) e

/-- A block of another kind lies on through all of it. -/
theorem ItInv.keepB {D : Nat → Prop} {w w1 w2 w3 w4 w5 : World} {fv wv : Value} {sb : Nat} {acc : List Elt} {ws : List Value} (h : ItInv D w fv wv sb acc ws) (h1 : Below w.heap.size w w1) (h2 : w1.grownBy w2 (some sb)) (o : Obj)
    (h3 : (w2.alloc o).grownBy w3 fv.ownBlock) (h4 : Below w3.heap.size w3 w4) (o' : Obj) (h5 : (w4.alloc o').grownBy w5 wv.ownBlock) {b : Nat} {cs : Array Value} {t : TypeId} (hb : Blk w b cs t) (hf : fv.ownBlock ≠ some b) (ht : t ≠ 25) : Blk w5 b cs t := by
  have hne : b ≠ sb := by
    rintro rfl
    obtain ⟨es, cl, e2, _⟩ := h.s
    have hb' : w.heap[b]? = some (.cells cs t (0, 0)) := hb
    rw [hb'] at e2; cases e2
  have a := hb.below h1
  have c := (a.kp (Kp.of_grownBy h2) (by intro e; injection e with e; exact hne e)).alloc o
  have d := c.kp (Kp.of_grownBy h3) (fun e => hf e.symm)
  have e := (d.below h4).alloc o'
  refine e.kp (Kp.of_grownBy h5) (fun e1 => ?_)
  obtain ⟨cur, hc⟩ := own_heap (h.g2 h1 h2 o h3 h4 o') e1.symm
  have e' : (w4.alloc o').heap[b]? = some (.cells cs t (0, 0)) := e
  rw [e'] at hc
  injection hc with hc
  injection hc with _ hc
  exact ht hc

/-- One more pair found. -/
theorem ItInv.push {D : Nat → Prop} {w w1 w2 w3 w4 w5 : World} {fv wv fv' wv' u : Value} {sb : Nat} {acc : List Elt} {ws : List Value} {p : Int × Int} {wd : List Int} (h : ItInv D w fv wv sb acc ws)
    (h1 : Below w.heap.size w w1) (hs2 : Seen Try.prog 75 w2 sb (acc.map (·.1) ++ [p])) (h2 : w1.grownBy w2 (some sb)) (o : Obj)
    (hf3 : w3.ownsRow 0 75 2 fv' (acc.length + 1) (cellsOf acc ++ [.int .i64 p.1, .int .i64 p.2])) (h3 : (w2.alloc o).grownBy w3 fv.ownBlock) (hl3 : fv'.ownBlock = fv.ownBlock ∨ fv'.ownBlock = some (w2.alloc o).heap.size)
    (hu4 : w4.ownsRow w3.heap.size 3 1 u wd.length (wd.map (Value.int .i64))) (h4 : Below w3.heap.size w3 w4) (o' : Obj)
    (hg5 : w5.ownsRow 0 25 1 wv' (acc.length + 1) (ws ++ [u])) (h5 : (w4.alloc o').grownBy w5 wv.ownBlock) (hl5 : wv'.ownBlock = wv.ownBlock ∨ wv'.ownBlock = some (w4.alloc o').heap.size) :
    ItInv (Up D w w5) w5 fv' wv' sb (acc ++ [(p, wd)]) (ws ++ [u]) ∧ Kp (fun k => ¬ D k) w w5 := by
  have z1 := h1.size
  have z2 := h2.size
  have z3 := h3.size
  have z4 := h4.size
  have z5 := h5.size
  simp only [World.size_alloc] at z3 z5 hl3 hl5
  have hgw := h.g2 h1 h2 o h3 h4 o'
  have hff := h.f2 h1 h2 o
  have kD : Kp (fun k => ¬ D k) w w5 := by
    have a : Kp (fun k => ¬ D k) w w1 := Kp.all h1 _
    have b : Kp (fun k => ¬ D k) w1 w2 := (Kp.of_grownBy h2).mono fun k _ hk e => hk (by injection e with e; subst e; exact h.sD)
    have c : Kp (fun k => ¬ D k) w2 w3 := ((Kp.refl _ w2).alloc o).trans ((Kp.of_grownBy h3).mono fun k _ hk e => hk (h.fD k e.symm))
    have d : Kp (fun k => ¬ D k) w3 w4 := Kp.all h4 _
    have e : Kp (fun k => ¬ D k) w4 w5 := ((Kp.refl _ w4).alloc o').trans ((Kp.of_grownBy h5).mono fun k _ hk e => hk (h.gD k e.symm))
    exact (((a.trans b).trans c).trans d).trans e
  have hf5 : w5.ownsRow 0 75 2 fv' (acc.length + 1) (cellsOf acc ++ [.int .i64 p.1, .int .i64 p.2]) := by
    have a := (own_kp hf3 (Kp.all h4 (fun _ => True)) (fun _ _ => trivial)).alloc o'
    exact own_kp a (Kp.of_grownBy h5) fun k e => own_ne a hgw (by decide) e
  refine ⟨⟨?_, ?_, ?_, ?_, ?_, ?_, .inl h.sD⟩, kD⟩
  · rw [List.length_append]
    have : cellsOf (acc ++ [(p, wd)]) = cellsOf acc ++ [.int .i64 p.1, .int .i64 p.2] := by simp [cellsOf]
    rw [this]; exact hf5
  · intro k hk
    rcases hl3 with e | e
    · exact .inl (h.fD k (e ▸ hk))
    · rw [e] at hk; injection hk with hk
      exact .inr ⟨by omega, by omega⟩
  · rw [List.length_append]; exact hg5
  · intro k hk
    rcases hl5 with e | e
    · exact .inl (h.gD k (e ▸ hk))
    · rw [e] at hk; injection hk with hk
      have := (hg5.lt k (by rw [e, hk])).2
      exact .inr ⟨by omega, by omega⟩
  · have old : ∀ {v : Value} {n : Nat} {xs : List Value}, w.ownsRow 0 3 1 v n xs → w5.ownsRow 0 3 1 v n xs := fun {v n xs} hv => by
      have a := h.w2 h1 h2 o h3 hv
      have b := (own_kp a (Kp.all h4 (fun _ => True)) (fun _ _ => trivial)).alloc o'
      exact own_kp b (Kp.of_grownBy h5) fun k e => own_ne b hgw (by decide) e
    have hl : ws.length = acc.length := by have := h.g.1; omega
    intro i x hx
    rcases Nat.lt_or_ge i acc.length with hi | hi
    · rw [List.getElem?_append_left hi] at hx
      obtain ⟨v, k1, k2, k3⟩ := h.row i x hx
      exact ⟨v, by rw [List.getElem?_append_left (by omega)]; exact k1, old k2, fun k e => .inl (k3 k e)⟩
    · have hi' := lt_of_get hx
      simp only [List.length_append, List.length_cons, List.length_nil] at hi'
      obtain rfl : i = acc.length := by omega
      simp at hx
      subst hx
      have b := hu4.alloc o'
      have c := own_kp b (Kp.of_grownBy h5) fun k e => own_ne b hgw (by decide) e
      refine ⟨u, by rw [List.getElem?_append_right (by omega)]; simp [hl], own_mono c (Nat.zero_le _), fun k e => .inr ?_⟩
      have := hu4.lt k e
      exact ⟨by omega, by omega⟩
  · rw [List.map_append]
    have a : Seen Try.prog 75 w3 sb (acc.map (·.1) ++ [p]) := (hs2.kp ((Kp.refl (fun _ => True) w2).alloc o) trivial).kp (Kp.of_grownBy h3) fun e => own_seen h.f h.s e.symm rfl
    have b := (a.kp (Kp.all h4 (fun _ => True)) trivial).kp ((Kp.refl (fun _ => True) w4).alloc o') trivial
    exact b.kp (Kp.of_grownBy h5) fun e => own_seen h.g h.s e.symm rfl
end Go.Proofs.Ytiiifamggopdoaa
