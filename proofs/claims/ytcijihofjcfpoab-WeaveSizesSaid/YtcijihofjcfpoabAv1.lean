/-
  An abstract machine over values without addresses, 1: types of data, what a place holds, abstract values, abstract memory. No program is named here.
-/
import Derived.CallsIn
import Derived.OrdersIn
import Derived.RangeFuncCalls
import Derived.Laws.AppendOwn
import Derived.Laws.OwnMore
import Derived.Laws.MakeOwn
import Derived.Laws.CopyRow
import Derived.Laws.Rows
import Derived.IntWalk
import Derived.Below
namespace Go.Proofs.Ytcijihofjcfpoab
open Go.RowKit

set_option linter.constructorNameAsVariable false

/-- Types of data. -/
inductive Ty where
  | int (k : IntKind)
  | bool
  | unit
  | pair (a b : Ty)
  | sl (t : Ty)
  deriving DecidableEq, Inhabited

/-- What data of a type are. -/
@[reducible] def El : Ty → Type
  | .int _ => Int
  | .bool => Bool
  | .unit => Unit
  | .pair a b => El a × El b
  | .sl t => List (El t)

def Ty.size : Ty → Nat
  | .int _ => 1
  | .bool => 1
  | .unit => 0
  | .pair a b => a.size + b.size
  | .sl _ => 1

def Ty.dflt : (t : Ty) → El t
  | .int _ => (0 : Int)
  | .bool => false
  | .unit => ()
  | .pair a b => (a.dflt, b.dflt)
  | .sl t => ([] : List (El t))

/-- The kind holds the number. -/
def InK (k : IntKind) (n : Int) : Prop := k.min ≤ n ∧ n ≤ k.max

theorem inK_i64 (n : Int) : InK .i64 n ↔ -9223372036854775808 ≤ n ∧ n ≤ 9223372036854775807 := by
  unfold InK; simp [IntKind.min, IntKind.max, IntKind.signed, IntKind.bits]
theorem inK_u8 (n : Int) : InK .u8 n ↔ 0 ≤ n ∧ n ≤ 255 := by
  unfold InK; simp [IntKind.min, IntKind.max, IntKind.signed, IntKind.bits]

theorem wrap_in {k : IntKind} {n : Int} (h : InK k n) : k.wrap n = n := by
  cases k <;> simp [InK, IntKind.min, IntKind.max, IntKind.signed, IntKind.bits] at h
  · exact IntWalk.i8_in n (by omega)
  · exact IntWalk.i16_in n (by omega)
  · exact IntWalk.i32_in n (by omega)
  · exact IntWalk.i64_in n (by omega)
  · exact IntWalk.u8_in n (by omega)
  · exact IntWalk.u16_in n (by omega)
  · exact IntWalk.u32_in n (by omega)
  · exact IntWalk.u64_in n (by omega)

/-- A slice value's parts over the elements xs, each held as R says, in a block that A does not have. -/
def SlBody {α : Type} (N : Nat) (A : Nat → Prop) (sz : Nat) (R : α → Nat → Nat → Prop) (xs : List α) (a : Option Addr) (c : Nat) : Prop :=
  xs.length ≤ c ∧ c ≤ maxLen ∧ (0 < xs.length → ∃ b o, a = some ⟨b, o, none⟩ ∧ b < N ∧ ¬ A b ∧ ∀ i x, xs[i]? = some x → R x b (o + i * sz))

/-- The cells from place o of block b on hold x. What lies behind slices is in no block of A. -/
def RepAt (w : World) (A : Nat → Prop) : (t : Ty) → El t → Nat → Nat → Prop
  | .int k, x, b, o => w.cell? ⟨b, o, none⟩ = some (.int k x)
  | .bool, x, b, o => w.cell? ⟨b, o, none⟩ = some (.bool x)
  | .unit, _, _, _ => True
  | .pair s t, x, b, o => RepAt w A s x.1 b o ∧ RepAt w A t x.2 b (o + s.size)
  | .sl t, xs, b, o => ∃ a c, w.cell? ⟨b, o, none⟩ = some (.slice a (List.length (α := El t) xs) c) ∧ SlBody w.heap.size A t.size (fun x b o => RepAt w A t x b o) (xs : List (El t)) a c

theorem SlBody.step {α : Type} {N N' : Nat} {A A' : Nat → Prop} {sz : Nat} {R R' : α → Nat → Nat → Prop} {xs : List α} {a : Option Addr} {c : Nat} (hN : N ≤ N') (hA : ∀ g, g < N → A' g → A g)
    (hR : ∀ x b o, b < N → ¬ A b → R x b o → R' x b o) (h : SlBody N A sz R xs a c) : SlBody N' A' sz R' xs a c := by
  obtain ⟨h1, h2, h3⟩ := h
  refine ⟨h1, h2, fun hp => ?_⟩
  obtain ⟨b, o, e, hb, hn, hx⟩ := h3 hp
  exact ⟨b, o, e, by omega, fun hc => hn (hA b hb hc), fun i x hi => hR _ _ _ hb hn (hx i x hi)⟩

/-- What a change of the world leaves alone: the blocks that are not in A. -/
structure Keeps (A A' : Nat → Prop) (w w' : World) : Prop where
  size : w.heap.size ≤ w'.heap.size
  heap : ∀ g, g < w.heap.size → ¬ A g → w'.heap[g]? = w.heap[g]?
  av : ∀ g, g < w.heap.size → A' g → A g

theorem cell_same {w w' : World} {b o : Nat} (h : w'.heap[b]? = w.heap[b]?) : w'.cell? ⟨b, o, none⟩ = w.cell? ⟨b, o, none⟩ := World.cell?_of_block (w := w) (a := ⟨b, o, none⟩) h

theorem RepAt.step {A A' : Nat → Prop} {w w' : World} (k : Keeps A A' w w') : ∀ (t : Ty) (x : El t) (b o : Nat), w'.heap[b]? = w.heap[b]? → RepAt w A t x b o → RepAt w' A' t x b o
  | .int _, x, b, o, hb, h => by
    unfold RepAt at *; rw [cell_same hb]; exact h
  | .bool, x, b, o, hb, h => by
    unfold RepAt at *; rw [cell_same hb]; exact h
  | .unit, x, b, o, hb, h => by unfold RepAt; trivial
  | .pair s t, x, b, o, hb, h => by
    unfold RepAt at *
    exact ⟨RepAt.step k s x.1 b o hb h.1, RepAt.step k t x.2 b _ hb h.2⟩
  | .sl t, xs, b, o, hb, h => by
    unfold RepAt at *
    obtain ⟨a, c, hc, hs⟩ := h
    exact ⟨a, c, by rw [cell_same hb]; exact hc, hs.step k.size k.av fun x b' o' hb' hn hx => RepAt.step k t x b' o' (k.heap b' hb' hn) hx⟩

/-- Abstract values. 'un': nothing is known · 'sl': a slice of data that stay · 'own': the slice over a whole row of the call's own · 'bp', 'ap', 'dp': an address in a box of the call's own, in a row of its own, in data that stay · 'cv': just this value. -/
inductive AVal where
  | un
  | int (k : IntKind) (n : Int)
  | bool (b : Bool)
  | sl (t : Ty) (xs : List (El t))
  | own (b : Nat)
  | bp (b off : Nat)
  | ap (b sz i off : Nat)
  | dp (t : Ty) (x : El t) (off : Nat)
  | cv (v : Value)
  | agg (l : List AVal)
  | tup (l : List AVal)
  | fn (f : Fn) (first cap : List AVal)
  deriving Inhabited

mutual
/-- The value v is what the abstract value says. η: the handles of the call's own blocks. -/
def RepV (η : Nat → Value) (w : World) (A : Nat → Prop) : AVal → Value → Prop
  | .un, _ => True
  | .int k n, v => v = .int k n
  | .bool b, v => v = .bool b
  | .sl t xs, v => ∃ a c, v = .slice a xs.length c ∧ SlBody w.heap.size A t.size (fun x b o => RepAt w A t x b o) xs a c
  | .own b, v => v = η b
  | .bp b off, v => ∃ g, η b = .pointer (some ⟨g, 0, none⟩) ∧ v = .pointer (some ⟨g, off, none⟩)
  | .ap b sz i off, v => ∃ g n c, η b = .slice (some ⟨g, 0, none⟩) n c ∧ v = .pointer (some ⟨g, i * sz + off, none⟩)
  | .dp t x off, v => ∃ g o, v = .pointer (some ⟨g, o + off, none⟩) ∧ g < w.heap.size ∧ ¬ A g ∧ RepAt w A t x g o
  | .cv u, v => v = u
  | .agg l, v => ∃ vs, v = .agg vs ∧ RepVs η w A l vs.toList
  | .tup l, v => ∃ vs, v = .tuple vs ∧ RepVs η w A l vs.toList
  | .fn f p c, v => ∃ ps cs, v = .func f ps cs ∧ RepVs η w A p ps.toList ∧ RepVs η w A c cs.toList
def RepVs (η : Nat → Value) (w : World) (A : Nat → Prop) : List AVal → List Value → Prop
  | [], vs => vs = []
  | x :: l, vs => ∃ u us, vs = u :: us ∧ RepV η w A x u ∧ RepVs η w A l us
end

mutual
/-- The value speaks of this block. -/
def AVal.has : AVal → Nat → Bool
  | .own b, c => b == c
  | .bp b _, c => b == c
  | .ap b _ _ _, c => b == c
  | .agg l, c => AVal.hasL l c
  | .tup l, c => AVal.hasL l c
  | .fn _ p q, c => AVal.hasL p c || AVal.hasL q c
  | _, _ => false
def AVal.hasL : List AVal → Nat → Bool
  | [], _ => false
  | x :: l, c => x.has c || AVal.hasL l c
end

mutual
theorem RepV.step {η η' : Nat → Value} {A A' : Nat → Prop} {w w' : World} (k : Keeps A A' w w') : ∀ (x : AVal) (v : Value), (∀ b, x.has b = true → η' b = η b) → RepV η w A x v → RepV η' w' A' x v
  | .un, v, _, _ => by unfold RepV; trivial
  | .int _ _, v, _, h => by unfold RepV at *; exact h
  | .bool _, v, _, h => by unfold RepV at *; exact h
  | .sl t xs, v, _, h => by
    unfold RepV at *
    obtain ⟨a, c, hv, hs⟩ := h
    exact ⟨a, c, hv, hs.step k.size k.av fun x b' o' hb' hn hx => RepAt.step k t x b' o' (k.heap b' hb' hn) hx⟩
  | .own b, v, he, h => by unfold RepV at *; rw [he b (by simp [AVal.has])]; exact h
  | .bp b _, v, he, h => by unfold RepV at *; rw [he b (by simp [AVal.has])]; exact h
  | .ap b _ _ _, v, he, h => by unfold RepV at *; rw [he b (by simp [AVal.has])]; exact h
  | .dp t x off, v, _, h => by
    unfold RepV at *
    obtain ⟨g, o, hv, hg, hn, hx⟩ := h
    exact ⟨g, o, hv, Nat.lt_of_lt_of_le hg k.size, fun hc => hn (k.av g hg hc), RepAt.step k t x g o (k.heap g hg hn) hx⟩
  | .cv _, v, _, h => by unfold RepV at *; exact h
  | .agg l, v, he, h => by
    unfold RepV at *
    obtain ⟨vs, hv, hl⟩ := h
    exact ⟨vs, hv, RepVs.step k l vs.toList (fun b hb => he b (by simpa [AVal.has] using hb)) hl⟩
  | .tup l, v, he, h => by
    unfold RepV at *
    obtain ⟨vs, hv, hl⟩ := h
    exact ⟨vs, hv, RepVs.step k l vs.toList (fun b hb => he b (by simpa [AVal.has] using hb)) hl⟩
  | .fn f p c, v, he, h => by
    unfold RepV at *
    obtain ⟨ps, cs, hv, hp, hc⟩ := h
    exact ⟨ps, cs, hv, RepVs.step k p ps.toList (fun b hb => he b (by simp [AVal.has, hb])) hp, RepVs.step k c cs.toList (fun b hb => he b (by simp [AVal.has, hb])) hc⟩
theorem RepVs.step {η η' : Nat → Value} {A A' : Nat → Prop} {w w' : World} (k : Keeps A A' w w') : ∀ (l : List AVal) (vs : List Value), (∀ b, AVal.hasL l b = true → η' b = η b) → RepVs η w A l vs → RepVs η' w' A' l vs
  | [], vs, _, h => by unfold RepVs at *; exact h
  | x :: l, vs, he, h => by
    unfold RepVs at *
    obtain ⟨u, us, hv, hx, hl⟩ := h
    exact ⟨u, us, hv, RepV.step k x u (fun b hb => he b (by simp [AVal.hasL, hb])) hx, RepVs.step k l us (fun b hb => he b (by simp [AVal.hasL, hb])) hl⟩
end

/-- The values of dry data. -/
def Ty.vals : (t : Ty) → El t → List Value
  | .int k, n => [.int k n]
  | .bool, b => [.bool b]
  | .unit, _ => []
  | .pair a b, x => a.vals x.1 ++ b.vals x.2
  | .sl _, _ => []

/-- The numbers are of their kinds. -/
def okD : (t : Ty) → El t → Prop
  | .int k, n => InK k n
  | .bool, _ => True
  | .unit, _ => True
  | .pair a b, x => okD a x.1 ∧ okD b x.2
  | .sl _, _ => False

/-- One value of them. -/
def pv (agg : Bool) (l : List Value) : Value := if agg then .agg l.toArray else l.headD (.int .i64 0)

/-- Blocks of the call's own: a variable's cells · a row that one slice covers · a row that has come to rest · a map of dry data. -/
inductive ABlk where
  | box (ty : TypeId) (cs : List AVal)
  | arr (e : TypeId) (t : Ty) (xs : List (El t))
  | imm (t : Ty) (xs : List (El t))
  | map (ak ae : Bool) (kt vt : Ty) (xs : List (El kt × El vt))

def ABlk.mut : ABlk → Bool
  | .imm _ _ => false
  | _ => true

abbrev AHeap := Nat → Option ABlk

def hblk : Value → Option Nat
  | .pointer (some a) => some a.block
  | .slice (some a) _ _ => some a.block
  | .map (some b) => some b
  | _ => none

/-- Block g of the world is one that may be written. -/
def Live (η : Nat → Value) (H : AHeap) (g : Nat) : Prop := ∃ b B, H b = some B ∧ B.mut = true ∧ hblk (η b) = some g

def Av (A0 : Nat → Prop) (η : Nat → Value) (H : AHeap) (g : Nat) : Prop := A0 g ∨ Live η H g

def RelBlk (η : Nat → Value) (w : World) (A : Nat → Prop) : ABlk → Value → Prop
  | .box ty cs, h => ∃ g vs, h = .pointer (some ⟨g, 0, none⟩) ∧ w.heap[g]? = some (.cells vs ty (0, 0)) ∧ RepVs η w A cs vs.toList
  | .arr e t xs, h => (xs = [] ∧ h = .slice none 0 0) ∨ ∃ g cap cur, h = .slice (some ⟨g, 0, none⟩) xs.length cap ∧ w.heap[g]? = some (.cells cur e (0, 0)) ∧ xs.length ≤ cap ∧ cap ≤ maxLen ∧
      cur.size = cap * t.size ∧ ∀ i x, xs[i]? = some x → RepAt w A t x g (i * t.size)
  | .imm t xs, h => ∃ a c, h = .slice a xs.length c ∧ SlBody w.heap.size A t.size (fun x b o => RepAt w A t x b o) xs a c
  | .map ak ae kt vt xs, h => ∃ (g : Nat) (es : Array MapEntry) (clock : Nat), h = .map (some g) ∧ w.heap[g]? = some (.map es clock) ∧ es.toList.map (fun e => (e.key, e.val)) = xs.map (fun p => (pv ak (kt.vals p.1), pv ae (vt.vals p.2))) ∧ (∀ p ∈ xs, okD kt p.1) ∧ (xs.map (·.1)).Nodup

/-- The abstract memory is that of the world. A0: blocks of others, that nothing here speaks of. -/
structure RelH (A0 : Nat → Prop) (η : Nat → Value) (H : AHeap) (w : World) : Prop where
  blk : ∀ b B, H b = some B → RelBlk η w (Av A0 η H) B (η b)
  inj : ∀ b b' B B' g, H b = some B → H b' = some B' → B.mut = true → B'.mut = true → hblk (η b) = some g → hblk (η b') = some g → b = b'
  av : ∀ g, A0 g → g < w.heap.size ∧ ¬ Live η H g

theorem Live.lt {A0 : Nat → Prop} {η : Nat → Value} {H : AHeap} {w : World} (h : RelH A0 η H w) {g : Nat} (hg : Live η H g) : g < w.heap.size := by
  obtain ⟨b, B, hb, hm, he⟩ := hg
  have := h.blk b B hb
  cases B with
  | box ty cs =>
    obtain ⟨g', vs, e1, e2, _⟩ := this
    rw [e1] at he
    injection he with he
    subst he
    exact (Array.getElem?_eq_some_iff.1 e2).1
  | arr e t xs =>
    rcases this with ⟨_, e1⟩ | ⟨g', cap, cur, e1, e2, _⟩
    · rw [e1] at he; cases he
    · rw [e1] at he
      injection he with he
      subst he
      exact (Array.getElem?_eq_some_iff.1 e2).1
  | imm t xs => cases hm
  | map ak ae kt vt xs =>
    obtain ⟨g', es, c, e1, e2, _⟩ := this
    rw [e1] at he
    injection he with he
    subst he
    exact (Array.getElem?_eq_some_iff.1 e2).1

end Go.Proofs.Ytcijihofjcfpoab
