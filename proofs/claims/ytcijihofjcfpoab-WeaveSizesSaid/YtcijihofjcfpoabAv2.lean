/-
  The abstract machine, 2: states, effects, the table of types, what each operation does. No program is named here.
-/
import Derived.Test.YtcijihofjcfpoabAv1
namespace Go.Proofs.Ytcijihofjcfpoab
open Go.RowKit

set_option linter.constructorNameAsVariable false

/-- From w to w' only blocks of I have turned. -/
structure Turns (I : Nat → Prop) (w w' : World) : Prop where
  os : w'.os = w.os
  tape : w'.tape = w.tape
  output : w'.output = w.output
  size : w.heap.size ≤ w'.heap.size
  heap : ∀ g, g < w.heap.size → ¬ I g → w'.heap[g]? = w.heap[g]?

theorem Turns.refl (I : Nat → Prop) (w : World) : Turns I w w := ⟨rfl, rfl, rfl, Nat.le_refl _, fun _ _ _ => rfl⟩
theorem Turns.trans {I : Nat → Prop} {u v w : World} (h : Turns I u v) (k : Turns I v w) : Turns I u w :=
  ⟨k.os.trans h.os, k.tape.trans h.tape, k.output.trans h.output, Nat.le_trans h.size k.size, fun g hg hn => (k.heap g (Nat.lt_of_lt_of_le hg h.size) hn).trans (h.heap g hg hn)⟩
theorem Turns.mono {I I' : Nat → Prop} {w w' : World} (h : Turns I w w') (hi : ∀ g, g < w.heap.size → I g → I' g) : Turns I' w w' := ⟨h.os, h.tape, h.output, h.size, fun g hg hn => h.heap g hg fun hc => hn (hi g hg hc)⟩

/-- What others know of the world. A: their blocks; I: blocks that may turn without their knowing. yl: they may be called. -/
structure Gh where
  yl : Bool
  J : (Nat → Prop) → (Nat → Prop) → World → Prop
  cl : ∀ (A I I' : Nat → Prop) (w w' : World), J A I w → Turns I w w' → (∀ g, I' g → I g ∨ (w.heap.size ≤ g ∧ g < w'.heap.size)) → J A I' w'

/-- Nothing. -/
def gt : Gh := ⟨false, fun _ _ _ => True, fun _ _ _ _ _ _ _ _ => trivial⟩

/-- Temporaries and memory of the call's own, and what others know. -/
structure ASt where
  σ : Nat → AVal
  H : AHeap
  g : Gh

def AVal.clean (K : List Nat) (x : AVal) : AVal := if K.any (fun b => x.has b) then .un else x
def ABlk.clean (K : List Nat) : ABlk → ABlk
  | .box ty cs => .box ty (cs.map (AVal.clean K))
  | B => B

/-- What one operation does: the value that it yields, the blocks that nothing else may speak of any more, the blocks that it writes. -/
structure Eff where
  v : AVal
  kill : List Nat := []
  hp : List (Nat × ABlk) := []

def hpGet : List (Nat × ABlk) → Nat → Option ABlk
  | [], _ => none
  | (c, B) :: r, b => if b = c then some B else hpGet r b

def ASt.app (s : ASt) (d : Option Nat) (e : Eff) : ASt where
  g := s.g
  σ i := if d = some i then e.v else (s.σ i).clean e.kill
  H b := match hpGet e.hp b with
    | some B => some B
    | none => if e.kill.contains b then none else (s.H b).map (ABlk.clean e.kill)

/-! ### The table of types -/

inductive TDesc where
  | int (k : IntKind)
  | bool
  | sl (e : TypeId)
  | struct (fs : List (Nat × TypeId × Nat))
  | arr (n : Nat) (e : TypeId)
  | other
  deriving DecidableEq

def TDesc.agg : TDesc → Bool
  | .struct _ => true
  | .arr _ _ => true
  | _ => false

structure TInfo where
  desc : TDesc
  size : Nat
  bytes : Nat
  zero : List Value
  dt : Option Ty := none

abbrev Tab := TypeId → Option TInfo

def zcells : Ty → List Value
  | .int k => [.int k 0]
  | .bool => [.bool false]
  | .unit => []
  | .pair a b => zcells a ++ zcells b
  | .sl _ => [.slice none 0 0]

def fitsD (P : Program) : TypeDesc → TDesc → Bool
  | .int k, .int k' => k == k'
  | .bool, .bool => true
  | .slice e, .sl e' => e == e'
  | .struct fs, .struct gs => (fs.toList.all fun f => (P.info? f.type).isSome) && fs.toList.map (fun f => (f.offset, f.type, P.cellsOf f.type)) == gs
  | .array n e, .arr n' e' => n == n' && e == e'
  | .struct _, .other => false
  | .array _ _, .other => false
  | _, .other => true
  | _, _ => false

/-- Two values of zero are the same. -/
def zeq : Value → Value → Bool
  | .int k a, .int k' b => k == k' && a == b
  | .bool a, .bool b => a == b
  | .slice none 0 0, .slice none 0 0 => true
  | .pointer none, .pointer none => true
  | .map none, .map none => true
  | .nilFunc, .nilFunc => true
  | .nilIface, .nilIface => true
  | _, _ => false
theorem zeq_eq {a b : Value} (h : zeq a b = true) : a = b := by
  unfold zeq at h
  split at h <;> simp_all

def zeqL : List Value → List Value → Bool
  | [], [] => true
  | a :: l, b :: m => zeq a b && zeqL l m
  | _, _ => false
theorem zeqL_eq : ∀ {l m : List Value}, zeqL l m = true → l = m
  | [], [], _ => rfl
  | a :: l, b :: m, h => by
    simp only [zeqL, Bool.and_eq_true] at h
    rw [zeq_eq h.1, zeqL_eq h.2]

/-- The row of a type is the program's. -/
def tokB (P : Program) (t : TypeId) (i : TInfo) : Bool :=
  match P.info? t, P.underlying t with
  | some info, some d => info.size == i.size && info.bytes == i.bytes && (match info.zero with | some z => zeqL z.cells.toList i.zero && z.cells.size == i.size | none => false) && fitsD P d i.desc &&
      (match i.dt with | some τ => τ.size == i.size && zeqL i.zero (zcells τ) && decide (0 < i.size) | none => true)
  | _, _ => false

structure TOK (P : Program) (t : TypeId) (i : TInfo) : Prop where
  ex : ∃ info z d, P.info? t = some info ∧ info.size = i.size ∧ info.bytes = i.bytes ∧ info.zero = some z ∧ z.cells.toList = i.zero ∧ P.underlying t = some d ∧ fitsD P d i.desc = true
  dt : ∀ τ, i.dt = some τ → τ.size = i.size ∧ i.zero = zcells τ ∧ 0 < τ.size
  zsize : i.zero.length = i.size

theorem tok_of {P : Program} {t : TypeId} {i : TInfo} (h : tokB P t i = true) : TOK P t i := by
  unfold tokB at h
  cases hi : P.info? t with
  | none => simp [hi] at h
  | some info =>
    cases hd : P.underlying t with
    | none => simp [hi, hd] at h
    | some d =>
      simp only [hi, hd, Bool.and_eq_true, beq_iff_eq] at h
      obtain ⟨⟨⟨⟨h1, h2⟩, h3⟩, h4⟩, h5⟩ := h
      cases hz : info.zero with
      | none => simp [hz] at h3
      | some z =>
        simp only [hz, Bool.and_eq_true, beq_iff_eq] at h3
        have hz' := zeqL_eq h3.1
        refine ⟨⟨info, z, d, hi, h1, h2, hz, hz', hd, h4⟩, fun τ hτ => ?_, by rw [← hz', Array.length_toList]; exact h3.2⟩
        simp only [hτ, Bool.and_eq_true, beq_iff_eq, decide_eq_true_eq] at h5
        exact ⟨h5.1.1, zeqL_eq h5.1.2, by omega⟩

def TabOK (P : Program) (T : Tab) : Prop := ∀ t i, T t = some i → TOK P t i

def tabOf : List (TypeId × TInfo) → Tab
  | [], _ => none
  | (u, i) :: r, t => if t = u then some i else tabOf r t

theorem tabOf_ok {P : Program} : ∀ (l : List (TypeId × TInfo)), l.all (fun p => tokB P p.1 p.2) = true → TabOK P (tabOf l)
  | [], _, t, i, ht => by simp [tabOf] at ht
  | (u, j) :: r, h, t, i, ht => by
    simp only [List.all_cons, Bool.and_eq_true] at h
    unfold tabOf at ht
    split at ht
    · rename_i e; injection ht with ht; subst ht; subst e; exact tok_of h.1
    · exact tabOf_ok r h.2 t i ht

/-! ### Values -/

def ofConst : Value → AVal
  | .int k n => .int k n
  | .bool b => .bool b
  | v => .cv v

def ASt.ev (s : ASt) : Operand → AVal
  | .tmp t => s.σ t
  | .const v => ofConst v
  | .global g => .cv (.pointer (some ⟨g, 0, none⟩))
  | .func f => .fn (.func f) [] []

def cellsOf : (t : Ty) → El t → List AVal
  | .int k, x => [.int k x]
  | .bool, x => [.bool x]
  | .unit, _ => []
  | .pair a b, x => cellsOf a x.1 ++ cellsOf b x.2
  | .sl t, xs => [.sl t xs]

def cellsV : AVal → List AVal
  | .agg l => l
  | x => [x]

def pack (d : TDesc) (l : List AVal) : AVal := if d.agg then .agg l else l.headD .un

def toInt (k : IntKind) : List AVal → Option (Int × List AVal)
  | .int k' n :: r => if k' = k then some (n, r) else none
  | _ => none
def toBool : List AVal → Option (Bool × List AVal)
  | .bool b :: r => some (b, r)
  | _ => none
def isNilV : Value → Bool
  | .slice none 0 0 => true
  | _ => false
theorem isNilV_eq {v : Value} (h : isNilV v = true) : v = .slice none 0 0 := by
  unfold isNilV at h
  split at h
  · rfl
  · cases h
def toSl (H : AHeap) (t : Ty) : List AVal → Option (List (El t) × List AVal)
  | .sl t' xs :: r => if h : t' = t then some (h ▸ xs, r) else none
  | .own b :: r =>
    match H b with
    | some (.arr _ t' xs) => if h : t' = t then some (h ▸ xs, r) else none
    | some (.imm t' xs) => if h : t' = t then some (h ▸ xs, r) else none
    | _ => none
  | .cv u :: r => if isNilV u then some ([], r) else none
  | _ => none

/-- Data out of cells. -/
def toEl (H : AHeap) : (t : Ty) → List AVal → Option (El t × List AVal)
  | .int k, l => toInt k l
  | .bool, l => toBool l
  | .unit, l => some ((), l)
  | .pair a b, l =>
    match toEl H a l with
    | some (x, r) => match toEl H b r with
      | some (y, r') => some ((x, y), r')
      | none => none
    | none => none
  | .sl t, l => toSl H t l

mutual
def AVal.ids : AVal → List Nat
  | .own b => [b]
  | .bp b _ => [b]
  | .ap b _ _ _ => [b]
  | .agg l => AVal.idsL l
  | .tup l => AVal.idsL l
  | .fn _ p c => AVal.idsL p ++ AVal.idsL c
  | _ => []
def AVal.idsL : List AVal → List Nat
  | [] => []
  | x :: l => x.ids ++ AVal.idsL l
end

/-- Rows that these values speak of come to rest. -/
def rest (H : AHeap) (ids : List Nat) : List (Nat × ABlk) :=
  match ids with
  | [] => []
  | b :: r => match H b with
    | some (.arr _ t xs) => (b, .imm t xs) :: rest H r
    | _ => rest H r

def look (rn : List (Nat × Nat)) (c : Nat) : Nat :=
  match rn with
  | [] => c
  | (x, y) :: r => if c = x then y else look r c

def castE {t u : Ty} (h : t = u) (x : El t) : El u := h ▸ x
theorem castE_rfl {t : Ty} (x : El t) : castE rfl x = x := rfl
def castL {t u : Ty} (h : t = u) (xs : List (El t)) : List (El u) := h ▸ xs
def castM {t u v s : Ty} (h : t = u) (k : v = s) (xs : List (El t × El v)) : List (El u × El s) := h ▸ k ▸ xs
theorem castM_rfl {t v : Ty} (xs : List (El t × El v)) : castM rfl rfl xs = xs := rfl
theorem castL_rfl {t : Ty} (xs : List (El t)) : castL rfl xs = xs := rfl

mutual
/-- The value y says of x no more than is so. D: rows that come to rest; N: names of rows that are still nil; ρ: what the new names were called. -/
def LeV (H : AHeap) (D N : List Nat) (ρ : Nat → Nat) : AVal → AVal → Prop
  | .un, y => match y with
    | .un => True
    | _ => False
  | .int k n, y => match y with
    | .un => True
    | .int k' n' => k = k' ∧ n = n'
    | _ => False
  | .bool b, y => match y with
    | .un => True
    | .bool b' => b = b'
    | _ => False
  | .sl t xs, y => match y with
    | .un => True
    | .sl t' ys => if h : t = t' then castL h xs = ys else False
    | _ => False
  | .own b, y => match y with
    | .un => True
    | .own c => b = ρ c ∧ N.contains c = false
    | .sl t' ys => match H b with
      | some (.arr _ t xs) => D.contains b = true ∧ (if h : t = t' then castL h xs = ys else False)
      | some (.imm t xs) => if h : t = t' then castL h xs = ys else False
      | _ => False
    | _ => False
  | .bp b o, y => match y with
    | .un => True
    | .bp c o' => b = ρ c ∧ N.contains c = false ∧ o = o'
    | _ => False
  | .ap b z i o, y => match y with
    | .un => True
    | .ap c z' i' o' => b = ρ c ∧ N.contains c = false ∧ z = z' ∧ i = i' ∧ o = o'
    | _ => False
  | .dp t x o, y => match y with
    | .un => True
    | .dp t' x' o' => (if h : t = t' then castE h x = x' else False) ∧ o = o'
    | _ => False
  | .cv u, y => match y with
    | .un => True
    | .cv v => u = v
    | .sl _ ys => isNilV u = true ∧ ys = []
    | .own c => isNilV u = true ∧ N.contains c = true
    | _ => False
  | .agg l, y => match y with
    | .un => True
    | .agg m => LeL H D N ρ l m
    | _ => False
  | .tup l, y => match y with
    | .un => True
    | .tup m => LeL H D N ρ l m
    | _ => False
  | .fn f p c, y => match y with
    | .un => True
    | .fn f' p' c' => f = f' ∧ LeL H D N ρ p p' ∧ LeL H D N ρ c c'
    | _ => False
def LeL (H : AHeap) (D N : List Nat) (ρ : Nat → Nat) : List AVal → List AVal → Prop
  | [], m => match m with
    | [] => True
    | _ :: _ => False
  | x :: l, m => match m with
    | [] => False
    | y :: r => LeV H D N ρ x y ∧ LeL H D N ρ l r
end

def LeB (H : AHeap) (D N : List Nat) (ρ : Nat → Nat) : ABlk → ABlk → Prop
  | .box ty cs, B => match B with
    | .box ty' cs' => ty = ty' ∧ LeL H D N ρ cs cs'
    | _ => False
  | .arr e t xs, B => match B with
    | .arr e' t' ys => e = e' ∧ (if h : t = t' then castL h xs = ys else False)
    | _ => False
  | .imm t xs, B => match B with
    | .imm t' ys => if h : t = t' then castL h xs = ys else False
    | _ => False
  | .map ak ae kt vt xs, B => match B with
    | .map ak' ae' kt' vt' ys => ak = ak' ∧ ae = ae' ∧ (if h : kt = kt' ∧ vt = vt' then castM h.1 h.2 xs = ys else False)
    | _ => False

def LeH (H : AHeap) (D N : List Nat) (ρ : Nat → Nat) : List (Nat × ABlk) → Prop
  | [] => True
  | (c, B) :: r => (if N.contains c = true then (match B with | .arr _ _ xs => xs = [] | _ => False) else (match H (ρ c) with | some B0 => LeB H D N ρ B0 B | none => False)) ∧ LeH H D N ρ r

def hasKey : List (Nat × ABlk) → Nat → Bool
  | [], _ => false
  | (c, _) :: r, b => c == b || hasKey r b

/-- Names may be changed so. -/
def namesOK (ρ : Nat → Nat) (D N : List Nat) : List (Nat × ABlk) → Bool
  | [] => true
  | (c, B) :: r => !hasKey r c && (if N.contains c then decide (c < 1000) || decide (2000 ≤ c) else !(D.contains (ρ c) && B.mut) && (decide (c < 1000) || decide (2000 ≤ c) || (ρ c == c)) && (r.all fun q => N.contains q.1 || ρ q.1 != ρ c)) && namesOK ρ D N r

mutual
/-- Other names. -/
def AVal.ren (f : Nat → Nat) : AVal → AVal
  | .own b => .own (f b)
  | .bp b o => .bp (f b) o
  | .ap b z i o => .ap (f b) z i o
  | .agg l => .agg (AVal.renL f l)
  | .tup l => .tup (AVal.renL f l)
  | .fn g p c => .fn g (AVal.renL f p) (AVal.renL f c)
  | .un => .un
  | .int k n => .int k n
  | .bool b => .bool b
  | .sl t xs => .sl t xs
  | .dp t x o => .dp t x o
  | .cv v => .cv v
def AVal.renL (f : Nat → Nat) : List AVal → List AVal
  | [] => []
  | x :: l => x.ren f :: AVal.renL f l
end
def ABlk.ren (f : Nat → Nat) : ABlk → ABlk
  | .box ty cs => .box ty (AVal.renL f cs)
  | .arr e t xs => .arr e t xs
  | .imm t xs => .imm t xs
  | .map ak ae kt vt xs => .map ak ae kt vt xs
def renH (f : Nat → Nat) : List (Nat × ABlk) → List (Nat × ABlk)
  | [] => []
  | (c, B) :: r => (f c, B.ren f) :: renH f r

def Ty.dry : Ty → Bool
  | .int _ => true
  | .bool => true
  | .unit => true
  | .pair a b => a.dry && b.dry
  | .sl _ => false
mutual
/-- A value that speaks of no data elsewhere. -/
def AVal.dry : AVal → Bool
  | .un => true
  | .int _ _ => true
  | .bool _ => true
  | .cv _ => true
  | .own _ => true
  | .bp _ _ => true
  | .ap _ _ _ _ => true
  | .sl _ _ => false
  | .dp _ _ _ => false
  | .agg l => AVal.dryL l
  | .tup l => AVal.dryL l
  | .fn _ p c => AVal.dryL p && AVal.dryL c
def AVal.dryL : List AVal → Bool
  | [] => true
  | x :: l => x.dry && AVal.dryL l
end
def ABlk.dry : ABlk → Bool
  | .box _ cs => AVal.dryL cs
  | .arr _ t _ => t.dry
  | .imm _ _ => false
  | .map _ _ _ _ _ => true
def dryH : List (Nat × ABlk) → Bool
  | [] => true
  | (_, B) :: r => B.dry && dryH r

def mutH : List (Nat × ABlk) → Bool
  | [] => true
  | (_, B) :: r => B.mut && mutH r

/-- All names that are spoken of. -/
def idsH : List (Nat × ABlk) → List Nat
  | [] => []
  | (_, .box _ cs) :: r => AVal.idsL cs ++ idsH r
  | (_, .arr _ _ _) :: r => idsH r
  | (_, .imm _ _) :: r => idsH r
  | (_, .map _ _ _ _ _) :: r => idsH r

/-- It fits one cell. -/
def AVal.cell (H : AHeap) : AVal → Bool
  | .int _ _ => true
  | .bool _ => true
  | .sl _ _ => true
  | .own b => (H b).isSome
  | .bp _ _ => true
  | .ap _ _ _ _ => true
  | .dp _ _ _ => true
  | .cv v => v.oneCell'
  | .fn _ _ _ => true
  | _ => false

/-! ### Contracts -/

/-- A function of the text's own. -/
def FnOK (P : Program) (f : FuncId) : Prop := ∃ fn, P.funcs[f]? = some fn ∧ fn.body.isSome = true ∧ (fn.name == "runtime.NumGoroutine") = false

/-- Of what was there at the beginning only the blocks of L0 may have turned. -/
structure Fr (L0 : Nat → Prop) (w0 w : World) : Prop where
  os : w.os = w0.os
  tape : w.tape = w0.tape
  output : w.output = w0.output
  size : w0.heap.size ≤ w.heap.size
  heap : ∀ k, k < w0.heap.size → ¬ L0 k → w.heap[k]? = w0.heap[k]?

def handed (b : Nat) : Prop := 1000 ≤ b ∧ b < 2000

/-- What a call returns has come: r, in blocks of its own and those that were handed in. -/
structure Gave (η : Nat → Value) (A0 : Nat → Prop) (w : World) (hin hout : List (Nat × ABlk)) (r : AVal) (v : Value) (η' : Nat → Value) (w' : World) : Prop where
  hd : ∀ b, handed b → hasKey hout b = true → η' b = η b
  hp : RelH A0 η' (hpGet hout) w'
  rv : RepV η' w' (Av A0 η' (hpGet hout)) r v
  fr : Fr (Live η (hpGet hin)) w w'
  old : ∀ g, Live η' (hpGet hout) g → g < w.heap.size → Live η (hpGet hin) g

/-- Whatever world and whatever values these arguments are, with these blocks handed in: the function returns this, and nothing else that was there has turned. -/
def HC (P : Program) (f : FuncId) (hin : List (Nat × ABlk)) (l : List AVal) (hout : List (Nat × ABlk)) (r : AVal) : Prop :=
  FnOK P f ∧ ∀ (η : Nat → Value) (A0 : Nat → Prop) (w : World) (vs : Array Value), RelH A0 η (hpGet hin) w → RepVs η w (Av A0 η (hpGet hin)) l vs.toList →
    Calls P f vs w fun e w' => ∃ v η', e = .returned v ∧ Gave η A0 w hin hout r v η' w'

/-- The same, with no blocks. -/
abbrev PC (P : Program) (f : FuncId) (l : List AVal) (r : AVal) : Prop := HC P f [] l [] r

/-! ### What an operation does -/
section
variable (P : Program) (T : Tab) (s : ASt)

/-- The elements of a slice value. -/
def listOf : AVal → Option ((t : Ty) × List (El t))
  | .sl t xs => some ⟨t, xs⟩
  | .own b => match s.H b with
    | some (.arr _ t xs) => some ⟨t, xs⟩
    | some (.imm t xs) => some ⟨t, xs⟩
    | _ => none
  | _ => none

def splice (l : List AVal) (off : Nat) (us : List AVal) : List AVal := l.take off ++ us ++ l.drop (off + us.length)

def stLoad (t : TypeId) (x : AVal) (K : Eff → Prop) : Prop :=
  match T t with
  | none => False
  | some i => match x with
    | .bp b off => match s.H b with
      | some (.box _ cs) => off + i.size ≤ cs.length ∧ (i.desc.agg = true ∨ i.size = 1) ∧ K { v := pack i.desc ((cs.drop off).take i.size) }
      | _ => False
    | .dp τ x off => off + i.size ≤ τ.size ∧ (i.desc.agg = true ∨ i.size = 1) ∧ K { v := pack i.desc (((cellsOf τ x).drop off).take i.size) }
    | .ap b sz j off => match s.H b with
      | some (.arr _ τ xs) => sz = τ.size ∧ off + i.size ≤ τ.size ∧ (i.desc.agg = true ∨ i.size = 1) ∧ j < xs.length ∧ K { v := pack i.desc (((cellsOf τ (xs.getD j τ.dflt)).drop off).take i.size) }
      | _ => False
    | _ => False

def stStore (t : TypeId) (x v : AVal) (K : Eff → Prop) : Prop :=
  match T t with
  | none => False
  | some i => (cellsV v).length = i.size ∧ (cellsV v).all (AVal.cell s.H) = true ∧
    match x with
    | .bp b off => match s.H b with
      | some (.box ty cs) => off + i.size ≤ cs.length ∧ K { v := .un, hp := [(b, .box ty (splice cs off (cellsV v)))] }
      | _ => False
    | .ap b sz j off => match s.H b with
      | some (.arr e τ xs) => sz = τ.size ∧ off + i.size ≤ τ.size ∧ j < xs.length ∧ (v.ids.contains b = false) ∧
        match toEl s.H τ (splice (cellsOf τ (xs.getD j τ.dflt)) off (cellsV v)) with
        | some (x', []) => K { v := .un, hp := (b, .arr e τ (xs.set j x')) :: rest s.H v.ids }
        | _ => False
      | _ => False
    | _ => False

def stBin (op : BinOp) (x y : AVal) (K : Eff → Prop) : Prop :=
  match x, y with
  | .int k a, .int k' b => k = k' ∧
    match op with
    | .add => InK k (a + b) ∧ K { v := .int k (a + b) }
    | .sub => InK k (a - b) ∧ K { v := .int k (a - b) }
    | .mul => InK k (a * b) ∧ K { v := .int k (a * b) }
    | .quo => 0 ≤ a ∧ 0 < b ∧ InK k (a / b) ∧ K { v := .int k (a / b) }
    | .rem => 0 ≤ a ∧ 0 < b ∧ K { v := .int k (a % b) }
    | .eql => K { v := .bool (decide (a = b)) }
    | .neq => K { v := .bool (!decide (a = b)) }
    | .lss => K { v := .bool (decide (a < b)) }
    | .leq => K { v := .bool (decide (a ≤ b)) }
    | .gtr => K { v := .bool (decide (b < a)) }
    | .geq => K { v := .bool (decide (b ≤ a)) }
    | _ => False
  | _, _ => False

def stEq (t : TypeId) (neg : Bool) (x y : AVal) (K : Eff → Prop) : Prop :=
  match x, y with
  | .bool a, .bool b => (match T t with | some i => i.desc = .bool | none => False) ∧ K { v := .bool ((a == b) != neg) }
  | _, _ => False

def stUn (op : UnOp) (x : AVal) (K : Eff → Prop) : Prop :=
  match op, x with
  | .not, .bool b => K { v := .bool (!b) }
  | .neg, .int k n => InK k (-n) ∧ K { v := .int k (-n) }
  | _, _ => False

def stConv (dst : TypeId) (x : AVal) (K : Eff → Prop) : Prop :=
  match T dst, x with
  | some i, .int _ n => match i.desc with
    | .int k => InK k n ∧ K { v := .int k n }
    | _ => False
  | _, _ => False

def stFieldAddr (t : TypeId) (x : AVal) (f : Nat) (K : Eff → Prop) : Prop :=
  match T t with
  | some i => match i.desc with
    | .struct fs => match fs[f]? with
      | some (off, _, sz) => sz ≠ 0 ∧
        match x with
        | .bp b o => K { v := .bp b (o + off) }
        | .dp τ y o => K { v := .dp τ y (o + off) }
        | .ap b n j o => K { v := .ap b n j (o + off) }
        | _ => False
      | none => False
    | _ => False
  | none => False

def stField (t : TypeId) (x : AVal) (f : Nat) (K : Eff → Prop) : Prop :=
  match T t with
  | some i => match i.desc with
    | .struct fs => match fs[f]?, x with
      | some (off, ft, sz), .agg l => match T ft with
        | some j => j.size = sz ∧ off + sz ≤ l.length ∧ (j.desc.agg = true ∨ sz = 1) ∧ K { v := pack j.desc ((l.drop off).take sz) }
        | none => False
      | _, _ => False
    | _ => False
  | none => False

def stIndexAddr (t : TypeId) (x ix : AVal) (K : Eff → Prop) : Prop :=
  match T t with
  | some i => match i.desc with
    | .sl e => match T e, ix with
      | some ie, .int _ n => match x with
        | .sl τ xs => τ.size = ie.size ∧ 0 ≤ n ∧ n < (xs.length : Int) ∧ K { v := .dp τ (xs.getD n.toNat τ.dflt) 0 }
        | .own b => match s.H b with
          | some (.arr _ τ xs) => τ.size = ie.size ∧ 0 ≤ n ∧ n < (xs.length : Int) ∧ K { v := .ap b τ.size n.toNat 0 }
          | some (.imm τ xs) => τ.size = ie.size ∧ 0 ≤ n ∧ n < (xs.length : Int) ∧ K { v := .dp τ (xs.getD n.toNat τ.dflt) 0 }
          | _ => False
        | _ => False
      | _, _ => False
    | .arr len e => match T e, ix with
      | some ie, .int _ n => 0 ≤ n ∧ n < (len : Int) ∧
        match x with
        | .bp b o => K { v := .bp b (o + n.toNat * ie.size) }
        | .dp τ y o => K { v := .dp τ y (o + n.toNat * ie.size) }
        | .ap b m j o => K { v := .ap b m j (o + n.toNat * ie.size) }
        | _ => False
      | _, _ => False
    | _ => False
  | none => False

def stSlice (t : TypeId) (x : AVal) (lo hi : Option AVal) (K : Eff → Prop) : Prop :=
  match T t with
  | some i => match i.desc with
    | .sl e => match T e, listOf s x with
      | some ie, some ⟨τ, xs⟩ => τ.size = ie.size ∧
        match lo, hi with
        | none, none => K { v := .sl τ xs, hp := rest s.H x.ids }
        | some (.int _ l), none => 0 ≤ l ∧ l ≤ (xs.length : Int) ∧ K { v := .sl τ (xs.drop l.toNat), hp := rest s.H x.ids }
        | none, some (.int _ h) => 0 ≤ h ∧ h ≤ (xs.length : Int) ∧ K { v := .sl τ (xs.take h.toNat), hp := rest s.H x.ids }
        | some (.int _ l), some (.int _ h) => 0 ≤ l ∧ l ≤ h ∧ h ≤ (xs.length : Int) ∧ K { v := .sl τ ((xs.take h.toNat).drop l.toNat), hp := rest s.H x.ids }
        | _, _ => False
      | _, _ => False
    | _ => False
  | none => False

def fillA (fs : List (Nat × TypeId × Nat)) (cells : List AVal) : List (Nat × AVal) → Option (List AVal)
  | [] => some cells
  | (i, v) :: r => match fs[i]? with
    | some (off, _, sz) => if (cellsV v).length = sz ∧ off + sz ≤ cells.length then fillA fs (splice cells off (cellsV v)) r else none
    | none => none

def stBuild (t : TypeId) (parts : List (Nat × AVal)) (K : Eff → Prop) : Prop :=
  match T t with
  | some i => match i.desc with
    | .struct fs => (parts.all fun p => (cellsV p.2).all (AVal.cell s.H)) = true ∧ match fillA fs (i.zero.map ofConst) parts with
      | some cells => K { v := .agg cells }
      | none => False
    | .arr n e => match T e with
      | some ie => (parts.all fun p => (cellsV p.2).all (AVal.cell s.H)) = true ∧ match fillA ((List.range n).map fun j => (j * ie.size, e, ie.size)) (i.zero.map ofConst) parts with
        | some cells => K { v := .agg cells }
        | none => False
      | none => False
    | _ => False
  | none => False

def toEls (H : AHeap) (t : Ty) : List AVal → Option (List (El t))
  | [] => some []
  | v :: r => match toEl H t (cellsV v), toEls H t r with
    | some (x, []), some xs => some (x :: xs)
    | _, _ => none

def stBuildSlice (nid : Nat) (t : TypeId) (len : Nat) (parts : List (Nat × AVal)) (K : Eff → Prop) : Prop :=
  match T t with
  | some i => match i.desc with
    | .sl e => match T e with
      | some ie => match ie.dt with
        | some τ => parts.map (·.1) = List.range len ∧ len * ie.size ≤ 16777216 ∧ (parts.all fun p => (cellsV p.2).all (AVal.cell s.H)) = true ∧ ((AVal.idsL (parts.map (·.2))).contains nid = false) ∧
          match toEls s.H τ (parts.map (·.2)) with
          | some xs => K { v := .own nid, kill := [nid], hp := (nid, .arr e τ xs) :: rest s.H (AVal.idsL (parts.map (·.2))) }
          | none => False
        | none => False
      | none => False
    | _ => False
  | none => False

def stMakeSlice (nid : Nat) (t : TypeId) (l c : AVal) (K : Eff → Prop) : Prop :=
  match T t, l, c with
  | some i, .int _ n, .int _ m => match i.desc with
    | .sl e => match T e with
      | some ie => match ie.dt with
        | some τ => 0 ≤ n ∧ n ≤ m ∧ (ie.bytes : Int) * m ≤ 281474976710656 ∧ m ≤ 9223372036854775807 ∧ K { v := .own nid, kill := [nid], hp := [(nid, .arr e τ (List.replicate n.toNat τ.dflt))] }
        | none => False
      | none => False
    | _ => False
  | _, _, _ => False

def stAppend (nid : Nat) (t : TypeId) (x y : AVal) (K : Eff → Prop) : Prop :=
  match T t with
  | some i => match i.desc with
    | .sl e => match T e with
      | some ie => match ie.dt with
        | some τ => match x with
          | .own b => match s.H b with
            | some (.arr e' τ' xs) => e' = e ∧ (y.ids.contains b = false) ∧ (y.ids.contains nid = false) ∧
              (match y with
              | .cv v => v = .slice none 0 0 ∧ τ' = τ ∧ K { v := .own b }
              | _ => match listOf s y with
                | some ⟨τy, ys⟩ => if h1 : τ' = τ then if h2 : τy = τ then (xs.length + ys.length) * ie.bytes ≤ 140737488355328 ∧ xs.length + ys.length ≤ maxLen ∧
                  K { v := .own nid, kill := [b, nid], hp := [(nid, .arr e τ (castL h1 xs ++ castL h2 ys))] } else False else False
                | none => False)
            | _ => False
          | .cv v => v = .slice none 0 0 ∧ (y.ids.contains nid = false) ∧
            (match listOf s y with
            | some ⟨τy, ys⟩ => if h2 : τy = τ then ys.length * ie.bytes ≤ 140737488355328 ∧ ys.length ≤ maxLen ∧
              K { v := .own nid, kill := [nid], hp := [(nid, .arr e τ (castL h2 ys))] } else False
            | none => False)
          | _ => False
        | none => False
      | none => False
    | _ => False
  | none => False

def stLen (x : AVal) (K : Eff → Prop) : Prop :=
  match x with
  | .cv v => v = .slice none 0 0 ∧ K { v := .int .i64 0 }
  | _ => match listOf s x with
    | some ⟨_, xs⟩ => K { v := .int .i64 xs.length }
    | none => False

def stExtract (x : AVal) (i : Nat) (K : Eff → Prop) : Prop :=
  match x with
  | .tup l => match l[i]? with
    | some v => K { v := v }
    | none => False
  | _ => False

def stNil (x : AVal) (K : Eff → Prop) : Prop :=
  match x with
  | .bp b o => K { v := .bp b o }
  | .ap b n j o => K { v := .ap b n j o }
  | .dp t y o => K { v := .dp t y o }
  | .fn (.func f) p c => K { v := .fn (.func f) p c }
  | _ => False

/-- Names of blocks that a call makes. -/
def fresh (d c : Nat) : Nat := 10000 + 1000 * d + (c - 2000)
def back (d : Nat) (rn : List (Nat × Nat)) (hin : List (Nat × ABlk)) (c : Nat) : Nat := if hasKey hin c then look rn c else fresh d c

def lostH (rn : List (Nat × Nat)) (hout : List (Nat × ABlk)) : List (Nat × ABlk) → List Nat
  | [] => []
  | (c, _) :: r => if hasKey hout c then lostH rn hout r else look rn c :: lostH rn hout r
def newH (d : Nat) (hin : List (Nat × ABlk)) : List (Nat × ABlk) → List Nat
  | [] => []
  | (c, _) :: r => if hasKey hin c then newH d hin r else fresh d c :: newH d hin r

def handedH : List (Nat × ABlk) → Bool
  | [] => true
  | (c, _) :: r => decide (1000 ≤ c) && decide (c < 2000) && handedH r

def goodH (hin : List (Nat × ABlk)) : List (Nat × ABlk) → Bool
  | [] => true
  | (c, _) :: r => !hasKey r c && (hasKey hin c || (decide (2000 ≤ c) && decide (c < 3000))) && goodH hin r

/-- Which rows are handed in, and under which names, is in order. -/
def callOK (d : Nat) (D : List Nat) (rn : List (Nat × Nat)) (hin hout : List (Nat × ABlk)) (r : AVal) (xs : List AVal) : Bool :=
  handedH hin && mutH hin && mutH hout && goodH hin hout && ((hin.isEmpty && D.isEmpty) || !(AVal.idsL xs).isEmpty) && ((r.ids ++ idsH hout).all (hasKey hout)) &&
    (hin.all fun q => !D.contains (look rn q.1)) && rnOK rn hin && (hin.all fun q => !(newH d hin hout).contains (look rn q.1))
where
  rnOK (rn : List (Nat × Nat)) : List (Nat × ABlk) → Bool
    | [] => true
    | (c, _) :: r => !hasKey r c && (r.all fun q => look rn q.1 != look rn c) && rnOK rn r

def stCall (d : Nat) (f : AVal) (args : List AVal) (K : Eff → Prop) : Prop :=
  match f with
  | .fn (.func g) p c => ∃ (D : List Nat) (rn : List (Nat × Nat)) (hin : List (Nat × ABlk)) (l : List AVal) (hout : List (Nat × ABlk)) (r : AVal), HC P g hin l hout r ∧ callOK d D rn hin hout r (p ++ args ++ c) = true ∧
      LeL s.H D [] (look rn) (p ++ args ++ c) l ∧ LeH s.H D [] (look rn) hin ∧
      K { v := r.ren (back d rn hin), kill := lostH rn hout hin ++ newH d hin hout, hp := renH (back d rn hin) hout ++ (if (r.dry && dryH hout) = true then [] else rest s.H D) }
  | _ => False

def stBuiltin (nid : Nat) (b : Builtin) (tys : List TypeId) (args : List AVal) (K : Eff → Prop) : Prop :=
  match b, tys, args with
  | .len, [t], [x] => (match T t with | some i => (match i.desc with | .sl _ => True | _ => False) | none => False) ∧ stLen s x K
  | .append, [t, t'], [x, y] => t' = t ∧ stAppend T s nid t x y K
  | .max, _, [.int k a, .int k' b] => k = k' ∧ K { v := .int k (max a b) }
  | .min, _, [.int k a, .int k' b] => k = k' ∧ K { v := .int k (min a b) }
  | _, _, _ => False

def isNilSlice : Operand → Bool
  | .const (.slice none 0 0) => true
  | _ => false

def stepOp (o : Oper) (K : Eff → Prop) : Prop :=
  match o.op with
  | .move x => K { v := s.ev x }
  | .assign x => K { v := s.ev x }
  | .pick c a b => match s.ev c with
    | .bool p => (p = true → K { v := s.ev a }) ∧ (p = false → K { v := s.ev b })
    | _ => False
  | .alloc t => match T t with
    | some i => K { v := .bp (o.dst.getD 0) 0, kill := [o.dst.getD 0], hp := [(o.dst.getD 0, .box t (i.zero.map ofConst))] }
    | none => False
  | .box t x => match T t with
    | some i => (cellsV (s.ev x)).length = i.size ∧ (cellsV (s.ev x)).all (AVal.cell s.H) = true ∧ (s.ev x).ids.contains (o.dst.getD 0) = false ∧
      K { v := .bp (o.dst.getD 0) 0, kill := [o.dst.getD 0], hp := [(o.dst.getD 0, .box t (cellsV (s.ev x)))] }
    | none => False
  | .build t parts => stBuild T s t (parts.toList.map fun p => (p.1, s.ev p.2)) K
  | .buildSlice t len parts => stBuildSlice T s (o.dst.getD 0) t len (parts.toList.map fun p => (p.1, s.ev p.2)) K
  | .load t x => stLoad T s t (s.ev x) K
  | .store t x v => stStore T s t (s.ev x) (s.ev v) K
  | .nilCheck x => stNil (s.ev x) K
  | .binOp op t x y _ => match s.ev x, op with
    | .bool a, .eql => stEq T t false (.bool a) (s.ev y) K
    | .bool a, .neq => stEq T t true (.bool a) (s.ev y) K
    | x', _ => stBin op x' (s.ev y) K
  | .unOp op _ x => stUn op (s.ev x) K
  | .convert src dst x => (T src).isSome = true ∧ stConv T dst (s.ev x) K
  | .makeFunc fn first cap => K { v := .fn fn (first.toList.map s.ev) (cap.toList.map s.ev) }
  | .makeSlice t l c => stMakeSlice T (o.dst.getD 0) t (s.ev l) (s.ev c) K
  | .slice t x lo hi none => stSlice T s t (s.ev x) (lo.map s.ev) (hi.map s.ev) K
  | .fieldAddr t x f => stFieldAddr T t (s.ev x) f K
  | .field t x f => stField T t (s.ev x) f K
  | .indexAddr t x ix => stIndexAddr T s t (s.ev x) (s.ev ix) K
  | .extract x i => stExtract (s.ev x) i K
  | .call c => match c.callee with
    | .builtin b => stBuiltin T s (o.dst.getD 0) b c.argTypes.toList (c.args.toList.map s.ev) K
    | .value f => stCall P s (o.dst.getD 0) (s.ev f) (c.args.toList.map s.ev) K
    | .invoke _ _ => False
  | _ => False

end

end Go.Proofs.Ytcijihofjcfpoab
