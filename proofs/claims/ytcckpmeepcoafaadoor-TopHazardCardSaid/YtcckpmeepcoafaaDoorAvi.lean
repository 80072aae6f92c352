/-
  The abstract machine: rows of rows in the calculation of states. No program is named here.
-/
import Derived.Test.YtcckpmeepcoafaaDoorAvh
namespace Go.Proofs.YtcckpmeepcoafaaDoor
open Go.RowKit

set_option linter.constructorNameAsVariable false
set_option linter.unusedSimpArgs false
set_option linter.unusedVariables false

theorem clean_inm {K : List Nat} {b i : Nat} (hK : smallI K = true) : AVal.clean K (.own (inm b i)) = .own (inm b i) := by
  rw [clean_own, if_neg]
  rw [not_in_small hK (inm_big b i)]; simp
theorem clean_apinm {K : List Nat} {b i sz j o : Nat} (hK : smallI K = true) : AVal.clean K (.ap (inm b i) sz j o) = .ap (inm b i) sz j o := by
  rw [clean_ap, if_neg]
  rw [not_in_small hK (inm_big b i)]; simp

theorem rowsC_cleanF {b k : Nat} {K : List Nat} (hK : smallI K = true) : (rowsC b k).map (AVal.clean K) = rowsC b k := rowsC_clean hK k
theorem fitsH_twoT {σ : Nat → AVal} {g : Gh} {b : Nat} {e : TypeId} {t : Ty} {xss : List (List (El t))} {h h' : List (Nat × ABlk)} (hs : smallH h = true) : fitsH ⟨σ, hpGet (two h (rowsL b e t xss)), g⟩ (two h' (rowsL b e t xss)) = fitsH ⟨σ, hpGet (two h (rowsL b e t xss)), g⟩ h' := by
  rw [fitsH_two, fitsH_selfT hs, and_true]
theorem LeH_twoT {D N : List Nat} {rn : List (Nat × Nat)} {b : Nat} {e : TypeId} {t : Ty} {xss : List (List (El t))} {h h' : List (Nat × ABlk)} (hs : smallH h = true) (hN : smallI N = true) (hr : smallR rn = true) : LeH (hpGet (two h (rowsL b e t xss))) D N (look rn) (two h' (rowsL b e t xss)) = LeH (hpGet (two h (rowsL b e t xss))) D N (look rn) h' := by
  rw [LeH_two, LeH_selfT hs hN hr, and_true]

theorem hpGet_two_atT {h : List (Nat × ABlk)} {b : Nat} {e : TypeId} {t : Ty} {xss : List (List (El t))} {i : Nat} (hs : smallH h = true) (hi : i < List.length xss) : hpGet (two h (rowsL b e t xss)) (inm b i) = some (.arr e t (xss.getD i [])) := hpGet_two_at hs hi
theorem rowsC_getD {b k j : Nat} (h : j < k) : (rowsC b k).getD j .un = .own (inm b j) := by simp [List.getD, rowsC_get h]

theorem rowsC_set {b i : Nat} {xss : List (List Int)} {ys : List Int} : rowsC b (List.length (xss.set i ys)) = rowsC b (List.length xss) := by rw [List.length_set]

theorem cons_two (x : Nat × ABlk) (h r : List (Nat × ABlk)) : x :: two h r = two (x :: h) r := rfl

/-- The state with rows of rows, under other names. -/
theorem Wk.leTwo {n : Nat} {σ : Nat → AVal} {g : Gh} {h : List (Nat × ABlk)} {b : Nat} {eo ei : TypeId} {τ : Ty} {xss : List (List (El τ))} (D N : List Nat) (rn : List (Nat × Nat)) {l' : List (Nat × AVal)} {h' : List (Nat × ABlk)} (hD : smallI D = true) (hN : smallI N = true) (hr : smallR rn = true)
    (hs : smallH h = true) (hs' : smallH ((b, .obx eo (rowsC b xss.length)) :: h') = true) (hb : hpGet h b = some (.obx eo (rowsC b xss.length))) (hlb : look rn b = b) (hNb : N.contains b = false) (ok : namesOK (look rn) D N ((b, .obx eo (rowsC b xss.length)) :: h') = true)
    (hl : leF ⟨σ, hpGet (two h (rowsL b ei τ xss)), g⟩ D N (look rn) l') (hh : LeH (hpGet (two h (rowsL b ei τ xss))) D N (look rn) h') :
    Wk n ⟨σ, hpGet (two h (rowsL b ei τ xss)), g⟩ ⟨fr l', hpGet (two ((b, .obx eo (rowsC b xss.length)) :: h') (rowsL b ei τ xss)), g⟩ := by
  refine Wk.le D N rn (namesOK_two hD hN hr hs' ok) hl ?_
  rw [LeH_two]
  refine ⟨?_, LeH_self hs hN hr⟩
  unfold LeH
  refine ⟨?_, hh⟩
  have hbs : b < 1000000 := by
    rw [smallH_cons, Bool.and_eq_true, decide_eq_true_eq] at hs'
    exact hs'.1
  rw [if_neg (by rw [hNb]; simp), hlb, show (ASt.mk σ (hpGet (two h (rowsL b ei τ xss))) g).H b = some (.obx eo (rowsC b xss.length)) from (hpGet_two_lit hbs).trans hb]
  show LeB _ D N (look rn) (.obx eo (rowsC b xss.length)) (.obx eo (rowsC b xss.length))
  unfold LeB
  exact ⟨rfl, LeL_rows hN hr _⟩

attribute [go_sem high] clean_inm clean_apinm fitsH_twoT cleanH_two
attribute [go_sem] rowsC_len rowsC_getD hpGet_two_atT hpGet_two_lit append_two cons_two rowsC_cleanF bclean_obx LeL_rowsT smallI_nil smallI_cons smallH_nil smallH_cons smallR_nil smallR_cons rowsC_set

section
variable {P : Program} {T : Tab} {n : Nat} {ro : Option Nat} {Q : Exit → ASt → Prop} {g : Gh} {o : Oper} {ops rs : List Oper} {l : List (Nat × AVal)} {h : List (Nat × ABlk)}

theorem AO.rowsNew (hT : TabOK P T) {d : Nat} {to eo : TypeId} (ei : TypeId) {io ie : TInfo} (τ : Ty) {len cap : Operand} {N : Int} (hdst : o.dst = some d) (hd : dstOK n [o] = true) (hfew : d < 1000) (hg : o.guard = none) (ho : o.op = .makeSlice to len cap)
    (t1 : T to = some io) (d1 : io.desc = .sl eo) (t2 : T eo = some ie) (z2 : ie.zero = [.slice none 0 0]) (s2 : ie.size = 1) (hl : (ASt.mk (fr l) (hpGet h) g).ev len = .int .i64 N) (hc : (ASt.mk (fr l) (hpGet h) g).ev cap = .int .i64 N)
    (h0 : 0 ≤ N) (hby : ie.bytes * N ≤ 281474976710656) (hmx : N ≤ 9223372036854775807) (hs1 : smallH h = true) (hs2 : smallI (idsF l) = true) (hs3 : smallI (idsH h) = true)
    (h2 : AO P ro n ops rs Q ⟨fr ((d, .own d) :: cleanF [d] l), hpGet (two ((d, .obx eo (rowsC d (List.replicate N.toNat ([] : List (El τ))).length)) :: cleanH [d] h) (rowsL d ei τ (List.replicate N.toNat ([] : List (El τ))))), g⟩) :
    AO P ro n ops (o :: rs) Q ⟨fr l, hpGet h, g⟩ :=
  AO.rowsMake hT (io := io) (ie := ie) (ii := ie) (ei := ei) (τ := τ) hdst hd hfew hg ho t1 d1 t2 z2 s2 hl hc h0 hby hmx hs1 hs2 hs3 h2

end

end Go.Proofs.YtcckpmeepcoafaaDoor
