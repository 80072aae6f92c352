/-
  The abstract machine, 13: an operation yields one effect, and looks only at what its operands speak of. No program is named here.
-/
import Derived.Test.YtcijihofjcfpoabAv12
namespace Go.Proofs.Ytcijihofjcfpoab
open Go.RowKit

set_option linter.constructorNameAsVariable false

section
variable {P : Program} {T : Tab} {s : ASt} {K K' : Eff → Prop}

theorem pure_det {v : Eff} (h : K v) : ∃ e, v = e ∧ K e := ⟨v, rfl, h⟩

theorem stLoad_det {t : TypeId} {x : AVal} (h : stLoad T s t x K) : ∃ e, stLoad T s t x (fun y => y = e) ∧ K e := by
  unfold stLoad at *
  (repeat' split at h) <;> first | exact h.elim | ((repeat (obtain ⟨_, h⟩ := h)) <;> subst_vars <;> refine ⟨_, ?_, h⟩ <;> first | (simp only [*]; done) | (simp only [*, and_self]; done) | (simp only [*]; repeat' apply And.intro) <;> first | trivial | assumption | (simp; done))
theorem stStore_det {t : TypeId} {x v : AVal} (h : stStore T s t x v K) : ∃ e, stStore T s t x v (fun y => y = e) ∧ K e := by
  unfold stStore at *
  (repeat' split at h) <;> first | exact h.elim | ((repeat (obtain ⟨_, h⟩ := h)) <;> subst_vars <;> refine ⟨_, ?_, h⟩ <;> first | (simp only [*]; done) | (simp only [*, and_self]; done) | (simp only [*]; repeat' apply And.intro) <;> first | trivial | assumption | (simp; done))
theorem stBin_det {op : BinOp} {x y : AVal} (h : stBin op x y K) : ∃ e, stBin op x y (fun y => y = e) ∧ K e := by
  unfold stBin at *
  (repeat' split at h) <;> first | exact h.elim | ((repeat (obtain ⟨_, h⟩ := h)) <;> subst_vars <;> refine ⟨_, ?_, h⟩ <;> first | (simp only [*]; done) | (simp only [*, and_self]; done) | (simp only [*]; repeat' apply And.intro) <;> first | trivial | assumption | (simp; done))
theorem stEq_det {t : TypeId} {b : Bool} {x y : AVal} (h : stEq T t b x y K) : ∃ e, stEq T t b x y (fun y => y = e) ∧ K e := by
  unfold stEq at *
  (repeat' split at h) <;> first | exact h.elim | ((repeat (obtain ⟨_, h⟩ := h)) <;> subst_vars <;> refine ⟨_, ?_, h⟩ <;> first | (simp only [*]; done) | (simp only [*, and_self]; done) | (simp only [*]; repeat' apply And.intro) <;> first | trivial | assumption | (simp; done))
theorem stUn_det {op : UnOp} {x : AVal} (h : stUn op x K) : ∃ e, stUn op x (fun y => y = e) ∧ K e := by
  unfold stUn at *
  (repeat' split at h) <;> first | exact h.elim | ((repeat (obtain ⟨_, h⟩ := h)) <;> subst_vars <;> refine ⟨_, ?_, h⟩ <;> first | (simp only [*]; done) | (simp only [*, and_self]; done) | (simp only [*]; repeat' apply And.intro) <;> first | trivial | assumption | (simp; done))
theorem stConv_det {t : TypeId} {x : AVal} (h : stConv T t x K) : ∃ e, stConv T t x (fun y => y = e) ∧ K e := by
  unfold stConv at *
  (repeat' split at h) <;> first | exact h.elim | ((repeat (obtain ⟨_, h⟩ := h)) <;> subst_vars <;> refine ⟨_, ?_, h⟩ <;> first | (simp only [*]; done) | (simp only [*, and_self]; done) | (simp only [*]; repeat' apply And.intro) <;> first | trivial | assumption | (simp; done))
theorem stFieldAddr_det {t : TypeId} {x : AVal} {f : Nat} (h : stFieldAddr T t x f K) : ∃ e, stFieldAddr T t x f (fun y => y = e) ∧ K e := by
  unfold stFieldAddr at *
  (repeat' split at h) <;> first | exact h.elim | ((repeat (obtain ⟨_, h⟩ := h)) <;> subst_vars <;> refine ⟨_, ?_, h⟩ <;> first | (simp only [*]; done) | (simp only [*]; repeat' apply And.intro) <;> first | trivial | assumption | (simp; done))
theorem stField_det {t : TypeId} {x : AVal} {f : Nat} (h : stField T t x f K) : ∃ e, stField T t x f (fun y => y = e) ∧ K e := by
  unfold stField at *
  (repeat' split at h) <;> first | exact h.elim | ((repeat (obtain ⟨_, h⟩ := h)) <;> subst_vars <;> refine ⟨_, ?_, h⟩ <;> first | (simp only [*]; done) | (simp only [*, and_self]; done) | (simp only [*]; repeat' apply And.intro) <;> first | trivial | assumption | (simp; done))
theorem stIndexAddr_det {t : TypeId} {x y : AVal} (h : stIndexAddr T s t x y K) : ∃ e, stIndexAddr T s t x y (fun y => y = e) ∧ K e := by
  unfold stIndexAddr at *
  (repeat' split at h) <;> first | exact h.elim | ((repeat (obtain ⟨_, h⟩ := h)) <;> subst_vars <;> refine ⟨_, ?_, h⟩ <;> first | (simp only [*]; done) | (simp only [*, and_self]; done) | (simp only [*]; repeat' apply And.intro) <;> first | trivial | assumption | (simp; done))
theorem stSlice_det {t : TypeId} {x : AVal} {lo hi : Option AVal} (h : stSlice T s t x lo hi K) : ∃ e, stSlice T s t x lo hi (fun y => y = e) ∧ K e := by
  unfold stSlice at *
  (repeat' split at h) <;> first | exact h.elim | ((repeat (obtain ⟨_, h⟩ := h)) <;> subst_vars <;> refine ⟨_, ?_, h⟩ <;> first | (simp only [*]; done) | (simp only [*, and_self]; done) | (simp only [*]; repeat' apply And.intro) <;> first | trivial | assumption | (simp; done))
theorem stBuild_det {t : TypeId} {ps : List (Nat × AVal)} (h : stBuild T s t ps K) : ∃ e, stBuild T s t ps (fun y => y = e) ∧ K e := by
  unfold stBuild at *
  (repeat' split at h) <;> first | exact h.elim | ((repeat (obtain ⟨_, h⟩ := h)) <;> subst_vars <;> refine ⟨_, ?_, h⟩ <;> first | (simp only [*]; done) | (simp only [*, and_self]; done) | (simp only [*]; repeat' apply And.intro) <;> first | trivial | assumption | (simp; done))
theorem stBuildSlice_det {nid : Nat} {t : TypeId} {len : Nat} {ps : List (Nat × AVal)} (h : stBuildSlice T s nid t len ps K) : ∃ e, stBuildSlice T s nid t len ps (fun y => y = e) ∧ K e := by
  unfold stBuildSlice at *
  (repeat' split at h) <;> first | exact h.elim | ((repeat (obtain ⟨_, h⟩ := h)) <;> subst_vars <;> refine ⟨_, ?_, h⟩ <;> first | (simp only [*]; done) | (simp only [*, and_self]; done) | (simp only [*]; repeat' apply And.intro) <;> first | trivial | assumption | (simp; done))
theorem stMakeSlice_det {nid : Nat} {t : TypeId} {x y : AVal} (h : stMakeSlice T nid t x y K) : ∃ e, stMakeSlice T nid t x y (fun y => y = e) ∧ K e := by
  unfold stMakeSlice at *
  (repeat' split at h) <;> first | exact h.elim | ((repeat (obtain ⟨_, h⟩ := h)) <;> subst_vars <;> refine ⟨_, ?_, h⟩ <;> first | (simp only [*]; done) | (simp only [*, and_self]; done) | (simp only [*]; repeat' apply And.intro) <;> first | trivial | assumption | (simp; done))
theorem stAppend_det {nid : Nat} {t : TypeId} {x y : AVal} (h : stAppend T s nid t x y K) : ∃ e, stAppend T s nid t x y (fun y => y = e) ∧ K e := by
  unfold stAppend at *
  (repeat' split at h) <;> first | exact h.elim | ((repeat (obtain ⟨_, h⟩ := h)) <;> subst_vars <;> refine ⟨_, ?_, h⟩ <;> first | (simp only [*]; done) | (simp only [*, and_self]; done) | (simp only [*]; repeat' apply And.intro) <;> first | trivial | assumption | (simp; done))
theorem stLen_det {x : AVal} (h : stLen s x K) : ∃ e, stLen s x (fun y => y = e) ∧ K e := by
  unfold stLen at *
  (repeat' split at h) <;> first | exact h.elim | ((repeat (obtain ⟨_, h⟩ := h)) <;> subst_vars <;> refine ⟨_, ?_, h⟩ <;> first | (simp only [*]; done) | (simp only [*, and_self]; done) | (simp only [*]; repeat' apply And.intro) <;> first | trivial | assumption | (simp; done))
theorem stExtract_det {x : AVal} {i : Nat} (h : stExtract x i K) : ∃ e, stExtract x i (fun y => y = e) ∧ K e := by
  unfold stExtract at *
  (repeat' split at h) <;> first | exact h.elim | ((repeat (obtain ⟨_, h⟩ := h)) <;> subst_vars <;> refine ⟨_, ?_, h⟩ <;> first | (simp only [*]; done) | (simp only [*, and_self]; done) | (simp only [*]; repeat' apply And.intro) <;> first | trivial | assumption | (simp; done))
theorem stNil_det {x : AVal} (h : stNil x K) : ∃ e, stNil x (fun y => y = e) ∧ K e := by
  unfold stNil at *
  (repeat' split at h) <;> first | exact h.elim | ((repeat (obtain ⟨_, h⟩ := h)) <;> subst_vars <;> refine ⟨_, ?_, h⟩ <;> first | (simp only [*]; done) | (simp only [*, and_self]; done) | (simp only [*]; repeat' apply And.intro) <;> first | trivial | assumption | (simp; done))
theorem stCall_det {d : Nat} {f : AVal} {args : List AVal} (h : stCall P s d f args K) : ∃ e, stCall P s d f args (fun y => y = e) ∧ K e := by
  unfold stCall at *
  split at h
  · obtain ⟨D, rn, hin, l, hout, r, h1, h2, h3, h4, h5⟩ := h
    exact ⟨_, ⟨D, rn, hin, l, hout, r, h1, h2, h3, h4, rfl⟩, h5⟩
  · exact h.elim
theorem stBuiltin_det {nid : Nat} {b : Builtin} {tys : List TypeId} {args : List AVal} (h : stBuiltin T s nid b tys args K) : ∃ e, stBuiltin T s nid b tys args (fun y => y = e) ∧ K e := by
  unfold stBuiltin at *
  split at h
  · obtain ⟨e, h1, h2⟩ := stLen_det h.2
    exact ⟨e, ⟨h.1, h1⟩, h2⟩
  · obtain ⟨e, h1, h2⟩ := stAppend_det h.2
    exact ⟨e, ⟨h.1, h1⟩, h2⟩
  · exact ⟨_, ⟨h.1, rfl⟩, h.2⟩
  · exact ⟨_, ⟨h.1, rfl⟩, h.2⟩
  · exact h.elim

theorem stepOp_det {o : Oper} (h : stepOp P T s o K) : ∃ e, stepOp P T s o (fun y => y = e) ∧ K e := by
  unfold stepOp at *
  split at h
  case h_1 => exact ⟨_, rfl, h⟩
  case h_2 => exact ⟨_, rfl, h⟩
  case h_3 =>
    split at h
    · rename_i p _
      cases p
      · exact ⟨_, ⟨fun e => (by cases e), fun _ => rfl⟩, h.2 rfl⟩
      · exact ⟨_, ⟨fun _ => rfl, fun e => (by cases e)⟩, h.1 rfl⟩
    · exact h.elim
  case h_4 => (repeat' split at h) <;> first | exact h.elim | ((repeat (obtain ⟨_, h⟩ := h)) <;> subst_vars <;> refine ⟨_, ?_, h⟩ <;> first | (simp only [*]; done) | (simp only [*, and_self]; done))
  case h_5 => (repeat' split at h) <;> first | exact h.elim | ((repeat (obtain ⟨_, h⟩ := h)) <;> subst_vars <;> refine ⟨_, ?_, h⟩ <;> first | (simp only [*]; done) | (simp only [*, and_self]; done))
  case h_6 => exact stBuild_det h
  case h_7 => exact stBuildSlice_det h
  case h_8 => exact stLoad_det h
  case h_9 => exact stStore_det h
  case h_10 => exact stNil_det h
  case h_11 =>
    split at h
    · exact stEq_det h
    · exact stEq_det h
    · exact stBin_det h
  case h_12 => exact stUn_det h
  case h_13 => obtain ⟨e, h1, h2⟩ := stConv_det h.2; exact ⟨e, ⟨h.1, h1⟩, h2⟩
  case h_14 => exact ⟨_, rfl, h⟩
  case h_15 => exact stMakeSlice_det h
  case h_16 => exact stSlice_det h
  case h_17 => exact stFieldAddr_det h
  case h_18 => exact stField_det h
  case h_19 => exact stIndexAddr_det h
  case h_20 => exact stExtract_det h
  case h_21 =>
    split at h
    · exact stBuiltin_det h
    · exact stCall_det h
    · exact h.elim
  case h_22 => exact h.elim


theorem stLoad_mono {t : TypeId} {x : AVal} (hk : ∀ e, K e → K' e) (h : stLoad T s t x K) : stLoad T s t x K' := by
  unfold stLoad at *
  (repeat' split at h) <;> first | exact h.elim | ((repeat (obtain ⟨_, h⟩ := h)) <;> subst_vars <;> have hk2 := hk _ h <;> first | exact hk2 | ((repeat' apply And.intro) <;> assumption) | (simp only [*]; done) | (simp only [*, and_self]; done) | (simp only [*]; repeat' apply And.intro) <;> first | trivial | assumption | (simp; done))
theorem stStore_mono {t : TypeId} {x v : AVal} (hk : ∀ e, K e → K' e) (h : stStore T s t x v K) : stStore T s t x v K' := by
  unfold stStore at *
  (repeat' split at h) <;> first | exact h.elim | ((repeat (obtain ⟨_, h⟩ := h)) <;> subst_vars <;> have hk2 := hk _ h <;> first | exact hk2 | ((repeat' apply And.intro) <;> assumption) | (simp only [*]; done) | (simp only [*, and_self]; done) | (simp only [*]; repeat' apply And.intro) <;> first | trivial | assumption | (simp; done))
theorem stBin_mono {op : BinOp} {x y : AVal} (hk : ∀ e, K e → K' e) (h : stBin op x y K) : stBin op x y K' := by
  unfold stBin at *
  (repeat' split at h) <;> first | exact h.elim | ((repeat (obtain ⟨_, h⟩ := h)) <;> subst_vars <;> have hk2 := hk _ h <;> first | exact hk2 | ((repeat' apply And.intro) <;> assumption) | (simp only [*]; done) | (simp only [*, and_self]; done) | (simp only [*]; repeat' apply And.intro) <;> first | trivial | assumption | (simp; done))
theorem stEq_mono {t : TypeId} {b : Bool} {x y : AVal} (hk : ∀ e, K e → K' e) (h : stEq T t b x y K) : stEq T t b x y K' := by
  unfold stEq at *
  (repeat' split at h) <;> first | exact h.elim | ((repeat (obtain ⟨_, h⟩ := h)) <;> subst_vars <;> have hk2 := hk _ h <;> first | exact hk2 | ((repeat' apply And.intro) <;> assumption) | (simp only [*]; done) | (simp only [*, and_self]; done) | (simp only [*]; repeat' apply And.intro) <;> first | trivial | assumption | (simp; done))
theorem stUn_mono {op : UnOp} {x : AVal} (hk : ∀ e, K e → K' e) (h : stUn op x K) : stUn op x K' := by
  unfold stUn at *
  (repeat' split at h) <;> first | exact h.elim | ((repeat (obtain ⟨_, h⟩ := h)) <;> subst_vars <;> have hk2 := hk _ h <;> first | exact hk2 | ((repeat' apply And.intro) <;> assumption) | (simp only [*]; done) | (simp only [*, and_self]; done) | (simp only [*]; repeat' apply And.intro) <;> first | trivial | assumption | (simp; done))
theorem stConv_mono {t : TypeId} {x : AVal} (hk : ∀ e, K e → K' e) (h : stConv T t x K) : stConv T t x K' := by
  unfold stConv at *
  (repeat' split at h) <;> first | exact h.elim | ((repeat (obtain ⟨_, h⟩ := h)) <;> subst_vars <;> have hk2 := hk _ h <;> first | exact hk2 | ((repeat' apply And.intro) <;> assumption) | (simp only [*]; done) | (simp only [*, and_self]; done) | (simp only [*]; repeat' apply And.intro) <;> first | trivial | assumption | (simp; done))
theorem stFieldAddr_mono {t : TypeId} {x : AVal} {f : Nat} (hk : ∀ e, K e → K' e) (h : stFieldAddr T t x f K) : stFieldAddr T t x f K' := by
  unfold stFieldAddr at *
  (repeat' split at h) <;> first | exact h.elim | ((repeat (obtain ⟨_, h⟩ := h)) <;> subst_vars <;> have hk2 := hk _ h <;> first | exact hk2 | ((repeat' apply And.intro) <;> assumption) | (simp only [*]; done) | (simp only [*]; repeat' apply And.intro) <;> first | trivial | assumption | (simp; done))
theorem stField_mono {t : TypeId} {x : AVal} {f : Nat} (hk : ∀ e, K e → K' e) (h : stField T t x f K) : stField T t x f K' := by
  unfold stField at *
  (repeat' split at h) <;> first | exact h.elim | ((repeat (obtain ⟨_, h⟩ := h)) <;> subst_vars <;> have hk2 := hk _ h <;> first | exact hk2 | ((repeat' apply And.intro) <;> assumption) | (simp only [*]; done) | (simp only [*, and_self]; done) | (simp only [*]; repeat' apply And.intro) <;> first | trivial | assumption | (simp; done))
theorem stIndexAddr_mono {t : TypeId} {x y : AVal} (hk : ∀ e, K e → K' e) (h : stIndexAddr T s t x y K) : stIndexAddr T s t x y K' := by
  unfold stIndexAddr at *
  (repeat' split at h) <;> first | exact h.elim | ((repeat (obtain ⟨_, h⟩ := h)) <;> subst_vars <;> have hk2 := hk _ h <;> first | exact hk2 | ((repeat' apply And.intro) <;> assumption) | (simp only [*]; done) | (simp only [*, and_self]; done) | (simp only [*]; repeat' apply And.intro) <;> first | trivial | assumption | (simp; done))
theorem stSlice_mono {t : TypeId} {x : AVal} {lo hi : Option AVal} (hk : ∀ e, K e → K' e) (h : stSlice T s t x lo hi K) : stSlice T s t x lo hi K' := by
  unfold stSlice at *
  (repeat' split at h) <;> first | exact h.elim | ((repeat (obtain ⟨_, h⟩ := h)) <;> subst_vars <;> have hk2 := hk _ h <;> first | exact hk2 | ((repeat' apply And.intro) <;> assumption) | (simp only [*]; done) | (simp only [*, and_self]; done) | (simp only [*]; repeat' apply And.intro) <;> first | trivial | assumption | (simp; done))
theorem stBuild_mono {t : TypeId} {ps : List (Nat × AVal)} (hk : ∀ e, K e → K' e) (h : stBuild T s t ps K) : stBuild T s t ps K' := by
  unfold stBuild at *
  (repeat' split at h) <;> first | exact h.elim | ((repeat (obtain ⟨_, h⟩ := h)) <;> subst_vars <;> have hk2 := hk _ h <;> first | exact hk2 | ((repeat' apply And.intro) <;> assumption) | (simp only [*]; done) | (simp only [*, and_self]; done) | (simp only [*]; repeat' apply And.intro) <;> first | trivial | assumption | (simp; done))
theorem stBuildSlice_mono {nid : Nat} {t : TypeId} {len : Nat} {ps : List (Nat × AVal)} (hk : ∀ e, K e → K' e) (h : stBuildSlice T s nid t len ps K) : stBuildSlice T s nid t len ps K' := by
  unfold stBuildSlice at *
  (repeat' split at h) <;> first | exact h.elim | ((repeat (obtain ⟨_, h⟩ := h)) <;> subst_vars <;> have hk2 := hk _ h <;> first | exact hk2 | ((repeat' apply And.intro) <;> assumption) | (simp only [*]; done) | (simp only [*, and_self]; done) | (simp only [*]; repeat' apply And.intro) <;> first | trivial | assumption | (simp; done))
theorem stMakeSlice_mono {nid : Nat} {t : TypeId} {x y : AVal} (hk : ∀ e, K e → K' e) (h : stMakeSlice T nid t x y K) : stMakeSlice T nid t x y K' := by
  unfold stMakeSlice at *
  (repeat' split at h) <;> first | exact h.elim | ((repeat (obtain ⟨_, h⟩ := h)) <;> subst_vars <;> have hk2 := hk _ h <;> first | exact hk2 | ((repeat' apply And.intro) <;> assumption) | (simp only [*]; done) | (simp only [*, and_self]; done) | (simp only [*]; repeat' apply And.intro) <;> first | trivial | assumption | (simp; done))
theorem stAppend_mono {nid : Nat} {t : TypeId} {x y : AVal} (hk : ∀ e, K e → K' e) (h : stAppend T s nid t x y K) : stAppend T s nid t x y K' := by
  unfold stAppend at *
  (repeat' split at h) <;> first | exact h.elim | ((repeat (obtain ⟨_, h⟩ := h)) <;> subst_vars <;> have hk2 := hk _ h <;> first | exact hk2 | ((repeat' apply And.intro) <;> assumption) | (simp only [*]; done) | (simp only [*, and_self]; done) | (simp only [*]; repeat' apply And.intro) <;> first | trivial | assumption | (simp; done))
theorem stLen_mono {x : AVal} (hk : ∀ e, K e → K' e) (h : stLen s x K) : stLen s x K' := by
  unfold stLen at *
  (repeat' split at h) <;> first | exact h.elim | ((repeat (obtain ⟨_, h⟩ := h)) <;> subst_vars <;> have hk2 := hk _ h <;> first | exact hk2 | ((repeat' apply And.intro) <;> assumption) | (simp only [*]; done) | (simp only [*, and_self]; done) | (simp only [*]; repeat' apply And.intro) <;> first | trivial | assumption | (simp; done))
theorem stExtract_mono {x : AVal} {i : Nat} (hk : ∀ e, K e → K' e) (h : stExtract x i K) : stExtract x i K' := by
  unfold stExtract at *
  (repeat' split at h) <;> first | exact h.elim | ((repeat (obtain ⟨_, h⟩ := h)) <;> subst_vars <;> have hk2 := hk _ h <;> first | exact hk2 | ((repeat' apply And.intro) <;> assumption) | (simp only [*]; done) | (simp only [*, and_self]; done) | (simp only [*]; repeat' apply And.intro) <;> first | trivial | assumption | (simp; done))
theorem stNil_mono {x : AVal} (hk : ∀ e, K e → K' e) (h : stNil x K) : stNil x K' := by
  unfold stNil at *
  (repeat' split at h) <;> first | exact h.elim | ((repeat (obtain ⟨_, h⟩ := h)) <;> subst_vars <;> have hk2 := hk _ h <;> first | exact hk2 | ((repeat' apply And.intro) <;> assumption) | (simp only [*]; done) | (simp only [*, and_self]; done) | (simp only [*]; repeat' apply And.intro) <;> first | trivial | assumption | (simp; done))
theorem stCall_mono {d : Nat} {f : AVal} {args : List AVal} (hk : ∀ e, K e → K' e) (h : stCall P s d f args K) : stCall P s d f args K' := by
  unfold stCall at *
  split at h
  · obtain ⟨D, rn, hin, l, hout, r, h1, h2, h3, h4, h5⟩ := h
    exact ⟨D, rn, hin, l, hout, r, h1, h2, h3, h4, hk _ h5⟩
  · exact h.elim
theorem stBuiltin_mono {nid : Nat} {b : Builtin} {tys : List TypeId} {args : List AVal} (hk : ∀ e, K e → K' e) (h : stBuiltin T s nid b tys args K) : stBuiltin T s nid b tys args K' := by
  unfold stBuiltin at *
  split at h
  · exact ⟨h.1, stLen_mono hk h.2⟩
  · exact ⟨h.1, stAppend_mono hk h.2⟩
  · exact ⟨h.1, hk _ h.2⟩
  · exact ⟨h.1, hk _ h.2⟩
  · exact h.elim

theorem stepOp_mono {o : Oper} (hk : ∀ e, K e → K' e) (h : stepOp P T s o K) : stepOp P T s o K' := by
  unfold stepOp at *
  split at h
  case h_1 => exact hk _ h
  case h_2 => exact hk _ h
  case h_3 =>
    split at h
    · exact ⟨fun e => hk _ (h.1 e), fun e => hk _ (h.2 e)⟩
    · exact h.elim
  case h_4 => (repeat' split at h) <;> first | exact h.elim | exact hk _ h
  case h_5 => (repeat' split at h) <;> first | exact h.elim | exact ⟨h.1, h.2.1, h.2.2.1, hk _ h.2.2.2⟩
  case h_6 => exact stBuild_mono hk h
  case h_7 => exact stBuildSlice_mono hk h
  case h_8 => exact stLoad_mono hk h
  case h_9 => exact stStore_mono hk h
  case h_10 => exact stNil_mono hk h
  case h_11 =>
    split at h
    · exact stEq_mono hk h
    · exact stEq_mono hk h
    · exact stBin_mono hk h
  case h_12 => exact stUn_mono hk h
  case h_13 => exact ⟨h.1, stConv_mono hk h.2⟩
  case h_14 => exact hk _ h
  case h_15 => exact stMakeSlice_mono hk h
  case h_16 => exact stSlice_mono hk h
  case h_17 => exact stFieldAddr_mono hk h
  case h_18 => exact stField_mono hk h
  case h_19 => exact stIndexAddr_mono hk h
  case h_20 => exact stExtract_mono hk h
  case h_21 =>
    split at h
    · exact stBuiltin_mono hk h
    · exact stCall_mono hk h
    · exact h.elim
  case h_22 => exact h.elim

theorem gstep_det {ops : List Oper} {o : Oper} (h : gstep P T ops s o K) : ∃ e, gstep P T ops s o (fun y => y = e) ∧ K e := by
  unfold gstep at *
  cases hg : o.guard with
  | none => simp only [hg] at h ⊢; exact stepOp_det h
  | some q =>
    obtain ⟨j, want⟩ := q
    simp only [hg] at h ⊢
    cases hj : (ops[j]?).bind (·.dst) with
    | none => simp [hj] at h
    | some t =>
      simp only [hj] at h ⊢
      cases hσ : s.σ t <;> simp only [hσ] at h ⊢
      case bool p =>
        by_cases hp : p = want
        · obtain ⟨e, h1, h2⟩ := stepOp_det (h.1 hp)
          exact ⟨e, ⟨fun _ => h1, fun hn => absurd hp hn⟩, h2⟩
        · exact ⟨_, ⟨fun hn => absurd hn hp, fun _ => rfl⟩, h.2 hp⟩
      case cv u => exact ⟨_, ⟨h.1, rfl⟩, h.2⟩

theorem gstep_mono {ops : List Oper} {o : Oper} (hk : ∀ e, K e → K' e) (h : gstep P T ops s o K) : gstep P T ops s o K' := by
  unfold gstep at *
  cases hg : o.guard with
  | none => simp only [hg] at h ⊢; exact stepOp_mono hk h
  | some q =>
    obtain ⟨j, want⟩ := q
    simp only [hg] at h ⊢
    cases hj : (ops[j]?).bind (·.dst) with
    | none => simp [hj] at h
    | some t =>
      simp only [hj] at h ⊢
      cases hσ : s.σ t <;> simp only [hσ] at h ⊢
      case bool p => exact ⟨fun hp => stepOp_mono hk (h.1 hp), fun hp => hk _ (h.2 hp)⟩
      case cv u => exact ⟨h.1, hk _ h.2⟩

end
end Go.Proofs.Ytcijihofjcfpoab
