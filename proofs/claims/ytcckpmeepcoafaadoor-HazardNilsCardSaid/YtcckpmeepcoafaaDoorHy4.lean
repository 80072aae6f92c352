import Derived.Test.YtcckpmeepcoafaaDoorHy3
namespace Go.Proofs.YtcckpmeepcoafaaDoor
open Go.RowKit
set_option linter.unusedVariables false
set_option linter.unusedSimpArgs false
set_option linter.constructorNameAsVariable false
set_option maxRecDepth 10000
section
variable {n m:Nat} {N:El T63} {S:El T65} {L:El T69} {A:Mo}
/-! ### New yards -/
theorem new_inner (t:Nat) (ht:t<4) (S0 T0:El T65) (hS:∀ j,j<2*t→intAt T65 S0 j=-1) (q:Int):∃ S1,whileO (hazard_New_b2 (T0,(t:Int))) (S0,0)=some S1∧∀ j,j<2*(t+1)→intAt T65 S1 j=-1 :=
  scan2 (List.range 2) (fun k s=>∀ j,j<2*t+k→intAt T65 s j=-1) (fun s=>∀ j,j<2*(t+1)→intAt T65 s j=-1) (body:=hazard_New_b2 (T0,(t:Int))) hS (fun k x s hx hp=>by
    have hk:k<2:=by simpa using (List.getElem?_eq_some_iff.1 hx).1
    left
    refine ⟨setInt T65 s ((((t:Nat):Int).toNat*2)+((k:Nat):Int).toNat*1) (-1),?_,fun j hj=>?_⟩
    · unfold hazard_New_b2
      rw [if_pos (decide_eq_true (show ((k:Nat):Int)<2 by omega)),ck_pos (show (0:Int)≤(t:Int) by omega),ck_pos (show (t:Int)<4 by omega),ck_pos (show (0:Int)≤(k:Int) by omega),ck_pos (show (k:Int)<2 by omega),ck_pos (inK_small (by omega))]
    · rw [Int.toNat_natCast,Int.toNat_natCast,sl_set s _ (by omega) (by omega)]
      split
      · rfl
      · exact hp j (by omega)) (fun s hp=>⟨s,by unfold hazard_New_b2; rw [if_neg (by simp)],fun j hj=>hp j (by simp; omega)⟩)
theorem z63 {j:Nat} (h:j<8):intAt T63 (Ty.dflt T63) j=0:=dflt_at (k:=.i64) rfl (by rw [T63_size]; exact h)
theorem z69 {j:Nat} (h:j<36):intAt T69 (Ty.dflt T69) j=0:=dflt_at (k:=.i64) rfl (by rw [T69_size]; exact h)
theorem Rp.new_ {Z:El T63} {S0:El T65} {W:El T69} (hZ:∀ j,j<8→intAt T63 Z j=0) (hW:∀ j,j<36→intAt T69 W j=0) (h:∀ j,j<8→intAt T65 S0 j=-1):Rp Z S0 W newM :=
  ⟨hZ,h,fun t ht=>hW _ (by omega),fun _ _=>Nat.zero_le _,fun t ht k x hx=>(by cases hx),fun j hj=>by rw [hW j hj]; omega⟩
theorem new_loop (Z:El T65):∃ S0,whileO hazard_New_b1 (Z,0)=some S0∧∀ j,j<8→intAt T65 S0 j=-1:=by
  refine scan2 (List.range 4) (fun k s=>∀ j,j<2*k→intAt T65 s j=-1) (fun s=>∀ j,j<8→intAt T65 s j=-1) (body:=hazard_New_b1) (s0:=Z) (fun j hj=>by omega) (fun k x s hx hp=>?_) (fun s hp=>⟨s,?_,fun j hj=>hp j (by simp; omega)⟩)
  · have hk:k<4:=by simpa using (List.getElem?_eq_some_iff.1 hx).1
    left
    obtain ⟨S1,e1,e2⟩:=new_inner k hk s s hp 0
    refine ⟨S1,?_,e2⟩
    unfold hazard_New_b1
    rw [if_pos (decide_eq_true (show ((k:Nat):Int)<4 by omega)),e1,Option.bind_some]
    unfold hazard_New_k2
    rw [ck_pos (inK_small (by omega))]
  · unfold hazard_New_b1; rw [if_neg (by simp)]
theorem New_run {a b:Int} (ha:1≤a∧a≤4) (hb:1≤b∧b≤4):∃ S0,hazard_New a b=some (Sum.inr S0)∧∀ j,j<8→intAt T65 S0 j=-1:=by
  obtain ⟨S0,h1,h2⟩:=new_loop (Ty.dflt T65)
  refine ⟨S0,?_,h2⟩
  unfold hazard_New
  rw [if_neg (by simp; omega),if_neg (by simp; omega),if_neg (by simp; omega),if_neg (by simp; omega),h1,Option.bind_some]
  unfold hazard_New_k1
  rfl
theorem New_eq {a b:Int} (ha:1≤a∧a≤4) (hb:1≤b∧b≤4):∃ S0,hazard_New a b=some (Sum.inr S0)∧Rp (Ty.dflt T63) S0 (Ty.dflt T69) newM:=by
  obtain ⟨S0,h1,h2⟩:=New_run ha hb
  exact ⟨S0,h1,Rp.new_ (fun j hj=>z63 hj) (fun j hj=>z69 hj) h2⟩
def behind (n m:Nat) (A:Mo) (ds:List (Int×Int×Int×Int)):Mo:=ds.foldl (fun A d=>(doA n m A d).2.2) A
/-! ### Lists of numbers -/
end
end Go.Proofs.YtcckpmeepcoafaaDoor
