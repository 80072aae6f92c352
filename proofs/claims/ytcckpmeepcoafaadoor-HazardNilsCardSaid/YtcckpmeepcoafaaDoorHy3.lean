import Derived.Test.YtcckpmeepcoafaaDoorHy2
namespace Go.Proofs.YtcckpmeepcoafaaDoor
open Go.RowKit
set_option linter.unusedVariables false
set_option linter.unusedSimpArgs false
set_option linter.constructorNameAsVariable false
set_option maxRecDepth 10000
section
variable {n m:Nat} {N:El T63} {S:El T65} {L:El T69} {A:Mo}
theorem Rp.setN (hR:Rp N S L A) {j:Nat} (hj:j<8) (v:Int):Rp (setInt T63 N (j*1) v) S L { A with N:=upd A.N j v } :=
  ⟨fun q hq=>by
    rw [Nat.mul_one,nd_set N v hj hq]
    show _=upd A.N j v q
    unfold upd
    split
    · rfl
    · exact hR.nd q hq,hR.sl,hR.cn,hR.le,hR.el,hR.ok⟩
theorem Rp.setS (hR:Rp N S L A) {j:Nat} (hj:j<8) (v:Int):Rp N (setInt T65 S j v) L { A with S:=upd A.S j v } :=
  ⟨hR.nd,fun q hq=>by
    rw [sl_set S v hj hq]
    show _=upd A.S j v q
    unfold upd
    split
    · rfl
    · exact hR.sl q hq,hR.cn,hR.le,hR.el,hR.ok⟩
/-! ### A list swept -/
/-! ### A node put by -/
theorem Rp.put (hR:Rp N S L A) {t i:Nat} (ht:t<4) (hi:i<8) (hl:(A.L t).length<8) :
    Rp (setInt T63 N (i*1) 2) S (setInt T69 (setInt T69 L (((t*9)+1)+(intAt T69 L (t*9)).toNat*1) (i:Int)) (t*9) ((intAt T69 (setInt T69 L (((t*9)+1)+(intAt T69 L (t*9)).toNat*1) (i:Int)) (t*9))+1)) (putM A t i):=by
  have hLu:∀ u,(putM A t i).L u=upd A.L t (A.L t++[(i:Int)]) u:=fun _=>rfl
  have h0:=hR.cn t ht
  have e0:(intAt T69 L (t*9)).toNat*1=(A.L t).length:=by rw [h0]; simp
  rw [e0]
  have e1:intAt T69 (setInt T69 L (t*9+1+(A.L t).length) (i:Int)) (t*9)=((A.L t).length:Int):=by rw [ls_set L _ (by omega) (by omega),if_neg (by omega),h0]
  rw [e1]
  refine ⟨fun j hj=>?_,hR.sl,fun u hu=>?_,fun u hu=>?_,fun u hu k x hx=>?_,fun j hj=>?_⟩
  · rw [Nat.mul_one,nd_set N _ hi hj]
    show _=upd A.N ((i:Int)).toNat 2 j
    rw [Int.toNat_natCast]
    unfold upd
    split
    · rfl
    · exact hR.nd j hj
  · rw [ls_set _ _ (by omega) (by omega),hLu]
    by_cases e:u=t
    · subst e; rw [if_pos rfl,upd_same]; simp
    · rw [if_neg (by omega),ls_set _ _ (by omega) (by omega),if_neg (by omega),upd_other e]; exact hR.cn u hu
  · rw [hLu]
    by_cases e:u=t
    · subst e; rw [upd_same]; simp; omega
    · rw [upd_other e]; exact hR.le u hu
  · rw [hLu] at hx
    have h8:=hR.le u hu
    by_cases e:u=t
    · subst e; rw [upd_same] at hx
      have hk:=(List.getElem?_eq_some_iff.1 hx).1
      simp at hk
      rw [ls_set _ _ (by omega) (by omega),if_neg (by omega),ls_set _ _ (by omega) (by omega)]
      by_cases e2:k=(A.L u).length
      · subst e2; rw [if_pos rfl]
        simpa using hx
      · rw [if_neg (by omega)]
        rw [List.getElem?_append_left (by omega)] at hx
        exact hR.el u hu k x hx
    · rw [upd_other e] at hx
      have hk:=(List.getElem?_eq_some_iff.1 hx).1
      rw [ls_set _ _ (by omega) (by omega),if_neg (by omega),ls_set _ _ (by omega) (by omega),if_neg (by omega)]
      exact hR.el u hu k x hx
  · rw [ls_set _ _ (by omega) hj]
    split
    · omega
    · rw [ls_set _ _ (by omega) hj]
      split
      · omega
      · exact hR.ok j hj
end
end Go.Proofs.YtcckpmeepcoafaaDoor
