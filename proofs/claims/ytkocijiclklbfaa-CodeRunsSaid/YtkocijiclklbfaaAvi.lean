import Derived.Test.YtkocijiclklbfaaAvh
namespace Go.Proofs.Ytkocijiclklbfaa
open Go.RowKit
set_option linter.constructorNameAsVariable false
set_option linter.unusedSimpArgs false
set_option linter.unusedVariables false
theorem clean_inm {K:List Nat} {b i:Nat} (hK:smallI K=true):AVal.clean K (.own (inm b i))=.own (inm b i):=by
 rw [clean_own,if_neg]
 rw [not_in_small hK (inm_big b i)]; simp
theorem clean_apinm {K:List Nat} {b i sz j o:Nat} (hK:smallI K=true):AVal.clean K (.ap (inm b i) sz j o)=.ap (inm b i) sz j o:=by
 rw [clean_ap,if_neg]
 rw [not_in_small hK (inm_big b i)]; simp
theorem rowsC_cleanF {b k:Nat} {K:List Nat} (hK:smallI K=true):(rowsC b k).map (AVal.clean K)=rowsC b k:=rowsC_clean hK k
theorem fitsH_twoT {σ:Nat→AVal} {g:Gh} {b:Nat} {e:TypeId} {t:Ty} {xss:List (List (El t))} {h h':List (Nat×ABlk)} (hs:smallH h=true):fitsH ⟨σ,hpGet (two h (rowsL b e t xss)),g⟩ (two h' (rowsL b e t xss))=fitsH ⟨σ,hpGet (two h (rowsL b e t xss)),g⟩ h':=by
 rw [fitsH_two,fitsH_selfT hs,and_true]
theorem hpGet_two_atT {h:List (Nat×ABlk)} {b:Nat} {e:TypeId} {t:Ty} {xss:List (List (El t))} {i:Nat} (hs:smallH h=true) (hi:i<List.length xss):hpGet (two h (rowsL b e t xss)) (inm b i)=some (.arr e t (xss.getD i [])):=hpGet_two_at hs hi
theorem rowsC_getD {b k j:Nat} (h:j<k):(rowsC b k).getD j .un=.own (inm b j):=by simp [List.getD,rowsC_get h]
theorem rowsC_set {b i:Nat} {xss:List (List Int)} {ys:List Int}:rowsC b (List.length (xss.set i ys))=rowsC b (List.length xss):=by rw [List.length_set]
theorem cons_two (x:Nat×ABlk) (h r:List (Nat×ABlk)):x::two h r=two (x::h) r:=rfl
attribute [go_sem high] clean_inm clean_apinm fitsH_twoT cleanH_two
attribute [go_sem] rowsC_len rowsC_getD hpGet_two_atT hpGet_two_lit append_two cons_two rowsC_cleanF bclean_obx LeL_rowsT smallI_nil smallI_cons smallH_nil smallH_cons smallR_nil smallR_cons rowsC_set
section
variable {P:Program} {T:Tab} {n:Nat} {ro:Option Nat} {Q:Exit→ASt→Prop} {g:Gh} {o:Oper} {ops rs:List Oper} {l:List (Nat×AVal)} {h:List (Nat×ABlk)}
end
end Go.Proofs.Ytkocijiclklbfaa
