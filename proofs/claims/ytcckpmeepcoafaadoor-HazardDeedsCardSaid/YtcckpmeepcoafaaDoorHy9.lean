import Derived.Test.YtcckpmeepcoafaaDoorHy8
import Derived.Test.YtcckpmeepcoafaaDoorHztw
namespace Go.Proofs.YtcckpmeepcoafaaDoor
open Go.RowKit
set_option linter.unusedVariables false
set_option linter.unusedSimpArgs false
set_option linter.constructorNameAsVariable false
set_option maxRecDepth 10000
section
variable {n m:Nat} {A:Mo}
theorem New_no {a b:Int} (h:¬ ((1≤a∧a≤4)∧1≤b∧b≤4)):hazard_New a b=some (Sum.inl ()):=by
  unfold hazard_New
  by_cases h1:a<1
  · rw [if_pos (decide_eq_true h1)]
  · by_cases h2:4<a
    · rw [if_neg (by simpa using h1),if_pos (decide_eq_true h2)]
    · by_cases h3:b<1
      · rw [if_neg (by simpa using h1),if_neg (by simpa using h2),if_pos (decide_eq_true h3)]
      · have h4:4<b:=by omega
        rw [if_neg (by simpa using h1),if_neg (by simpa using h2),if_neg (by simpa using h3),if_pos (decide_eq_true h4)]
def numA (r:Int×Int×Mo):Int:=if r.2.1=0 then r.1 else -r.2.1
def numL (n m:Nat) (ds:List (Int×Int×Int×Int)) (k:Nat):List Int:=(List.range k).map fun j=>numA (doA n m (behind n m newM (ds.take j)) (ds.getD j (0,0,0,0)))
theorem behind_succ {ds:List (Int×Int×Int×Int)} {k:Nat} (hk:k<ds.length):behind n m newM (ds.take (k+1))=(doA n m (behind n m newM (ds.take k)) ds[k]).2.2:=by
  unfold behind
  rw [take_one (List.getElem?_eq_getElem hk),List.foldl_append]; rfl
end
end Go.Proofs.YtcckpmeepcoafaaDoor
