import Derived.Test.YtenchhmcjmjlbaaK7
import Derived.Test.YtenchhmcjmjlbaaGh
namespace Go.Proofs.Ytenchhmcjmjlbaa
open Go.RowKit
set_option linter.unusedVariables false
set_option linter.unusedSimpArgs false
set_option maxRecDepth 10000
structure SpS where
  st:Int
  op:Int
  nx:List (List Int)
  sy:List (List Int)
def inR (n:Int) (x:Int):Bool:=decide (0≤x∧x<n)
def ansB (x:Int):Bool:=decide (0≤x∧x≤5)
def tab (st op:Int) (p:Int→Bool) (rs:List (List Int)):Bool:=decide ((rs.length:Int)=st)&&rs.all fun r=>decide ((r.length:Int)=op)&&r.all p
def SpS.ok (S:SpS):Bool :=
  decide (1≤S.st)&&decide (S.st≤8)&&decide (1≤S.op)&&decide (S.op≤4)&&tab S.st S.op (inR S.st) S.nx&&tab S.st S.op ansB S.sy
abbrev SpT:=Int×Int×List (List Int)×List (List Int)
def toSp (s:SpT):SpS:=⟨s.1,s.2.1,s.2.2.1,s.2.2.2⟩
def okT (l:List (List Int)):Prop:=l.length≤17592186044416∧∀ r∈l,r.length≤17592186044416
def okS (s:SpT):Prop:=okT s.2.2.1∧okT s.2.2.2
theorem len_ok {n:Nat} (h:n≤17592186044416):n≤maxLen:=by rw [maxLen_num]; omega
theorem refIsTable_eq (s:SpT) (l:List (List Int)) (limit:Int) (hl:okT l):linealref01_isTable s l limit=some (tab s.1 s.2.1 (fun x=>decide (0≤x∧x<limit)) l):=by
  unfold linealref01_isTable tab
  by_cases h0:(l.length:Int)=s.1
  · rw [if_neg (by simp [h0]),whileO_all l (fun r=>decide ((r.length:Int)=s.2.1)&&r.all (fun x=>decide (0≤x∧x<limit))) (fun k x hk=>?_) ?_]
    · cases ha:l.all (fun r=>decide ((r.length:Int)=s.2.1)&&r.all (fun x=>decide (0≤x∧x<limit)))<;>simp [linealref01_isTable_k1,h0,ha]
    · unfold linealref01_isTable_b1; simp
    · have hlt:=(List.getElem?_eq_some_iff.1 hk).1
      have hxl:=len_ok (hl.2 x (List.mem_of_getElem? hk))
      unfold linealref01_isTable_b1
      rw [if_pos (by simpa using hlt),ck_pos (by omega),ck_pos (by omega),Int.toNat_natCast,getD_of hk]
      by_cases h1:(x.length:Int)=s.2.1
      · rw [if_neg (by simp [h1]),whileO_all x (fun x=>decide (0≤x∧x<limit)) (fun j y hj=>?_) ?_]
        · cases hp:x.all (fun x=>decide (0≤x∧x<limit))
          · simp [h1]
          · simp [h1,linealref01_isTable_k2,ck_pos (inK_nat hlt (len_ok hl.1))]
        · unfold linealref01_isTable_b2; rw [Int.toNat_natCast,getD_of hk]; simp
        · have hlt2:=(List.getElem?_eq_some_iff.1 hj).1
          unfold linealref01_isTable_b2
          rw [Int.toNat_natCast,getD_of hk,if_pos (by simpa using hlt2),ck_pos (by omega),ck_pos (by omega),Int.toNat_natCast,getD_of hj]
          by_cases hy:y<0
          · rw [if_pos (by simpa using hy),if_neg (by simp; omega)]
          · rw [if_neg (by simpa using hy)]
            by_cases hy2:limit≤y
            · rw [if_pos (by simpa using hy2),if_neg (by simp; omega)]
            · rw [if_neg (by simpa using hy2),ck_pos (inK_nat hlt2 hxl),if_pos (by simp; omega)]
      · simp [h1]
  · simp [h0]
theorem refValid_eq (s:SpT) (hs:okS s):linealref01_Valid s=some (toSp s).ok:=by
  unfold linealref01_Valid SpS.ok toSp
  have e6:(fun x:Int=>decide (0≤x∧x<6))=ansB:=by funext x; unfold ansB; congr 1; simp; omega
  have e5:(fun x:Int=>decide (0≤x∧x<s.1))=inR s.1:=rfl
  rw [refIsTable_eq s _ _ hs.1,refIsTable_eq s _ _ hs.2,e6,e5]
  by_cases h1:1≤s.1
  · by_cases h2:s.1≤8
    · by_cases h3:1≤s.2.1
      · by_cases h4:s.2.1≤4
        · simp only [h1,h2,h3,h4,decide_true,if_true,Option.bind_some,Bool.true_and]
          cases tab s.1 s.2.1 (inR s.1) s.2.2.1<;>simp
        · simp [h1,h2,h3,h4]
      · simp [h1,h2,h3]
    · simp [h1,h2]
  · simp [h1]
end Go.Proofs.Ytenchhmcjmjlbaa
