import Derived.Test.YtenchhmcjmjlbaaK7
import Derived.Test.YtenchhmcjmjlbaaGh
namespace Go.Proofs.Ytenchhmcjmjlbaa
open Go.RowKit
set_option linter.unusedVariables false
set_option linter.unusedSimpArgs false
set_option maxRecDepth 10000
structure SpS where
  st:Int
  op:Int
  nx:List (List Int)
  sy:List (List Int)
def inR (n:Int) (x:Int):Bool:=decide (0≤x∧x<n)
def a4h (x:Int):Bool:=decide (0≤x∧x≤5)
def tab (st op:Int) (p:Int→Bool) (rs:List (List Int)):Bool:=decide ((rs.length:Int)=st)&&rs.all fun r=>decide ((r.length:Int)=op)&&r.all p
def SpS.ok (S:SpS):Bool :=
  decide (1≤S.st)&&decide (S.st≤8)&&decide (1≤S.op)&&decide (S.op≤4)&&tab S.st S.op (inR S.st) S.nx&&tab S.st S.op a4h S.sy
abbrev SpT:=Int×Int×List (List Int)×List (List Int)
def a3O (s:SpT):SpS:=⟨s.1,s.2.1,s.2.2.1,s.2.2.2⟩
def okT (l:List (List Int)):Prop:=l.length≤17592186044416∧∀ r∈l,r.length≤17592186044416
def okS (s:SpT):Prop:=okT s.2.2.1∧okT s.2.2.2
theorem a9O (m:SpT) (n:Int):D6 m n=some (inR m.1 n):=by
  unfold D6 inR
  by_cases h:0≤n<;>simp [h]
theorem a8O (n:Int):S4 n=some (a4h n):=by
  unfold S4 a4h
  by_cases h:0≤n<;>simp [h]
theorem a7q (m:SpT) (xs:List Int) (hl:xs.length≤maxLen):a0y m xs=some (xs.all (inR m.1)):=by
  unfold a0y
  rw [z8 xs (inR m.1) (fun k x hk=>?_) ?_]
  · cases xs.all (inR m.1)<;>simp [a0W]
  · unfold Y9; simp
  · have hlt:=(List.getElem?_eq_some_iff.1 hk).1
    unfold Y9
    rw [if_pos (by simpa using hlt),b6 (by omega),b6 (by omega),Int.toNat_natCast,j7 hk,a9O]
    cases hp:inR m.1 x
    · simp
    · simp [b6 (a25 hlt hl)]
theorem a96 (xs:List Int) (hl:xs.length≤maxLen):a0x xs=some (xs.all a4h):=by
  unfold a0x
  rw [z8 xs a4h (fun k x hk=>?_) ?_]
  · cases xs.all a4h<;>simp [X7]
  · unfold S5; simp
  · have hlt:=(List.getElem?_eq_some_iff.1 hk).1
    unfold S5
    rw [if_pos (by simpa using hlt),b6 (by omega),b6 (by omega),Int.toNat_natCast,j7 hk,a8O]
    cases hp:a4h x
    · simp
    · simp [b6 (a25 hlt hl)]
theorem a3C {n:Nat} (h:n≤17592186044416):n≤maxLen:=by rw [a59]; omega
theorem a9N (m:SpT) (t:List (List Int)) (ht:okT t):D5 m t m=some (tab m.1 m.2.1 (inR m.1) t):=by
  unfold D5 tab
  by_cases h0:(t.length:Int)=m.1
  · rw [if_neg (by simp [h0]),z8 t (fun r=>decide ((r.length:Int)=m.2.1)&&r.all (inR m.1)) (fun k x hk=>?_) ?_]
    · cases ha:t.all (fun r=>decide ((r.length:Int)=m.2.1)&&r.all (inR m.1))<;>simp [E1,h0,ha]
    · unfold w8; simp
    · have hlt:=(List.getElem?_eq_some_iff.1 hk).1
      unfold w8
      rw [if_pos (by simpa using hlt),b6 (by omega),b6 (by omega),Int.toNat_natCast,j7 hk,a7q m x (a3C (ht.2 x (List.mem_of_getElem? hk)))]
      by_cases h1:(x.length:Int)=m.2.1
      · cases hp:x.all (inR m.1)
        · simp [h1]
        · simp [h1,b6 (a25 hlt (a3C ht.1))]
      · simp [h1]
  · simp [h0]
theorem a8N (m:SpT) (t:List (List Int)) (ht:okT t):z9 m t=some (tab m.1 m.2.1 a4h t):=by
  unfold z9 tab
  by_cases h0:(t.length:Int)=m.1
  · rw [if_neg (by simp [h0]),z8 t (fun r=>decide ((r.length:Int)=m.2.1)&&r.all a4h) (fun k x hk=>?_) ?_]
    · cases ha:t.all (fun r=>decide ((r.length:Int)=m.2.1)&&r.all a4h)<;>simp [B8,h0,ha]
    · unfold s8; simp
    · have hlt:=(List.getElem?_eq_some_iff.1 hk).1
      unfold s8
      rw [if_pos (by simpa using hlt),b6 (by omega),b6 (by omega),Int.toNat_natCast,j7 hk,a96 x (a3C (ht.2 x (List.mem_of_getElem? hk)))]
      by_cases h1:(x.length:Int)=m.2.1
      · cases hp:x.all a4h
        · simp [h1]
        · simp [h1,b6 (a25 hlt (a3C ht.1))]
      · simp [h1]
  · simp [h0]
theorem a5Z (s:SpT) (hs:okS s):W8 s=some (a3O s).ok:=by
  unfold W8 SpS.ok a3O
  rw [a9N s _ hs.1,a8N s _ hs.2]
  by_cases h1:s.1<1
  · simp [h1]; omega
  by_cases h2:8<s.1
  · simp [h1,h2]; omega
  by_cases h3:s.2.1<1
  · simp [h1,h2,h3]; omega
  by_cases h4:4<s.2.1
  · simp [h1,h2,h3,h4]; omega
  have e1:decide (1≤s.1)=true:=by simp; omega
  have e2:decide (s.1≤8)=true:=by simp; omega
  have e3:decide (1≤s.2.1)=true:=by simp; omega
  have e4:decide (s.2.1≤4)=true:=by simp; omega
  simp only [h1,h2,h3,h4,decide_false,Bool.false_eq_true,if_false,Option.bind_some,e1,e2,e3,e4,Bool.true_and]
  cases tab s.1 s.2.1 (inR s.1) s.2.2.1<;>simp
theorem a3n (s:SpT) (l:List (List Int)) (limit:Int) (hl:okT l):B5 s l limit=some (tab s.1 s.2.1 (fun x=>decide (0≤x∧x<limit)) l):=by
  unfold B5 tab
  by_cases h0:(l.length:Int)=s.1
  · rw [if_neg (by simp [h0]),z8 l (fun r=>decide ((r.length:Int)=s.2.1)&&r.all (fun x=>decide (0≤x∧x<limit))) (fun k x hk=>?_) ?_]
    · cases ha:l.all (fun r=>decide ((r.length:Int)=s.2.1)&&r.all (fun x=>decide (0≤x∧x<limit)))<;>simp [G0,h0,ha]
    · unfold A6; simp
    · have hlt:=(List.getElem?_eq_some_iff.1 hk).1
      have hxl:=a3C (hl.2 x (List.mem_of_getElem? hk))
      unfold A6
      rw [if_pos (by simpa using hlt),b6 (by omega),b6 (by omega),Int.toNat_natCast,j7 hk]
      by_cases h1:(x.length:Int)=s.2.1
      · rw [if_neg (by simp [h1]),z8 x (fun x=>decide (0≤x∧x<limit)) (fun j y hj=>?_) ?_]
        · cases hp:x.all (fun x=>decide (0≤x∧x<limit))
          · simp [h1]
          · simp [h1,F9,b6 (a25 hlt (a3C hl.1))]
        · unfold A5; rw [Int.toNat_natCast,j7 hk]; simp
        · have hlt2:=(List.getElem?_eq_some_iff.1 hj).1
          unfold A5
          rw [Int.toNat_natCast,j7 hk,if_pos (by simpa using hlt2),b6 (by omega),b6 (by omega),Int.toNat_natCast,j7 hj]
          by_cases hy:y<0
          · rw [if_pos (by simpa using hy),if_neg (by simp; omega)]
          · rw [if_neg (by simpa using hy)]
            by_cases hy2:limit≤y
            · rw [if_pos (by simpa using hy2),if_neg (by simp; omega)]
            · rw [if_neg (by simpa using hy2),b6 (a25 hlt2 hxl),if_pos (by simp; omega)]
      · simp [h1]
  · simp [h0]
theorem a8A (s:SpT) (hs:okS s):K5 s=some (a3O s).ok:=by
  unfold K5 SpS.ok a3O
  have e6:(fun x:Int=>decide (0≤x∧x<6))=a4h:=by funext x; unfold a4h; congr 1; simp; omega
  have e5:(fun x:Int=>decide (0≤x∧x<s.1))=inR s.1:=rfl
  rw [a3n s _ _ hs.1,a3n s _ _ hs.2,e6,e5]
  by_cases h1:1≤s.1
  · by_cases h2:s.1≤8
    · by_cases h3:1≤s.2.1
      · by_cases h4:s.2.1≤4
        · simp only [h1,h2,h3,h4,decide_true,if_true,Option.bind_some,Bool.true_and]
          cases tab s.1 s.2.1 (inR s.1) s.2.2.1<;>simp
        · simp [h1,h2,h3,h4]
      · simp [h1,h2,h3]
    · simp [h1,h2]
  · simp [h1]
end Go.Proofs.Ytenchhmcjmjlbaa
