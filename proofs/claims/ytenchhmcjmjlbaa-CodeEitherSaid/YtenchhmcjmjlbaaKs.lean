import Derived.Test.YtenchhmcjmjlbaaK7
import Derived.Test.YtenchhmcjmjlbaaGh
namespace Go.Proofs.Ytenchhmcjmjlbaa
open Go.RowKit
set_option linter.unusedVariables false
set_option linter.unusedSimpArgs false
set_option maxRecDepth 10000
structure SpS where
  st:Int
  op:Int
  nx:List (List Int)
  sy:List (List Int)
def inR (n:Int) (x:Int):Bool:=decide (0≤x∧x<n)
def a4C (x:Int):Bool:=decide (0≤x∧x≤5)
def tab (st op:Int) (p:Int→Bool) (rs:List (List Int)):Bool:=decide ((rs.length:Int)=st)&&rs.all fun r=>decide ((r.length:Int)=op)&&r.all p
def SpS.ok (S:SpS):Bool :=
  decide (1≤S.st)&&decide (S.st≤8)&&decide (1≤S.op)&&decide (S.op≤4)&&tab S.st S.op (inR S.st) S.nx&&tab S.st S.op a4C S.sy
abbrev SpT:=Int×Int×List (List Int)×List (List Int)
def a0r (s:SpT):SpS:=⟨s.1,s.2.1,s.2.2.1,s.2.2.2⟩
def okT (l:List (List Int)):Prop:=l.length≤17592186044416∧∀ r∈l,r.length≤17592186044416
def okS (s:SpT):Prop:=okT s.2.2.1∧okT s.2.2.2
theorem b1j (m:SpT) (n:Int):E9 m n=some (inR m.1 n):=by
  unfold E9 inR
  by_cases h:0≤n<;>simp [h]
theorem b0d (n:Int):U7 n=some (a4C n):=by
  unfold U7 a4C
  by_cases h:0≤n<;>simp [h]
theorem b3i (m:SpT) (xs:List Int) (hl:xs.length≤maxLen):a3g m xs=some (xs.all (inR m.1)):=by
  unfold a3g
  rw [J5 xs (inR m.1) (fun k x hk=>?_) ?_]
  · cases xs.all (inR m.1)<;>simp [a1v]
  · unfold a0s; simp
  · have hlt:=(List.getElem?_eq_some_iff.1 hk).1
    unfold a0s
    rw [if_pos (by simpa using hlt),b4 (by omega),b4 (by omega),Int.toNat_natCast,r8 hk,b1j]
    cases hp:inR m.1 x
    · simp
    · simp [b4 (a3S hlt hl)]
theorem b1G (xs:List Int) (hl:xs.length≤maxLen):a03 xs=some (xs.all a4C):=by
  unfold a03
  rw [J5 xs a4C (fun k x hk=>?_) ?_]
  · cases xs.all a4C<;>simp [a0l]
  · unfold U8; simp
  · have hlt:=(List.getElem?_eq_some_iff.1 hk).1
    unfold U8
    rw [if_pos (by simpa using hlt),b4 (by omega),b4 (by omega),Int.toNat_natCast,r8 hk,b0d]
    cases hp:a4C x
    · simp
    · simp [b4 (a3S hlt hl)]
theorem a5I {n:Nat} (h:n≤17592186044416):n≤maxLen:=by rw [a7n]; omega
theorem b1i (m:SpT) (t:List (List Int)) (ht:okT t):E8 m t m=some (tab m.1 m.2.1 (inR m.1) t):=by
  unfold E8 tab
  by_cases h0:(t.length:Int)=m.1
  · rw [if_neg (by simp [h0]),J5 t (fun r=>decide ((r.length:Int)=m.2.1)&&r.all (inR m.1)) (fun k x hk=>?_) ?_]
    · cases ha:t.all (fun r=>decide ((r.length:Int)=m.2.1)&&r.all (inR m.1))<;>simp [F7,h0,ha]
    · unfold z7; simp
    · have hlt:=(List.getElem?_eq_some_iff.1 hk).1
      unfold z7
      rw [if_pos (by simpa using hlt),b4 (by omega),b4 (by omega),Int.toNat_natCast,r8 hk,b3i m x (a5I (ht.2 x (List.mem_of_getElem? hk)))]
      by_cases h1:(x.length:Int)=m.2.1
      · cases hp:x.all (inR m.1)
        · simp [h1]
        · simp [h1,b4 (a3S hlt (a5I ht.1))]
      · simp [h1]
  · simp [h0]
theorem b0c (m:SpT) (t:List (List Int)) (ht:okT t):B8 m t=some (tab m.1 m.2.1 a4C t):=by
  unfold B8 tab
  by_cases h0:(t.length:Int)=m.1
  · rw [if_neg (by simp [h0]),J5 t (fun r=>decide ((r.length:Int)=m.2.1)&&r.all a4C) (fun k x hk=>?_) ?_]
    · cases ha:t.all (fun r=>decide ((r.length:Int)=m.2.1)&&r.all a4C)<;>simp [D5,h0,ha]
    · unfold v8; simp
    · have hlt:=(List.getElem?_eq_some_iff.1 hk).1
      unfold v8
      rw [if_pos (by simpa using hlt),b4 (by omega),b4 (by omega),Int.toNat_natCast,r8 hk,b1G x (a5I (ht.2 x (List.mem_of_getElem? hk)))]
      by_cases h1:(x.length:Int)=m.2.1
      · cases hp:x.all a4C
        · simp [h1]
        · simp [h1,b4 (a3S hlt (a5I ht.1))]
      · simp [h1]
  · simp [h0]
theorem a69 (s:SpT) (hs:okS s):a0a s=some (a0r s).ok:=by
  unfold a0a SpS.ok a0r
  rw [b1i s _ hs.1,b0c s _ hs.2]
  by_cases h1:s.1<1
  · simp [h1]; omega
  by_cases h2:8<s.1
  · simp [h1,h2]; omega
  by_cases h3:s.2.1<1
  · simp [h1,h2,h3]; omega
  by_cases h4:4<s.2.1
  · simp [h1,h2,h3,h4]; omega
  have e1:decide (1≤s.1)=true:=by simp; omega
  have e2:decide (s.1≤8)=true:=by simp; omega
  have e3:decide (1≤s.2.1)=true:=by simp; omega
  have e4:decide (s.2.1≤4)=true:=by simp; omega
  simp only [h1,h2,h3,h4,decide_false,Bool.false_eq_true,if_false,Option.bind_some,e1,e2,e3,e4,Bool.true_and]
  cases tab s.1 s.2.1 (inR s.1) s.2.2.1<;>simp
theorem a4a (s:SpT) (l:List (List Int)) (limit:Int) (hl:okT l):D0 s l limit=some (tab s.1 s.2.1 (fun x=>decide (0≤x∧x<limit)) l):=by
  unfold D0 tab
  by_cases h0:(l.length:Int)=s.1
  · rw [if_neg (by simp [h0]),J5 l (fun r=>decide ((r.length:Int)=s.2.1)&&r.all (fun x=>decide (0≤x∧x<limit))) (fun k x hk=>?_) ?_]
    · cases ha:l.all (fun r=>decide ((r.length:Int)=s.2.1)&&r.all (fun x=>decide (0≤x∧x<limit)))<;>simp [I0,h0,ha]
    · unfold C2; simp
    · have hlt:=(List.getElem?_eq_some_iff.1 hk).1
      have hxl:=a5I (hl.2 x (List.mem_of_getElem? hk))
      unfold C2
      rw [if_pos (by simpa using hlt),b4 (by omega),b4 (by omega),Int.toNat_natCast,r8 hk]
      by_cases h1:(x.length:Int)=s.2.1
      · rw [if_neg (by simp [h1]),J5 x (fun x=>decide (0≤x∧x<limit)) (fun j y hj=>?_) ?_]
        · cases hp:x.all (fun x=>decide (0≤x∧x<limit))
          · simp [h1]
          · simp [h1,H9,b4 (a3S hlt (a5I hl.1))]
        · unfold C0; rw [Int.toNat_natCast,r8 hk]; simp
        · have hlt2:=(List.getElem?_eq_some_iff.1 hj).1
          unfold C0
          rw [Int.toNat_natCast,r8 hk,if_pos (by simpa using hlt2),b4 (by omega),b4 (by omega),Int.toNat_natCast,r8 hj]
          by_cases hy:y<0
          · rw [if_pos (by simpa using hy),if_neg (by simp; omega)]
          · rw [if_neg (by simpa using hy)]
            by_cases hy2:limit≤y
            · rw [if_pos (by simpa using hy2),if_neg (by simp; omega)]
            · rw [if_neg (by simpa using hy2),b4 (a3S hlt2 hxl),if_pos (by simp; omega)]
      · simp [h1]
  · simp [h0]
theorem a9U (s:SpT) (hs:okS s):M7 s=some (a0r s).ok:=by
  unfold M7 SpS.ok a0r
  have e6:(fun x:Int=>decide (0≤x∧x<6))=a4C:=by funext x; unfold a4C; congr 1; simp; omega
  have e5:(fun x:Int=>decide (0≤x∧x<s.1))=inR s.1:=rfl
  rw [a4a s _ _ hs.1,a4a s _ _ hs.2,e6,e5]
  by_cases h1:1≤s.1
  · by_cases h2:s.1≤8
    · by_cases h3:1≤s.2.1
      · by_cases h4:s.2.1≤4
        · simp only [h1,h2,h3,h4,decide_true,if_true,Option.bind_some,Bool.true_and]
          cases tab s.1 s.2.1 (inR s.1) s.2.2.1<;>simp
        · simp [h1,h2,h3,h4]
      · simp [h1,h2,h3]
    · simp [h1,h2]
  · simp [h1]
end Go.Proofs.Ytenchhmcjmjlbaa
