import Derived.Test.YtanaeefeggokkaaGreatK7
import Derived.Test.YtanaeefeggokkaaGreatGh
namespace Go.Proofs.YtanaeefeggokkaaGreat
open Go.RowKit
set_option linter.unusedVariables false
set_option linter.unusedSimpArgs false
set_option maxRecDepth 10000
structure SpS where
  st:Int
  op:Int
  nx:List (List Int)
  sy:List (List Int)
def inR (n:Int) (x:Int):Bool:=decide (0≤x∧x<n)
def a5v (x:Int):Bool:=decide (0≤x∧x≤5)
def tab (st op:Int) (p:Int→Bool) (rs:List (List Int)):Bool:=decide ((rs.length:Int)=st)&&rs.all fun r=>decide ((r.length:Int)=op)&&r.all p
def SpS.ok (S:SpS):Bool :=
  decide (1≤S.st)&&decide (S.st≤8)&&decide (1≤S.op)&&decide (S.op≤4)&&tab S.st S.op (inR S.st) S.nx&&tab S.st S.op a5v S.sy
abbrev SpT:=Int×Int×List (List Int)×List (List Int)
def a19 (s:SpT):SpS:=⟨s.1,s.2.1,s.2.2.1,s.2.2.2⟩
def okT (l:List (List Int)):Prop:=l.length≤17592186044416∧∀ r∈l,r.length≤17592186044416
def okS (s:SpT):Prop:=okT s.2.2.1∧okT s.2.2.2
theorem b2u (m:SpT) (n:Int):F7 m n=some (inR m.1 n):=by
  unfold F7 inR
  by_cases h:0≤n<;>simp [h]
theorem b1i (n:Int):X7 n=some (a5v n):=by
  unfold X7 a5v
  by_cases h:0≤n<;>simp [h]
theorem b4B (m:SpT) (xs:List Int) (hl:xs.length≤maxLen):a34 m xs=some (xs.all (inR m.1)):=by
  unfold a34;rw [K9 xs (inR m.1) (fun k x hk=>?_) ?_]
  · cases xs.all (inR m.1)<;>simp [a2h]
  · unfold a00; simp
  · have hlt:=(List.getElem?_eq_some_iff.1 hk).1;unfold a00;rw [if_pos (by simpa using hlt),b5 (by omega),b5 (by omega),Int.toNat_natCast,m9 hk,b2u]
    cases hp:inR m.1 x
    · simp
    · simp [b5 (a4G hlt hl)]
theorem b2T (xs:List Int) (hl:xs.length≤maxLen):a1H xs=some (xs.all a5v):=by
  unfold a1H;rw [K9 xs a5v (fun k x hk=>?_) ?_]
  · cases xs.all a5v<;>simp [a0U]
  · unfold X8; simp
  · have hlt:=(List.getElem?_eq_some_iff.1 hk).1;unfold X8;rw [if_pos (by simpa using hlt),b5 (by omega),b5 (by omega),Int.toNat_natCast,m9 hk,b1i]
    cases hp:a5v x
    · simp
    · simp [b5 (a4G hlt hl)]
theorem a6x {n:Nat} (h:n≤17592186044416):n≤maxLen:=by rw [a8c]; omega
theorem b2t (m:SpT) (t:List (List Int)) (ht:okT t):F6 m t m=some (tab m.1 m.2.1 (inR m.1) t):=by
  unfold F6 tab
  by_cases h0:(t.length:Int)=m.1
  · rw [if_neg (by simp [h0]),K9 t (fun r=>decide ((r.length:Int)=m.2.1)&&r.all (inR m.1)) (fun k x hk=>?_) ?_]
    · cases ha:t.all (fun r=>decide ((r.length:Int)=m.2.1)&&r.all (inR m.1))<;>simp [G8,h0,ha]
    · unfold A4; simp
    · have hlt:=(List.getElem?_eq_some_iff.1 hk).1;unfold A4;rw [if_pos (by simpa using hlt),b5 (by omega),b5 (by omega),Int.toNat_natCast,m9 hk,b4B m x (a6x (ht.2 x (List.mem_of_getElem? hk)))]
      by_cases h1:(x.length:Int)=m.2.1
      · cases hp:x.all (inR m.1)
        · simp [h1]
        · simp [h1,b5 (a4G hlt (a6x ht.1))]
      · simp [h1]
  · simp [h0]
theorem b1h (m:SpT) (t:List (List Int)) (ht:okT t):C7 m t=some (tab m.1 m.2.1 a5v t):=by
  unfold C7 tab
  by_cases h0:(t.length:Int)=m.1
  · rw [if_neg (by simp [h0]),K9 t (fun r=>decide ((r.length:Int)=m.2.1)&&r.all a5v) (fun k x hk=>?_) ?_]
    · cases ha:t.all (fun r=>decide ((r.length:Int)=m.2.1)&&r.all a5v)<;>simp [E1,h0,ha]
    · unfold v8; simp
    · have hlt:=(List.getElem?_eq_some_iff.1 hk).1;unfold v8;rw [if_pos (by simpa using hlt),b5 (by omega),b5 (by omega),Int.toNat_natCast,m9 hk,b2T x (a6x (ht.2 x (List.mem_of_getElem? hk)))]
      by_cases h1:(x.length:Int)=m.2.1
      · cases hp:x.all a5v
        · simp [h1]
        · simp [h1,b5 (a4G hlt (a6x ht.1))]
      · simp [h1]
  · simp [h0]
theorem a7Y (s:SpT) (hs:okS s):a0H s=some (a19 s).ok:=by
  unfold a0H SpS.ok a19;rw [b2t s _ hs.1,b1h s _ hs.2]
  by_cases h1:s.1<1
  · simp [h1]; omega
  by_cases h2:8<s.1
  · simp [h1,h2]; omega
  by_cases h3:s.2.1<1
  · simp [h1,h2,h3]; omega
  by_cases h4:4<s.2.1
  · simp [h1,h2,h3,h4]; omega
  have e1:decide (1≤s.1)=true:=by simp; omega
  have e2:decide (s.1≤8)=true:=by simp; omega
  have e3:decide (1≤s.2.1)=true:=by simp; omega
  have e4:decide (s.2.1≤4)=true:=by simp; omega
  simp only [h1,h2,h3,h4,decide_false,Bool.false_eq_true,if_false,Option.bind_some,e1,e2,e3,e4,Bool.true_and]
  cases tab s.1 s.2.1 (inR s.1) s.2.2.1<;>simp
theorem a4X (s:SpT) (l:List (List Int)) (limit:Int) (hl:okT l):D5 s l limit=some (tab s.1 s.2.1 (fun x=>decide (0≤x∧x<limit)) l):=by
  unfold D5 tab
  by_cases h0:(l.length:Int)=s.1
  · rw [if_neg (by simp [h0]),K9 l (fun r=>decide ((r.length:Int)=s.2.1)&&r.all (fun x=>decide (0≤x∧x<limit))) (fun k x hk=>?_) ?_]
    · cases ha:l.all (fun r=>decide ((r.length:Int)=s.2.1)&&r.all (fun x=>decide (0≤x∧x<limit)))<;>simp [J0,h0,ha]
    · unfold C9; simp
    · have hlt:=(List.getElem?_eq_some_iff.1 hk).1;have hxl:=a6x (hl.2 x (List.mem_of_getElem? hk));unfold C9;rw [if_pos (by simpa using hlt),b5 (by omega),b5 (by omega),Int.toNat_natCast,m9 hk]
      by_cases h1:(x.length:Int)=s.2.1
      · rw [if_neg (by simp [h1]),K9 x (fun x=>decide (0≤x∧x<limit)) (fun j y hj=>?_) ?_]
        · cases hp:x.all (fun x=>decide (0≤x∧x<limit))
          · simp [h1]
          · simp [h1,I9,b5 (a4G hlt (a6x hl.1))]
        · unfold C8; rw [Int.toNat_natCast,m9 hk]; simp
        · have hlt2:=(List.getElem?_eq_some_iff.1 hj).1;unfold C8;rw [Int.toNat_natCast,m9 hk,if_pos (by simpa using hlt2),b5 (by omega),b5 (by omega),Int.toNat_natCast,m9 hj]
          by_cases hy:y<0
          · rw [if_pos (by simpa using hy),if_neg (by simp; omega)]
          · rw [if_neg (by simpa using hy)]
            by_cases hy2:limit≤y
            · rw [if_pos (by simpa using hy2),if_neg (by simp; omega)]
            · rw [if_neg (by simpa using hy2),b5 (a4G hlt2 hxl),if_pos (by simp; omega)]
      · simp [h1]
  · simp [h0]
theorem b0U (s:SpT) (hs:okS s):O4 s=some (a19 s).ok:=by
  unfold O4 SpS.ok a19;have e6:(fun x:Int=>decide (0≤x∧x<6))=a5v:=by funext x; unfold a5v; congr 1; simp; omega
  have e5:(fun x:Int=>decide (0≤x∧x<s.1))=inR s.1:=rfl;rw [a4X s _ _ hs.1,a4X s _ _ hs.2,e6,e5]
  by_cases h1:1≤s.1
  · by_cases h2:s.1≤8
    · by_cases h3:1≤s.2.1
      · by_cases h4:s.2.1≤4
        · simp only [h1,h2,h3,h4,decide_true,if_true,Option.bind_some,Bool.true_and]
          cases tab s.1 s.2.1 (inR s.1) s.2.2.1<;>simp
        · simp [h1,h2,h3,h4]
      · simp [h1,h2,h3]
    · simp [h1,h2]
  · simp [h1]
end Go.Proofs.YtanaeefeggokkaaGreat
