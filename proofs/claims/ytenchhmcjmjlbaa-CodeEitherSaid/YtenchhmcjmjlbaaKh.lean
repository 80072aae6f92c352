import Derived.Test.YtenchhmcjmjlbaaCkp
import Derived.Test.YtenchhmcjmjlbaaGh
namespace Go.Proofs.Ytenchhmcjmjlbaa
open Go.RowKit
set_option linter.unusedVariables false
set_option linter.unusedSimpArgs false
set_option maxRecDepth 10000
abbrev HC6:=Int×Int×Int×Int×Int×Int
theorem a7t (n a b:Int):y7 n a b=some (decide (a≤n)&&decide (n≤b)):=by
  unfold y7
  by_cases h:a≤n<;>simp [h]
def bef (c d:HC6):Bool:=!decide (c.2.2.2.2.2=0)&&decide (c.2.2.2.2.2<d.2.2.2.2.1)
theorem a53 (c d:HC6):K7 c d=some (bef c d):=by
  unfold K7 bef
  by_cases h:c.2.2.2.2.2=0<;>simp [h]
def a1q (c d:HC6):Bool:=!decide (c.2.2.2.2.1=d.2.2.2.2.1)&&!decide (c.2.2.2.2.1=d.2.2.2.2.2)&&!decide (c.2.2.2.2.2=d.2.2.2.2.1)&&!(!decide (c.2.2.2.2.2=0)&&decide (c.2.2.2.2.2=d.2.2.2.2.2))&&(!decide (c.1=d.1) || bef c d || bef d c)
theorem b41 (c d:HC6):J0 c d=some (!decide (c.1=d.1) || bef c d || bef d c):=by
  unfold J0
  rw [a53,Option.bind_some,a53,Option.bind_some]
  by_cases h:c.1=d.1<;>simp [h]
  cases bef c d<;>simp
theorem b42 (c d:HC6):V1 c d=some (a1q c d):=by
  unfold V1 a1q
  rw [b41]
  generalize (!decide (c.1=d.1) || bef c d || bef d c)=X
  cases decide (c.2.2.2.2.1=d.2.2.2.2.1)<;>cases decide (c.2.2.2.2.1=d.2.2.2.2.2)<;>cases decide (c.2.2.2.2.2=d.2.2.2.2.1)<;>cases decide (c.2.2.2.2.2=d.2.2.2.2.2)<;>cases decide (c.2.2.2.2.2=0)<;>simp
def inB (a n b:Int):Bool:=decide (a≤n)&&decide (n≤b)
def okC (c:HC6):Bool:=inB 0 c.1 3&&inB 0 c.2.1 1&&inB 0 c.2.2.1 3&&inB 0 c.2.2.2.1 9&&inB 1 c.2.2.2.2.1 100&&((decide (c.2.2.2.2.2=0)&&decide (c.2.2.2.1=0)) || (decide (c.2.2.2.2.1<c.2.2.2.2.2)&&decide (c.2.2.2.2.2≤100)))
theorem b2U (c:HC6) (b1 b2:Bool):G8 c b1 b2=some (inB 0 c.1 3&&inB 0 c.2.1 1&&inB 0 c.2.2.1 3&&inB 0 c.2.2.2.1 9&&inB 1 c.2.2.2.2.1 100&&(b1 || b2)):=by
  unfold G8
  simp only [a7t,Option.bind_some]
  unfold inB
  cases (decide (0≤c.1)&&decide (c.1≤3))<;>cases (decide (0≤c.2.1)&&decide (c.2.1≤1))<;>cases (decide (0≤c.2.2.1)&&decide (c.2.2.1≤3))<;>cases (decide (0≤c.2.2.2.1)&&decide (c.2.2.2.1≤9))<;>cases (decide (1≤c.2.2.2.2.1)&&decide (c.2.2.2.2.1≤100))<;>cases b1<;>rfl
theorem b1n (c:HC6):S6 c=some (okC c):=by
  unfold S6 N6 okC
  simp only [b2U]
  cases decide (c.2.2.2.2.2=0)<;>cases decide (c.2.2.2.2.1<c.2.2.2.2.2)<;>simp
theorem a3o {c:HC6} (h:okC c=true):1≤c.2.2.2.2.1∧c.2.2.2.2.1≤100∧0≤c.2.2.2.2.2∧c.2.2.2.2.2≤100∧0≤c.2.1∧c.2.1≤1∧0≤c.2.2.1∧c.2.2.1≤3∧0≤c.1∧c.1≤3∧0≤c.2.2.2.1∧c.2.2.2.1≤9∧(c.2.2.2.2.2=0∨c.2.2.2.2.1<c.2.2.2.2.2):=by
  unfold okC inB at h
  simp only [Bool.and_eq_true,Bool.or_eq_true,decide_eq_true_eq] at h
  omega
def a9X (h:List HC6) (k:Nat):Bool:=okC (h.getD k (0,0,0,0,0,0))&&a35 k fun j=>a1q (h.getD k (0,0,0,0,0,0)) (h.getD j (0,0,0,0,0,0))
def okH (h:List HC6):Bool:=decide (h.length≤8)&&a35 h.length (a9X h)
theorem b3H (h:List HC6):V2 h=some (okH h):=by
  unfold V2 okH
  by_cases hl:h.length≤8
  · rw [if_neg (by simp; omega),a8k (body:=J2 h) h.length (a9X h) (fun k hk=>?_) (by unfold J2; rw [if_neg (by simp)]),Option.bind_some]
    · cases hh:a35 h.length (a9X h)<;>simp [hl,U0]
    · unfold J2 a9X
      rw [if_pos (by simpa using hk),b4 (by simp),b4 (by omega),Int.toNat_natCast,b1n,Option.bind_some]
      cases hc:okC (h.getD k (0,0,0,0,0,0)) with
      | false=>simp
      | true =>
        simp only [Bool.not_true,Bool.false_eq_true,if_false,Bool.true_and]
        rw [b4 (by simp),b4 (by omega),a8k (body:=J1 h (k:Int)) k (fun j=>a1q (h.getD k (0,0,0,0,0,0)) (h.getD j (0,0,0,0,0,0))) (fun j hj=>?_) (by unfold J1; rw [if_neg (by simp; omega)]),Option.bind_some]
        · cases a35 k (fun j=>a1q (h.getD k (0,0,0,0,0,0)) (h.getD j (0,0,0,0,0,0))) with
          | false=>rfl
          | true=>simp only [if_true]; unfold T9; rw [b4 (P4 (by omega))]
        · unfold J1
          rw [if_pos (by simp; omega),b4 (by simp),b4 (by simp; omega),Int.toNat_natCast,Int.toNat_natCast,b2Z hj,b42,Option.bind_some]
          cases a1q (h.getD k (0,0,0,0,0,0)) (h.getD j (0,0,0,0,0,0)) with
          | false=>rfl
          | true=>simp only [Bool.not_true,Bool.false_eq_true,if_false,if_true]; rw [b4 (P4 (by omega))]
  · rw [if_pos (by simp; omega)]; simp [hl]
theorem a4U {h:List HC6} (hok:okH h=true):h.length≤8:=by
  unfold okH at hok; simp only [Bool.and_eq_true,decide_eq_true_eq] at hok; exact hok.1
theorem b7X {h:List HC6} (hok:okH h=true) {k:Nat} (hk:k<h.length):a9X h k=true:=by
  unfold okH at hok; simp only [Bool.and_eq_true] at hok; exact C8.1 hok.2 k hk
theorem b7Y {a b c d e f:Int} (h:(0≤a∧a≤3)∧(0≤b∧b≤1)∧(0≤c∧c≤3)∧(0≤d∧d≤9)∧(1≤e∧e≤100)∧(f=0∧d=0∨e<f∧f≤100)):okC (a,b,c,d,e,f)=true:=by
  unfold okC inB
  simp only [Bool.and_eq_true,Bool.or_eq_true,decide_eq_true_eq]
  exact ⟨⟨⟨⟨⟨h.1,h.2.1⟩,h.2.2.1⟩,h.2.2.2.1⟩,h.2.2.2.2.1⟩,h.2.2.2.2.2⟩
def b8K (p:HC6→Bool) (c:HC6):List HC6:=if p c=true then [c] else []
def a0G (m:Int) (c:HC6):Bool:=decide (c.2.2.2.2.1≤m)
def cut (m:Int) (c:HC6):HC6:=if m<c.2.2.2.2.2 then (c.1,c.2.1,c.2.2.1,0,c.2.2.2.2.1,0) else c
def p8 (h:List HC6) (m:Int):List HC6:=(h.filter (a0G m)).map (cut m)
theorem b6w {c:HC6} (h:okC c=true) (m:Int):okC (cut m c)=true:=by
  unfold cut
  split
  · have:=a3o h
    exact b7Y ⟨by omega,by omega,by omega,by omega,by omega,.inl ⟨rfl,rfl⟩⟩
  · exact h
def b0b (n:Int) (c:HC6):Bool:=decide (c.1=n)
end Go.Proofs.Ytenchhmcjmjlbaa
