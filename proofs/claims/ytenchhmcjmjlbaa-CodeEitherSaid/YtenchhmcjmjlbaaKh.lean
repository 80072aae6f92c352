import Derived.Test.YtenchhmcjmjlbaaCkp
import Derived.Test.YtenchhmcjmjlbaaGh
namespace Go.Proofs.Ytenchhmcjmjlbaa
open Go.RowKit
set_option linter.unusedVariables false
set_option linter.unusedSimpArgs false
set_option maxRecDepth 10000
abbrev HC6:=Int×Int×Int×Int×Int×Int
theorem a7z (n a b:Int):y7 n a b=some (decide (a≤n)&&decide (n≤b)):=by
  unfold y7
  by_cases h:a≤n<;>simp [h]
def bef (c d:HC6):Bool:=!decide (c.2.2.2.2.2=0)&&decide (c.2.2.2.2.2<d.2.2.2.2.1)
theorem a6a (c d:HC6):K7 c d=some (bef c d):=by
  unfold K7 bef
  by_cases h:c.2.2.2.2.2=0<;>simp [h]
def a1r (c d:HC6):Bool:=!decide (c.2.2.2.2.1=d.2.2.2.2.1)&&!decide (c.2.2.2.2.1=d.2.2.2.2.2)&&!decide (c.2.2.2.2.2=d.2.2.2.2.1)&&!(!decide (c.2.2.2.2.2=0)&&decide (c.2.2.2.2.2=d.2.2.2.2.2))&&(!decide (c.1=d.1) || bef c d || bef d c)
theorem b47 (c d:HC6):J1 c d=some (!decide (c.1=d.1) || bef c d || bef d c):=by
  unfold J1
  rw [a6a,Option.bind_some,a6a,Option.bind_some]
  by_cases h:c.1=d.1<;>simp [h]
  cases bef c d<;>simp
theorem b48 (c d:HC6):V3 c d=some (a1r c d):=by
  unfold V3 a1r
  rw [b47]
  generalize (!decide (c.1=d.1) || bef c d || bef d c)=X
  cases decide (c.2.2.2.2.1=d.2.2.2.2.1)<;>cases decide (c.2.2.2.2.1=d.2.2.2.2.2)<;>cases decide (c.2.2.2.2.2=d.2.2.2.2.1)<;>cases decide (c.2.2.2.2.2=d.2.2.2.2.2)<;>cases decide (c.2.2.2.2.2=0)<;>simp
def inB (a n b:Int):Bool:=decide (a≤n)&&decide (n≤b)
def okC (c:HC6):Bool:=inB 0 c.1 3&&inB 0 c.2.1 1&&inB 0 c.2.2.1 3&&inB 0 c.2.2.2.1 9&&inB 1 c.2.2.2.2.1 100&&((decide (c.2.2.2.2.2=0)&&decide (c.2.2.2.1=0)) || (decide (c.2.2.2.2.1<c.2.2.2.2.2)&&decide (c.2.2.2.2.2≤100)))
theorem b21 (c:HC6) (b1 b2:Bool):G9 c b1 b2=some (inB 0 c.1 3&&inB 0 c.2.1 1&&inB 0 c.2.2.1 3&&inB 0 c.2.2.2.1 9&&inB 1 c.2.2.2.2.1 100&&(b1 || b2)):=by
  unfold G9
  simp only [a7z,Option.bind_some]
  unfold inB
  cases (decide (0≤c.1)&&decide (c.1≤3))<;>cases (decide (0≤c.2.1)&&decide (c.2.1≤1))<;>cases (decide (0≤c.2.2.1)&&decide (c.2.2.1≤3))<;>cases (decide (0≤c.2.2.2.1)&&decide (c.2.2.2.1≤9))<;>cases (decide (1≤c.2.2.2.2.1)&&decide (c.2.2.2.2.1≤100))<;>cases b1<;>rfl
theorem b1t (c:HC6):S7 c=some (okC c):=by
  unfold S7 N7 okC
  simp only [b21]
  cases decide (c.2.2.2.2.2=0)<;>cases decide (c.2.2.2.2.1<c.2.2.2.2.2)<;>simp
theorem a3r {c:HC6} (h:okC c=true):1≤c.2.2.2.2.1∧c.2.2.2.2.1≤100∧0≤c.2.2.2.2.2∧c.2.2.2.2.2≤100∧0≤c.2.1∧c.2.1≤1∧0≤c.2.2.1∧c.2.2.1≤3∧0≤c.1∧c.1≤3∧0≤c.2.2.2.1∧c.2.2.2.1≤9∧(c.2.2.2.2.2=0∨c.2.2.2.2.1<c.2.2.2.2.2):=by
  unfold okC inB at h
  simp only [Bool.and_eq_true,Bool.or_eq_true,decide_eq_true_eq] at h
  omega
def a93 (h:List HC6) (k:Nat):Bool:=okC (h.getD k (0,0,0,0,0,0))&&a4d k fun j=>a1r (h.getD k (0,0,0,0,0,0)) (h.getD j (0,0,0,0,0,0))
def okH (h:List HC6):Bool:=decide (h.length≤8)&&a4d h.length (a93 h)
theorem b3O (h:List HC6):V4 h=some (okH h):=by
  unfold V4 okH
  by_cases hl:h.length≤8
  · rw [if_neg (by simp; omega),a8q (body:=J3 h) h.length (a93 h) (fun k hk=>?_) (by unfold J3; rw [if_neg (by simp)]),Option.bind_some]
    · cases hh:a4d h.length (a93 h)<;>simp [hl,U1]
    · unfold J3 a93
      rw [if_pos (by simpa using hk),b4 (by simp),b4 (by omega),Int.toNat_natCast,b1t,Option.bind_some]
      cases hc:okC (h.getD k (0,0,0,0,0,0)) with
      | false=>simp
      | true =>
        simp only [Bool.not_true,Bool.false_eq_true,if_false,Bool.true_and]
        rw [b4 (by simp),b4 (by omega),a8q (body:=J2 h (k:Int)) k (fun j=>a1r (h.getD k (0,0,0,0,0,0)) (h.getD j (0,0,0,0,0,0))) (fun j hj=>?_) (by unfold J2; rw [if_neg (by simp; omega)]),Option.bind_some]
        · cases a4d k (fun j=>a1r (h.getD k (0,0,0,0,0,0)) (h.getD j (0,0,0,0,0,0))) with
          | false=>rfl
          | true=>simp only [if_true]; unfold U0; rw [b4 (P4 (by omega))]
        · unfold J2
          rw [if_pos (by simp; omega),b4 (by simp),b4 (by simp; omega),Int.toNat_natCast,Int.toNat_natCast,b26 hj,b48,Option.bind_some]
          cases a1r (h.getD k (0,0,0,0,0,0)) (h.getD j (0,0,0,0,0,0)) with
          | false=>rfl
          | true=>simp only [Bool.not_true,Bool.false_eq_true,if_false,if_true]; rw [b4 (P4 (by omega))]
  · rw [if_pos (by simp; omega)]; simp [hl]
theorem a41 {h:List HC6} (hok:okH h=true):h.length≤8:=by
  unfold okH at hok; simp only [Bool.and_eq_true,decide_eq_true_eq] at hok; exact hok.1
theorem b73 {h:List HC6} (hok:okH h=true) {k:Nat} (hk:k<h.length):a93 h k=true:=by
  unfold okH at hok; simp only [Bool.and_eq_true] at hok; exact D0.1 hok.2 k hk
theorem b74 {a b c d e f:Int} (h:(0≤a∧a≤3)∧(0≤b∧b≤1)∧(0≤c∧c≤3)∧(0≤d∧d≤9)∧(1≤e∧e≤100)∧(f=0∧d=0∨e<f∧f≤100)):okC (a,b,c,d,e,f)=true:=by
  unfold okC inB
  simp only [Bool.and_eq_true,Bool.or_eq_true,decide_eq_true_eq]
  exact ⟨⟨⟨⟨⟨h.1,h.2.1⟩,h.2.2.1⟩,h.2.2.2.1⟩,h.2.2.2.2.1⟩,h.2.2.2.2.2⟩
def b8Q (p:HC6→Bool) (c:HC6):List HC6:=if p c=true then [c] else []
def a0I (m:Int) (c:HC6):Bool:=decide (c.2.2.2.2.1≤m)
def cut (m:Int) (c:HC6):HC6:=if m<c.2.2.2.2.2 then (c.1,c.2.1,c.2.2.1,0,c.2.2.2.2.1,0) else c
def p8 (h:List HC6) (m:Int):List HC6:=(h.filter (a0I m)).map (cut m)
theorem b6C {c:HC6} (h:okC c=true) (m:Int):okC (cut m c)=true:=by
  unfold cut
  split
  · have:=a3r h
    exact b74 ⟨by omega,by omega,by omega,by omega,by omega,.inl ⟨rfl,rfl⟩⟩
  · exact h
def b0i (n:Int) (c:HC6):Bool:=decide (c.1=n)
end Go.Proofs.Ytenchhmcjmjlbaa
