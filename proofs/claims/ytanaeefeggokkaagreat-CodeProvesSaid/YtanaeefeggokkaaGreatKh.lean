import Derived.Test.YtanaeefeggokkaaGreatCkp
import Derived.Test.YtanaeefeggokkaaGreatGh
namespace Go.Proofs.YtanaeefeggokkaaGreat
open Go.RowKit
set_option linter.unusedVariables false
set_option linter.unusedSimpArgs false
set_option maxRecDepth 10000
abbrev HC6:=Int×Int×Int×Int×Int×Int
theorem a8k (n a b:Int):y8 n a b=some (decide (a≤n)&&decide (n≤b)):=by
  unfold y8
  by_cases h:a≤n<;>simp [h]
def bef (c d:HC6):Bool:=!decide (c.2.2.2.2.2=0)&&decide (c.2.2.2.2.2<d.2.2.2.2.1)
theorem a4N (c d:HC6):L8 c d=some (bef c d):=by
  unfold L8 bef
  by_cases h:c.2.2.2.2.2=0<;>simp [h]
def a5u (c d:HC6):Bool:=!decide (c.2.2.2.2.1=d.2.2.2.2.1)&&!decide (c.2.2.2.2.1=d.2.2.2.2.2)&&!decide (c.2.2.2.2.2=d.2.2.2.2.1)&&!(!decide (c.2.2.2.2.2=0)&&decide (c.2.2.2.2.2=d.2.2.2.2.2))&&(!decide (c.1=d.1) || bef c d || bef d c)
theorem b6n (c d:HC6):K5 c d=some (!decide (c.1=d.1) || bef c d || bef d c):=by
  unfold K5;rw [a4N,Option.bind_some,a4N,Option.bind_some]
  by_cases h:c.1=d.1<;>simp [h]
  cases bef c d<;>simp
theorem b6o (c d:HC6):Y9 c d=some (a5u c d):=by
  unfold Y9 a5u;rw [b6n];generalize (!decide (c.1=d.1) || bef c d || bef d c)=X
  cases decide (c.2.2.2.2.1=d.2.2.2.2.1)<;>cases decide (c.2.2.2.2.1=d.2.2.2.2.2)<;>cases decide (c.2.2.2.2.2=d.2.2.2.2.1)<;>cases decide (c.2.2.2.2.2=d.2.2.2.2.2)<;>cases decide (c.2.2.2.2.2=0)<;>simp
def inB (a n b:Int):Bool:=decide (a≤n)&&decide (n≤b)
def okC (c:HC6):Bool:=inB 0 c.1 3&&inB 0 c.2.1 1&&inB 0 c.2.2.1 3&&inB 0 c.2.2.2.1 9&&inB 1 c.2.2.2.2.1 100&&((decide (c.2.2.2.2.2=0)&&decide (c.2.2.2.1=0)) || (decide (c.2.2.2.2.1<c.2.2.2.2.2)&&decide (c.2.2.2.2.2≤100)))
theorem b4e (c:HC6) (b1 b2:Bool):H7 c b1 b2=some (inB 0 c.1 3&&inB 0 c.2.1 1&&inB 0 c.2.2.1 3&&inB 0 c.2.2.2.1 9&&inB 1 c.2.2.2.2.1 100&&(b1 || b2)):=by
  unfold H7;simp only [a8k,Option.bind_some];unfold inB
  cases (decide (0≤c.1)&&decide (c.1≤3))<;>cases (decide (0≤c.2.1)&&decide (c.2.1≤1))<;>cases (decide (0≤c.2.2.1)&&decide (c.2.2.1≤3))<;>cases (decide (0≤c.2.2.2.1)&&decide (c.2.2.2.1≤9))<;>cases (decide (1≤c.2.2.2.2.1)&&decide (c.2.2.2.2.1≤100))<;>cases b1<;>rfl
theorem b2x (c:HC6):V0 c=some (okC c):=by
  unfold V0 P3 okC;simp only [b4e]
  cases decide (c.2.2.2.2.2=0)<;>cases decide (c.2.2.2.2.1<c.2.2.2.2.2)<;>simp
theorem a8a {c:HC6} (h:okC c=true):1≤c.2.2.2.2.1∧c.2.2.2.2.1≤100∧0≤c.2.2.2.2.2∧c.2.2.2.2.2≤100∧0≤c.2.1∧c.2.1≤1∧0≤c.2.2.1∧c.2.2.1≤3∧0≤c.1∧c.1≤3∧0≤c.2.2.2.1∧c.2.2.2.1≤9∧(c.2.2.2.2.2=0∨c.2.2.2.2.1<c.2.2.2.2.2):=by
  unfold okC inB at h;simp only [Bool.and_eq_true,Bool.or_eq_true,decide_eq_true_eq] at h;omega
def b00 (h:List HC6) (k:Nat):Bool:=okC (h.getD k (0,0,0,0,0,0))&&a1g k fun j=>a5u (h.getD k (0,0,0,0,0,0)) (h.getD j (0,0,0,0,0,0))
def okH (h:List HC6):Bool:=decide (h.length≤8)&&a1g h.length (b00 h)
theorem b41 (h:List HC6):Z0 h=some (okH h):=by
  unfold Z0 okH
  by_cases hl:h.length≤8
  · rw [if_neg (by simp; omega),a4Y (body:=K7 h) h.length (b00 h) (fun k hk=>?_) (by unfold K7; rw [if_neg (by simp)]),Option.bind_some]
    · cases hh:a1g h.length (b00 h)<;>simp [hl,W9]
    · unfold K7 b00;rw [if_pos (by simpa using hk),b5 (by simp),b5 (by omega),Int.toNat_natCast,b2x,Option.bind_some]
      cases hc:okC (h.getD k (0,0,0,0,0,0)) with
      | false=>simp
      | true =>
        simp only [Bool.not_true,Bool.false_eq_true,if_false,Bool.true_and];rw [b5 (by simp),b5 (by omega),a4Y (body:=K6 h (k:Int)) k (fun j=>a5u (h.getD k (0,0,0,0,0,0)) (h.getD j (0,0,0,0,0,0))) (fun j hj=>?_) (by unfold K6; rw [if_neg (by simp; omega)]),Option.bind_some]
        · cases a1g k (fun j=>a5u (h.getD k (0,0,0,0,0,0)) (h.getD j (0,0,0,0,0,0))) with
          | false=>rfl
          | true=>simp only [if_true]; unfold W8; rw [b5 (D6 (by omega))]
        · unfold K6;rw [if_pos (by simp; omega),b5 (by simp),b5 (by simp; omega),Int.toNat_natCast,Int.toNat_natCast,a9q hj,b6o,Option.bind_some]
          cases a5u (h.getD k (0,0,0,0,0,0)) (h.getD j (0,0,0,0,0,0)) with
          | false=>rfl
          | true=>simp only [Bool.not_true,Bool.false_eq_true,if_false,if_true]; rw [b5 (D6 (by omega))]
  · rw [if_pos (by simp; omega)]; simp [hl]
theorem a3q {h:List HC6} (hok:okH h=true):h.length≤8:=by
  unfold okH at hok; simp only [Bool.and_eq_true,decide_eq_true_eq] at hok; exact hok.1
theorem b9c {h:List HC6} (hok:okH h=true) {k:Nat} (hk:k<h.length):b00 h k=true:=by
  unfold okH at hok; simp only [Bool.and_eq_true] at hok; exact P5.1 hok.2 k hk
theorem b7R {h:List HC6} (hok:okH h=true) {c:HC6} (hc:c∈h):okC c=true:=by
  obtain ⟨k,hk,e⟩:=List.getElem_of_mem hc;have:=b9c hok hk;unfold b00 at this;simp only [Bool.and_eq_true] at this;have e2:h.getD k (0,0,0,0,0,0)=c:=by rw [List.getD_eq_getElem?_getD,List.getElem?_eq_getElem hk,e]; rfl
  rw [e2] at this;exact this.1
def b3w (m:Int) (c:HC6):Bool:=decide (c.2.2.2.2.1≤m)
def cut (m:Int) (c:HC6):HC6:=if m<c.2.2.2.2.2 then (c.1,c.2.1,c.2.2.1,0,c.2.2.2.2.1,0) else c
def a1j (h:List HC6) (m:Int):List HC6:=(h.filter (b3w m)).map (cut m)
def b1g (n:Int) (c:HC6):Bool:=decide (c.1=n)
end Go.Proofs.YtanaeefeggokkaaGreat
