import Derived.Test.YtenchhmcjmjlbaaCkp
import Derived.Test.YtenchhmcjmjlbaaGh
namespace Go.Proofs.Ytenchhmcjmjlbaa
open Go.RowKit
set_option linter.unusedVariables false
set_option linter.unusedSimpArgs false
set_option maxRecDepth 10000
abbrev HC6:=Int×Int×Int×Int×Int×Int
def bef (c d:HC6):Bool:=!decide (c.2.2.2.2.2=0)&&decide (c.2.2.2.2.2<d.2.2.2.2.1)
def b50 (c d:HC6):Bool:=!decide (c.2.2.2.2.1=d.2.2.2.2.1)&&!decide (c.2.2.2.2.1=d.2.2.2.2.2)&&!decide (c.2.2.2.2.2=d.2.2.2.2.1)&&!(!decide (c.2.2.2.2.2=0)&&decide (c.2.2.2.2.2=d.2.2.2.2.2))&&(!decide (c.1=d.1) || bef c d || bef d c)
def inB (a n b:Int):Bool:=decide (a≤n)&&decide (n≤b)
def okC (c:HC6):Bool:=inB 0 c.1 3&&inB 0 c.2.1 1&&inB 0 c.2.2.1 3&&inB 0 c.2.2.2.1 9&&inB 1 c.2.2.2.2.1 100&&((decide (c.2.2.2.2.2=0)&&decide (c.2.2.2.1=0)) || (decide (c.2.2.2.2.1<c.2.2.2.2.2)&&decide (c.2.2.2.2.2≤100)))
def b6l (h:List HC6) (k:Nat):Bool:=okC (h.getD k (0,0,0,0,0,0))&&a6u k fun j=>b50 (h.getD k (0,0,0,0,0,0)) (h.getD j (0,0,0,0,0,0))
def okH (h:List HC6):Bool:=decide (h.length≤8)&&a6u h.length (b6l h)
def b6q (p:HC6→Bool) (c:HC6):List HC6:=if p c=true then [c] else []
def b2U (m:Int) (c:HC6):Bool:=decide (c.2.2.2.2.1≤m)
def cut (m:Int) (c:HC6):HC6:=if m<c.2.2.2.2.2 then (c.1,c.2.1,c.2.2.1,0,c.2.2.2.2.1,0) else c
theorem b2z {α:Type} (p:List α) (a d:α) (s:List α):(p++a::s).getD p.length d=a:=by
  rw [List.getD_eq_getElem?_getD,List.getElem?_append_right (by omega),Nat.sub_self]; rfl
theorem b4d {α:Type} (p:List α) (a b:α) (s:List α):(p++a::s).set p.length b=p++b::s:=by
  rw [List.set_append_right _ _ (by omega),Nat.sub_self]; rfl
def a08 (h:List HC6) (m:Int):List HC6:=(h.filter (b2U m)).map (cut m)
def a69 (n:Int) (c:HC6):Bool:=decide (c.1=n)
end Go.Proofs.Ytenchhmcjmjlbaa
