/-
  Short names,for great contracts.
-/
import Derived.Test.YteclokkdgmacpaaTy7
namespace Go.Proofs.Yteclokkdgmacpaa
open Go.RowKit
abbrev Y7:Ty:=.pair (.int .i64) (.pair (.int .i64) (.pair (.int .i64) .bool))
attribute [go_sem] Y7
abbrev AVal.ii (x:Int):AVal:=.int .i64 x
attribute [go_sem] AVal.ii
theorem y1 {α:Type} {n:Nat} {a:α} {l:List α}:(a :: l).drop (n + 1)=l.drop n:=rfl
end Go.Proofs.Yteclokkdgmacpaa
