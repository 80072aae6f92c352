import Derived.Test.YteclokkdgmacpaaTy7
namespace Go.Proofs.Yteclokkdgmacpaa
open Go.RowKit
abbrev Y7:Ty:=.pair (.int .i64) (.pair (.int .i64) (.pair (.int .i64) .bool))
attribute [go_sem] Y7
abbrev AVal.ii (x:Int):AVal:=.int .i64 x
attribute [go_sem] AVal.ii
theorem zj {α:Type} {a b:α} (h:some a=some b):a=b:=Option.some.inj h
theorem zw {α β:Type} {o:Option α} {f:α→Option β} {b:β} (h:o.bind f=some b):∃ a,o=some a∧f a=some b:=Option.bind_eq_some_iff.1 h
theorem y1 {α:Type} {n:Nat} {a:α} {l:List α}:(a::l).drop (n+1)=l.drop n:=rfl
theorem y2 {α:Type} {l:List α}:l.drop 0=l:=rfl
theorem y3 {α:Type} {n:Nat} {a:α} {l:List α}:(a::l).take (n+1)=a::l.take n:=rfl
theorem y4 {α:Type} {l:List α}:l.take 0=[]:=rfl
end Go.Proofs.Yteclokkdgmacpaa
