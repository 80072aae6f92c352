import Derived.Test.YtanaeefeggokkaaGreatRdr
import Derived.Test.YtanaeefeggokkaaGreatAvc
import Derived.Lib.QuietBelow
namespace Go.Proofs.YtanaeefeggokkaaGreat
open Go.RowKit
theorem b8b (η:Nat→Value):Av noA η (b6 [])=noA:=by
 funext g
 refine propext ⟨fun h=>?_,fun h=>h.elim⟩;rcases h with h|⟨b,B,h,_⟩
 ·exact h
 ·simp [b6] at h
theorem b3Y (η:Nat→Value) (w:World):RelH noA η (b6 []) w where
 blk:=fun b B h=>by simp [b6] at h
 inj:=fun b b' B B' g h=>by simp [b6] at h
 av:=fun g h=>h.elim
theorem b38 (η:Nat→Value) (g:Nat):¬ p9 η (b6 []) g:=by
 rintro ⟨b,B,h,_⟩; simp [b6] at h
theorem HC.row {P:Program} {f:FuncId} {l:List AVal} (h:HC P f [] l [] (.bool true)) {η:Nat→Value} {w:World} {vs:Array Value} (hv:d6 η w noA l vs.toList) :
  Calls P f vs w fun e w'=>e=.returned (.bool true)∧Below w.heap.size w w':=by
 refine (h.2 η noA w vs (b3Y η w) (by rw [b8b]; exact hv)).mono fun e w' ⟨v,η',he,hg⟩=>?_;have hb:v=.bool true:=by have:=hg.rv; unfold d9 at this; exact this
 subst hb;exact ⟨he,hg.fr.os,hg.fr.tape,hg.fr.output,hg.fr.size,fun k hk=>hg.fr.heap k hk (b38 η k)⟩
end Go.Proofs.YtanaeefeggokkaaGreat
