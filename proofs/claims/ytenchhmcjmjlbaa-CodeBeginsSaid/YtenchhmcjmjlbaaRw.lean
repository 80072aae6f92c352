import Derived.Test.YtenchhmcjmjlbaaRdr
import Derived.Test.YtenchhmcjmjlbaaAvc
import Derived.Lib.QuietBelow
namespace Go.Proofs.Ytenchhmcjmjlbaa
open Go.RowKit
theorem av_none (η:Nat→Value):Av noA η (hpGet [])=noA:=by
 funext g
 refine propext ⟨fun h=>?_,fun h=>h.elim⟩
 rcases h with h|⟨b,B,h,_⟩
 ·exact h
 ·simp [hpGet] at h
theorem relH_none (η:Nat→Value) (w:World):RelH noA η (hpGet []) w where
 blk:=fun b B h=>by simp [hpGet] at h
 inj:=fun b b' B B' g h=>by simp [hpGet] at h
 av:=fun g h=>h.elim
theorem live_none (η:Nat→Value) (g:Nat):¬ Live η (hpGet []) g:=by
 rintro ⟨b,B,h,_⟩; simp [hpGet] at h
theorem HC.row {P:Program} {f:FuncId} {l:List AVal} (h:HC P f [] l [] (.bool true)) {η:Nat→Value} {w:World} {vs:Array Value} (hv:RepVs η w noA l vs.toList) :
  Calls P f vs w fun e w'=>e=.returned (.bool true)∧Below w.heap.size w w':=by
 refine (h.2 η noA w vs (relH_none η w) (by rw [av_none]; exact hv)).mono fun e w' ⟨v,η',he,hg⟩=>?_
 have hb:v=.bool true:=by have:=hg.rv; unfold RepV at this; exact this
 subst hb
 exact ⟨he,hg.fr.os,hg.fr.tape,hg.fr.output,hg.fr.size,fun k hk=>hg.fr.heap k hk (live_none η k)⟩
end Go.Proofs.Ytenchhmcjmjlbaa
