import Derived.Test.YteclokkdgmacpaaU6
namespace Go.Proofs.Yteclokkdgmacpaa
open Go.RowKit
set_option linter.unusedVariables false
set_option linter.unusedSimpArgs false
set_option linter.unusedSectionVars false
set_option maxRecDepth 10000
/-! ### Without -/
def lessM (ms:List Mv) (k:Nat):List Mv:=ms.take k++ms.drop (k+1)
def lessR (g:Gr) (move:Int):Int×List Mv×Int:=if okG g=true then (if isB move (g.2.length:Int)=true then (g.1,lessM g.2 move.toNat,0) else (0,[],2)) else (0,[],70)
/-! ### Renamed -/
def swT (a b t:Int):Int:=if t=a then b else if t=b then a else t
def swM (a b:Int) (m:Mv):Mv:=(m.1,swT a b m.2.1,m.2.2)
def renG (g:Gr) (a b:Int):Gr:=(g.1,g.2.map (swM a b))
def renR (g:Gr) (a b:Int):Int×List Mv×Int:=if okG g=true then (if isB a 3=true then (if isB b 3=true then (g.1,g.2.map (swM a b),0) else (0,[],2)) else (0,[],2)) else (0,[],70)
/-! ### Only -/
def onlyM (t:Int) (ms:List Mv):List Mv:=ms.filter fun m=>decide (m.2.1=t)
def onlyR (g:Gr) (t:Int):Int×List Mv×Int:=if okG g=true then (if isB t 3=true then (g.1,onlyM t g.2,0) else (0,[],2)) else (0,[],70)
/-! ### The law -/
end Go.Proofs.Yteclokkdgmacpaa
