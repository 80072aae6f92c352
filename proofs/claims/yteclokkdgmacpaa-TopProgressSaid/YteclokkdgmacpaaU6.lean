import Derived.Test.YteclokkdgmacpaaU5
import Derived.Test.YteclokkdgmacpaaRdr
namespace Go.Proofs.Yteclokkdgmacpaa
open Go.RowKit
set_option linter.unusedVariables false
set_option linter.unusedSimpArgs false
set_option linter.unusedSectionVars false
set_option maxRecDepth 10000
def goB (g:Gr) (p:Int):Bool:=g.2.any fun m=>decide (m.1=p)
def endsL (g:Gr):List Int:=(reachL g).filter fun p=>!goB g p
theorem SameInts_eq7 (a b:List Int) (ha:few a) (hb:few b):linealref07_SameInts a b=some (decide (a=b)):=by
 unfold linealref07_SameInts
 by_cases hl:a.length=b.length
 ·rw [if_neg (by simp [hl])]
  have key:=whileO_all (body:=linealref07_SameInts_b1 a b) (List.range a.length) (fun k=>decide (a.getD k 0=b.getD k 0)) (fun k j hk=>by
   obtain ⟨hlt,rfl⟩:=range_at hk
   unfold few at ha
   unfold linealref07_SameInts_b1
   simp only [Int.toNat_natCast]
   rw [if_pos (by rw [decide_eq_true_eq]; omega),ck_pos (by omega),ck_pos (by omega),ck_pos (by omega),ck_pos (by omega),ck_pos (by rw [inK_i64]; omega)]
   by_cases h:a.getD j 0=b.getD j 0
   ·rw [if_neg (by simpa using h),if_pos (by simpa using h)]
   ·rw [if_pos (by simpa using h),if_neg (by simpa using h)]) (by
   rw [List.length_range]
   unfold linealref07_SameInts_b1
   rw [if_neg (by simp)])
  rw [key,Option.bind_some]
  have hiff:(List.range a.length).all (fun k=>decide (a.getD k 0=b.getD k 0))=decide (a=b):=by
   rw [Bool.eq_iff_iff,List.all_eq_true,decide_eq_true_iff]
   constructor
   ·intro h
    refine List.ext_getElem hl fun i h1 h2=>?_
    have:=of_decide_eq_true (h i (List.mem_range.2 h1))
    rwa [getD_of (List.getElem?_eq_getElem h1),getD_of (List.getElem?_eq_getElem h2)] at this
   ·rintro rfl; simp
  rw [hiff]
  cases decide (a=b)<;>rfl
 ·rw [if_pos (by simp; omega),decide_eq_false (fun e=>hl (by rw [e]))]
theorem okZ_of {g:Gr} (h:okEl (.pair (.int .i64) (.sl (.pair (.int .i64) (.pair (.int .i64) (.pair (.int .i64) .bool))))) g):okZ g:=by
 refine ⟨?_,fun m hm=>?_⟩
 ·have h1:g.2.length*25≤140737488351232:=h.2.1
  unfold few
  omega
 ·have:=h.2.2.2 m hm
  exact ⟨this.1,this.2.1,this.2.2.1⟩
end Go.Proofs.Yteclokkdgmacpaa
