import Derived.Test.YteclokkdgmacpaaU4
namespace Go.Proofs.Yteclokkdgmacpaa
open Go.RowKit
set_option linter.unusedVariables false
set_option linter.unusedSimpArgs false
set_option linter.unusedSectionVars false
set_option maxRecDepth 10000
def wayL (are:Mv→Bool) (g:Gr) (from0 to0:Int):Option (List Int):=((found are g from0).find? fun y=>decide (y.1=to0)).map (·.2)
theorem fold_find {to0:Int} {yl:Int×List Int→Unit→Option (Step Unit (List Int))} (h:∀ y,yl y ()=if (decide (y.1=to0))=true then some (.done y.2) else some (.next ())):∀ L:List (Int×List Int),foldY yl L ()=some (match L.find? (fun y=>decide (y.1=to0)) with|some y=>.inr y.2|none=>.inl ())
 | []=>rfl
 | y::L=>by
  simp only [foldY,List.find?_cons]
  rw [h y]
  by_cases e:y.1=to0
  ·rw [if_pos (decide_eq_true e),decide_eq_true e]; rfl
  ·rw [if_neg (by rw [decide_eq_true_eq]; exact e),decide_eq_false e]
   simp only [Option.bind_some]
   exact fold_find h L
def wayA (o:Option (List Int)):List Int×Bool:=match o with|some w=>(w,true)|none=>([],false)
theorem way_2_eq {g:Gr} (hg:GOK g) {from0:Int} (hf:0≤from0∧from0<g.1) (to0:Int):progress_graph_way_2 g from0 to0=some (wayA (wayL (k0) g from0 to0)):=by
 have hy:=fold_find (to0:=to0) (yl:=progress_graph_way_2_y1 to0) (fun y=>rfl) (found (k0) g from0)
 unfold progress_graph_way_2
 have e0:progress_graph_paths_2 g from0=some ():=rfl
 rw [e0,Option.bind_some,paths_2_ok hg hf (progress_graph_way_2_y1 to0) () hy,Option.bind_some]
 unfold wayL wayA
 cases (found (k0) g from0).find? (fun y=>decide (y.1=to0))<;>rfl
theorem way_3_eq {g:Gr} (hg:GOK g) {from0:Int} (hf:0≤from0∧from0<g.1) (to0:Int) (c0:Int):progress_graph_way_3 g from0 to0 c0=some (wayA (wayL (notOwn c0) g from0 to0)):=by
 have hy:=fold_find (to0:=to0) (yl:=progress_graph_way_3_y1 to0) (fun y=>rfl) (found (notOwn c0) g from0)
 unfold progress_graph_way_3
 have e0:progress_graph_paths_3 g from0 c0=some ():=rfl
 rw [e0,Option.bind_some,paths_3_ok hg hf c0 (progress_graph_way_3_y1 to0) () hy,Option.bind_some]
 unfold wayL wayA
 cases (found (notOwn c0) g from0).find? (fun y=>decide (y.1=to0))<;>rfl
theorem way_4_eq {g:Gr} (hg:GOK g) {from0:Int} (hf:0≤from0∧from0<g.1) (to0:Int) (c0:Int):progress_graph_way_4 g from0 to0 c0=some (wayA (wayL (own c0) g from0 to0)):=by
 have hy:=fold_find (to0:=to0) (yl:=progress_graph_way_4_y1 to0) (fun y=>rfl) (found (own c0) g from0)
 unfold progress_graph_way_4
 have e0:progress_graph_paths_4 g from0 c0=some ():=rfl
 rw [e0,Option.bind_some,paths_4_ok hg hf c0 (progress_graph_way_4_y1 to0) () hy,Option.bind_some]
 unfold wayL wayA
 cases (found (own c0) g from0).find? (fun y=>decide (y.1=to0))<;>rfl
theorem wayL_some {are:Mv→Bool} {g:Gr} (hg:GOK g) {p q:Int} (hp:0≤p∧p<g.1) {w:List Int} (h:wayL are g p q=some w):leadL g p w=some q∧(∀ k∈w,are (g.2.getD k.toNat (0,0,0,false))=true)∧w.length<g.1.toNat∧rch are g p q:=by
 obtain ⟨j,hB,_⟩:=srch_ok (are:=are) hg hp
 unfold wayL at h
 rw [Option.map_eq_some_iff] at h
 obtain ⟨y,h1,rfl⟩:=h
 have h2:=List.find?_some h1
 have h3:=List.mem_of_find?_eq_some h1
 obtain ⟨a,ha,hae⟩:=List.mem_iff_getElem.1 h3
 have hz:(found are g p)[a]?=some y:=by rw [← hae]; exact List.getElem?_eq_getElem ha
 have hz':((srch are g p).1.zip (srch are g p).2)[a]?=some y:=hz
 rw [List.getElem?_zip_eq_some] at hz'
 have hy:y.1=q:=of_decide_eq_true h2
 have hw:=hB.way a _ _ hz'.1 hz'.2
 have hl:=hB.len_le hg
 have hal:=(List.getElem?_eq_some_iff.1 hz'.1).1
 rw [hy] at hw
 exact ⟨hw.1,hw.2.1,by omega,by rw [← hy]; exact List.mem_of_getElem? hz'.1⟩
theorem wayL_none {are:Mv→Bool} {g:Gr} (hg:GOK g) {p q:Int} (hp:0≤p∧p<g.1):wayL are g p q=none↔¬ rch are g p q:=by
 obtain ⟨j,hB,_⟩:=srch_ok (are:=are) hg hp
 unfold wayL
 rw [Option.map_eq_none_iff,List.find?_eq_none]
 constructor
 ·intro h hr
  obtain ⟨a,ha,hae⟩:=List.mem_iff_getElem.1 hr
  have ha2:a<(srch are g p).2.length:=by rw [hB.len]; exact ha
  have hz:(found are g p)[a]?=some (q,(srch are g p).2[a]):=by
   show ((srch are g p).1.zip (srch are g p).2)[a]?=_
   rw [List.getElem?_zip_eq_some]
   exact ⟨by rw [← hae]; exact List.getElem?_eq_getElem ha,List.getElem?_eq_getElem ha2⟩
  have:=h _ (List.mem_of_getElem? hz)
  simp at this
 ·intro h y hy hd
  apply h
  have hq:y.1=q:=of_decide_eq_true hd
  rw [← hq]
  exact (List.of_mem_zip (a:=y.1) (b:=y.2) hy).1
def wayR (g:Gr) (place:Int):List Int×Int:=if okG g=true then (if isB place g.1=true then (match wayL any g 0 place with|some w=>(w,0)|none=>([],5)) else ([],2)) else ([],70)
/-! ### The reference's search,layer by layer -/
structure RW (g:Gr) (s:PW) (there:List Bool) (ways:List (List Int)):Prop where
 l1:there.length=g.1.toNat
 l2:ways.length=g.1.toNat
 t:∀ q:Nat,q<g.1.toNat→there.getD q false=decide ((q:Int)∈s.1)
 w:∀ (j:Nat) (p:Int) (u:List Int),s.1[j]?=some p→s.2[j]?=some u→ways.getD p.toNat []=u
section
variable {g:Gr} (hg:GOK g)
include hg
end
end Go.Proofs.Yteclokkdgmacpaa
