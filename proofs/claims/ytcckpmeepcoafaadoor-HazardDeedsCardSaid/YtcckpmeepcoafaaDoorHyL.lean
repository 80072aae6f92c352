import Derived.Test.YtcckpmeepcoafaaDoorRows
import Derived.Test.YtcckpmeepcoafaaDoorRw
import Derived.Test.YtcckpmeepcoafaaDoorTbz
import Derived.LaidMore
import Derived.ProofKit
import Derived.OpenShut
namespace Go.Proofs.YtcckpmeepcoafaaDoor
open Go.ChangeShapes Go.WideShapes Go.ChangeAt Go.RowKit
set_option linter.constructorNameAsVariable false
def laidF:List (String×DataW Unit):=[("lineal/hazard.fields",Rows.laid_lineal_hazard_fields)]
theorem gFields:Tryd.prog.globalNamed "lineal/hazard.fields"=some 0:=by kernel_rfl
theorem tFields:(Tryd.prog.globals[0]?).map (·.type)=some 93:=by kernel_rfl
theorem cInt:Tryd.prog.cellsOf 3=1:=by kernel_rfl
theorem door_met (os:Os) (args:Array Value):laidMetH Tryd.prog laidF ((World.doorLaid Tryd.prog 14 os).forCall (fun _ _=>0) ⟨#[],args,[]⟩).memory :=
  laidMetH_of_parts3 (fuel:=8) (laidMet_of_run' 8 (by kernel_rfl) (by kernel_rfl)) (by kernel_rfl) (by kernel_rfl)
theorem glob_of_laid {W:World} (h:laidMetH Tryd.prog laidF W):Glob (fun _=>False) W:=by
  rw [MakeChecks.laidMetH_plain _ _ _ (by kernel_rfl)] at h
  obtain ⟨ps,⟨g0,t0,cs0,f0,p0,q0,hg0,ht0,hv0,hd0,_,_⟩,_,_⟩:=h
  obtain rfl:=Option.some.inj (gFields.symm.trans hg0)
  obtain rfl:=Option.some.inj (tFields.symm.trans ht0)
  obtain ⟨xs,m1,rfl,hx1,hlen,hn3,hel⟩:=DataW.trod_array Tryd.underlying93 hd0
  have hc:∀ (i:Nat) (v:Int),fieldsL[i]?=some v→W.cell? ⟨0,i,none⟩=some (.int .i64 v):=by
    intro i v hv
    have hi:i<7:=by
      have:=(List.getElem?_eq_some_iff.1 hv).1
      simpa [fieldsL] using this
    have hxi:i<xs.length:=by omega
    have h1:=hel i hi
    rw [List.getElem?_eq_getElem hxi,cInt,Nat.mul_one] at h1
    obtain ⟨k,e1,e2,_⟩:=DataW.trod_int Tryd.underlying3 h1
    have h2:(xs.map (·.1))[i]?=some (.lit (.int .i64 k)):=by
      rw [List.getElem?_map,List.getElem?_eq_getElem hxi,e2]; rfl
    have h3:(fieldsL.map fun z=>(DataW.lit (.int .i64 z):DataW Unit))=xs.map (·.1):=by
      simp only [Prod.mk.injEq] at hx1
      have:=hx1.1
      simp only [Rows.laid_lineal_hazard_fields,DataW.agg.injEq] at this
      rw [← this]; rfl
    rw [← h3,List.getElem?_map,hv] at h2
    have hk:v=k:=by simpa using h2
    subst hk
    rw [World.var?_cell hg0 hv0 i]
    have h4:((cs0.toList.drop i).take 1)[0]?=some (.int .i64 v):=by rw [e1]; rfl
    rw [List.getElem?_take_of_lt (by omega),List.getElem?_drop,Nat.add_zero] at h4
    simpa using h4
  refine ⟨fun q hq=>?_,fun q hq i v hv=>?_,fun _ _ h=>h⟩
  · have:q=(0,fieldsL):=by simpa [globs] using hq
    subst this
    have h0:=hc 0 0 rfl
    unfold World.cell? at h0
    cases hb:W.heap[0]? with
    | none=>rw [hb] at h0; cases h0
    | some o=>exact (Array.getElem?_eq_some_iff.1 hb).1
  · have:q=(0,fieldsL):=by simpa [globs] using hq
    subst this
    exact hc i v hv
end Go.Proofs.YtcckpmeepcoafaaDoor
