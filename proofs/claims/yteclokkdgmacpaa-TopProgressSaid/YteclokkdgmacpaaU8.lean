import Derived.Test.YteclokkdgmacpaaU6
namespace Go.Proofs.Yteclokkdgmacpaa
open Go.RowKit
set_option linter.unusedVariables false
set_option linter.unusedSimpArgs false
set_option linter.unusedSectionVars false
set_option maxRecDepth 10000
theorem short {g:Gr} (hg:GOK g):∀ (w':List Int) (q:Int),leadL g 0 w'=some q→∃ (b:Nat) (v:List Int),(srch any g 0).1[b]?=some q∧(srch any g 0).2[b]?=some v∧v.length≤w'.length:=by
 obtain ⟨j,hB,hj⟩:=srch_ok (are:=any) hg (zero_in hg)
 intro w'
 induction w' using snoc_ind with
 | h0 =>
  intro q h
  injection h with h; subst h
  exact ⟨0,[],hB.hd.1,hB.hd.2,Nat.le_refl _⟩
 | h1 w' i ih =>
  intro q h
  rw [leadL_append,Option.bind_eq_some_iff] at h
  obtain ⟨p,h1,h2⟩:=h
  rw [leadL_cons] at h2
  split at h2
  ·rename_i hc
   injection h2 with h2
   obtain ⟨b,v,b1,b2,b3⟩:=ih p h1
   have hi:=isB_iff.1 hc.1
   have hm:g.2.getD i.toNat (0,0,0,false)∈g.2:=getD_in (by omega)
   have hbl:=(List.getElem?_eq_some_iff.1 b1).1
   obtain ⟨b',v',c1,c2,c3⟩:=hB.cl b p v (by omega) b1 b2 _ hm hc.2 rfl
   exact ⟨b',v',by rw [← h2]; exact c1,c2,by rw [List.length_append,List.length_singleton]; omega⟩
  ·cases h2
theorem lead_last (g:Gr):∀ (l:List Int) (p r i:Int),leadL g p (l++[i])=some r→r=(g.2.getD i.toNat (0,0,0,false)).2.2.1∧isB i (g.2.length:Int)=true:=fun l p r i h=>by
 rw [leadL_append,Option.bind_eq_some_iff] at h
 obtain ⟨q,_,h2⟩:=h
 rw [leadL_cons] at h2
 split at h2
 ·rename_i hc
  injection h2 with h2
  exact ⟨h2.symm,hc.1⟩
 ·cases h2
theorem lead_bound (g:Gr):∀ (l:List Int) (p r:Int),leadL g p l=some r→∀ i∈l,isB i (g.2.length:Int)=true
 | [],_,_,_,i,hi=>by cases hi
 | j::l,p,r,h,i,hi=>by
  rw [leadL_cons] at h
  split at h
  ·rename_i hc
   rcases List.mem_cons.1 hi with e|hi
   ·subst e; exact hc.1
   ·exact lead_bound g l _ _ h i hi
  ·cases h
def leadsB (g:Gr) (l:List Int) (p:Int):Bool:=if l=[] then decide (p=0) else (l.all fun i=>isB i (g.2.length:Int))&&decide ((g.2.getD (l.getD 0 0).toNat (0,0,0,false)).1=0)&&decide ((g.2.getD (l.getD (l.length - 1) 0).toNat (0,0,0,false)).2.2.1=p)
theorem last_of {l:List Int} (h:l≠[]):∃ r i,l=r++[i]∧l.getD (l.length - 1) 0=i:=by
 rcases List.eq_nil_or_concat l with e|⟨r,i,e⟩
 ·exact absurd e h
 ·rw [List.concat_eq_append] at e
  refine ⟨r,i,e,?_⟩
  subst e
  simp [List.getD]
theorem lead_path {g:Gr} {l:List Int} {p:Int} (h:leadL g 0 l=some p) (hl:l.length≤1000):isPath g l=true∧leadsB g l p=true:=by
 unfold isPath
 rw [decide_eq_true hl,Bool.true_and]
 cases l with
 | nil =>
  injection h with h
  refine ⟨rfl,?_⟩
  unfold leadsB
  rw [if_pos rfl,decide_eq_true_iff]; exact h.symm
 | cons i r =>
  have hb:=lead_bound g _ _ _ h
  have h':=h
  rw [leadL_cons] at h
  split at h
  ·rename_i hc
   refine ⟨?_,?_⟩
   ·rw [isPth_cons,hc.1,hc.2,h']; rfl
   ·unfold leadsB
    rw [if_neg (by simp),Bool.and_eq_true,Bool.and_eq_true,decide_eq_true_iff,decide_eq_true_iff,List.all_eq_true]
    obtain ⟨s,j,e,e2⟩:=last_of (l:=i::r) (by simp)
    refine ⟨⟨hb,hc.2⟩,?_⟩
    rw [e2]
    rw [e] at h'
    exact (lead_last g s 0 p j h').1.symm
  ·cases h
section
variable {g:Gr} (hg:GOK g) (hz:okZ g) {p:Int} (hp:0≤p∧p<g.1)
include hg hz hp
end
end Go.Proofs.Yteclokkdgmacpaa
