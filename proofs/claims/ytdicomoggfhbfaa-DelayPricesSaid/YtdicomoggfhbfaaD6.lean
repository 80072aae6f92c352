import Derived.Test.YtdicomoggfhbfaaD4
import Derived.Test.YtdicomoggfhbfaaRdr
namespace Go.Proofs.Ytdicomoggfhbfaa
open Go.RowKit
set_option linter.unusedVariables false
set_option linter.unusedSimpArgs false
def fitS (s:Sta):Prop:=InK .i64 s.1∧InK .i64 s.2.1∧InK .i64 s.2.2
theorem st_fit {x:Acs} (hv:vld x=true) {s:Sta} (h:isSt x s=true):fitS s:=by
  obtain ⟨h1,h2,h3,h4⟩:=hasA_iff.1 (isSt_has h).1
  obtain ⟨_,_,k3,k4⟩:=hasA_iff.1 (isSt_has h).2
  have:=vld_len hv
  have:=vld_row hv s.1.toNat
  unfold fitS
  rw [inK_i64,inK_i64,inK_i64]; omega
theorem flat_filter {α:Type} (p:α→Bool):∀ (l:List α),(l.flatMap fun y=>if p y=true then [y] else [])=l.filter p
  | []=>rfl
  | y::l=>by
    rw [List.flatMap_cons,flat_filter p l]
    cases h:p y<;>simp [h]
theorem okX {x:Acs} (h:okEl (.sl (.sl (.pair (.int .i64) .bool))) x):few x:=by
  have:=h.1
  simp only [Ty.bytes] at this
  unfold few; omega
theorem prs_mem {x:Acs} {s:Sta}:s∈prs x↔isPr x s=true:=by
  unfold prs
  rw [List.mem_filter,mem_stas]
  unfold isSt oneB
  constructor
  · rintro ⟨h1,h2⟩
    simp only [Bool.or_eq_true,Bool.and_eq_true,decide_eq_true_eq,Bool.not_eq_true',decide_eq_false_iff_not] at h1 h2
    rcases h1 with h1|h1
    · exact absurd h1.1 h2
    · exact h1
  · intro h
    have:=isPr_lt h
    simp [h,show s.2.1≠s.2.2 by omega]
theorem prs_fit {x:Acs} (hv:vld x=true):∀ s∈prs x,fitS s:=fun s hs=>st_fit hv (mem_stas.1 (List.mem_filter.1 hs).1)
theorem prs_few {x:Acs} (hv:vld x=true):few (prs x):=few_of (Nat.le_trans (List.length_filter_le _ _) (stas_len hv))
/-! ### Sums over lists -/
def sumL {α:Type} (l:List α) (f:α→Nat):Nat:=(l.map f).sum
/-! ### Circles -/
def c2 (x:Acs) (r s:Sta):Bool:=!decide (r.1=s.1)&&(mts x r s&&(mts x s r&&(!oneB r || !oneB s)))
def c3 (x:Acs) (r s q:Sta):Bool:=(!decide (r.1=s.1)&&mts x r s)&&((!decide (r.1=q.1)&&!decide (s.1=q.1))&&(mts x s q&&(mts x q r&&(!oneB r || (!oneB s || !oneB q)))))
def nC (x:Acs):Nat:=sumL (stas x) (fun r=>sumL (stas x) fun s=>(c2 x r s).toNat)+sumL (stas x) (fun r=>sumL (stas x) fun s=>sumL (stas x) fun q=>(c3 x r s q).toNat)
def isC (x:Acs) (l:List Sta):Bool:=match l with
  | [r,s]=>isSt x r&&(isSt x s&&c2 x r s)
  | [r,s,q]=>isSt x r&&(isSt x s&&(isSt x q&&c3 x r s q))
  | _=>false
theorem clos_two {x:Acs} {r s:Sta}:(goes x [r] s&&clos x [r,s])=c2 x r s:=by
  rw [goes_two]; unfold clos c2 lastS
  simp only [List.any_cons,List.any_nil,Bool.or_false]
  show ((!decide (r.1=s.1)&&mts x r s)&&((!oneB r || !oneB s)&&mts x s r))=_
  cases decide (r.1=s.1)<;>cases mts x r s<;>cases mts x s r<;>cases oneB r<;>cases oneB s<;>rfl
theorem clos_three {x:Acs} {r s q:Sta}:(goes x [r] s&&(goes x [r,s] q&&clos x [r,s,q]))=c3 x r s q:=by
  rw [goes_two,goes_three]; unfold clos c3 lastS
  simp only [List.any_cons,List.any_nil,Bool.or_false]
  show ((!decide (r.1=s.1)&&mts x r s)&&((!(decide (r.1=q.1) || decide (s.1=q.1))&&mts x s q)&&((!oneB r || (!oneB s || !oneB q))&&mts x q r)))=_
  cases decide (r.1=s.1)<;>cases mts x r s<;>cases mts x s q<;>cases mts x q r<;>cases decide (r.1=q.1)<;>cases decide (s.1=q.1)<;>cases oneB r<;>cases oneB s<;>cases oneB q<;>rfl
theorem mem_circs {x:Acs} {l:List Sta}:l∈circs x↔isC x l=true:=by
  unfold circs
  rw [List.mem_filter,List.mem_append,mem_L2,mem_L3]
  constructor
  · rintro ⟨⟨r,s,hr,hs,hg,rfl⟩|⟨r,s,q,hr,hs,hq,hg,hg2,rfl⟩,hc⟩
    · have:=clos_two (x:=x) (r:=r) (s:=s)
      rw [hg,hc] at this
      simp [isC,hr,hs,← this]
    · have:=clos_three (x:=x) (r:=r) (s:=s) (q:=q)
      rw [hg,hg2,hc] at this
      simp [isC,hr,hs,hq,← this]
  · intro h
    unfold isC at h
    split at h
    · rename_i r s
      simp only [Bool.and_eq_true] at h
      obtain ⟨hr,hs,hc⟩:=h
      rw [← clos_two,Bool.and_eq_true] at hc
      exact ⟨.inl ⟨r,s,hr,hs,hc.1,rfl⟩,hc.2⟩
    · rename_i r s q
      simp only [Bool.and_eq_true] at h
      obtain ⟨hr,hs,hq,hc⟩:=h
      rw [← clos_three,Bool.and_eq_true,Bool.and_eq_true] at hc
      exact ⟨.inr ⟨r,s,q,hr,hs,hq,hc.1,hc.2.1,rfl⟩,hc.2.2⟩
    · cases h
/-! ### IsCircle of the program -/
end Go.Proofs.Ytdicomoggfhbfaa
