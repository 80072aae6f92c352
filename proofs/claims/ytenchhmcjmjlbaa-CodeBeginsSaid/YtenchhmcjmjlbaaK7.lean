import Derived.Test.YtenchhmcjmjlbaaK6
import Derived.Test.YtenchhmcjmjlbaaKtw
import Derived.Test.YtenchhmcjmjlbaaRdr
namespace Go.Proofs.Ytenchhmcjmjlbaa
open Go.RowKit
set_option linter.unusedVariables false
set_option linter.unusedSimpArgs false
theorem exL {α R:Type} (xs:List α) {body:Int→Option (Step Int R)} (h:∀ (k:Nat) (x:α),xs[k]?=some x→body k=some (.next ((k:Int)+1))∨∃ r,body k=some (.done r)) (hd:∃ r,body xs.length=some (.done r)):∃ r,whileO body 0=some r:=by
  obtain ⟨r,e,_⟩:=scan1 (R:=R) xs (fun _=>True) (fun _=>True) (body:=body) trivial (fun k x hk _=>by
    rcases h k x hk with h|⟨r,h⟩
    · exact .inl ⟨h,trivial⟩
    · exact .inr ⟨r,h,trivial⟩) (fun _=>by obtain ⟨r,h⟩:=hd; exact ⟨r,h,trivial⟩)
  exact ⟨r,e⟩
abbrev Sp:Type:=Int×Int×(List (List Int))×(List (List Int))
theorem large2 (z:Sp):∃ b,lineallaw02_Large [z]=some b:=by
  have key:∃ r,whileO (lineallaw02_Large_b1 [z]) 0=some r:=by
    refine exL [z] (fun k x hk=>?_) ⟨_,by unfold lineallaw02_Large_b1; rw [if_neg (by simp)]⟩
    have hk0:k=0:=by
      have:=(List.getElem?_eq_some_iff.1 hk).1
      simp at this; exact this
    subst hk0
    have hz:x=z:=by simpa using hk.symm
    subst hz
    unfold lineallaw02_Large_b1
    rw [if_pos (by simp),ck_pos (by simp),ck_pos (by simp)]
    simp only [Int.toNat_natCast,List.getD_cons_zero]
    by_cases h1:20<(x.2.2.1.length:Int)
    · rw [if_pos (decide_eq_true h1)]; exact .inr ⟨_,rfl⟩
    · rw [if_neg (by rw [decide_eq_true_eq]; exact h1)]
      by_cases h2:20<(x.2.2.2.length:Int)
      · rw [if_pos (decide_eq_true h2)]; exact .inr ⟨_,rfl⟩
      · rw [if_neg (by rw [decide_eq_true_eq]; exact h2)]
        have hx0:([x].getD ((0:Nat):Int).toNat (0,0,[],[]))=x:=rfl
        obtain ⟨r2,e2⟩:=exL x.2.2.1 (body:=lineallaw02_Large_b2 [x] ((0:Nat):Int)) (fun j y hj=>by
          obtain ⟨hlt,hik⟩:=few_in (few_of (n:=20) (by omega)) hj
          unfold lineallaw02_Large_b2
          rw [hx0,if_pos (decide_eq_true (by omega)),ck_pos (by omega),ck_pos (by omega)]
          split
          · exact .inr ⟨_,rfl⟩
          · rw [ck_pos hik]; exact .inl rfl) ⟨_,by unfold lineallaw02_Large_b2; rw [hx0,if_neg (by simp)]⟩
        rw [e2,Option.bind_some]
        cases r2 with
        | inl _=>exact .inr ⟨_,rfl⟩
        | inr _ =>
          obtain ⟨r3,e3⟩:=exL x.2.2.2 (body:=lineallaw02_Large_b3 [x] ((0:Nat):Int)) (fun j y hj=>by
            obtain ⟨hlt,hik⟩:=few_in (few_of (n:=20) (by omega)) hj
            unfold lineallaw02_Large_b3
            rw [hx0,if_pos (decide_eq_true (by omega)),ck_pos (by omega),ck_pos (by omega)]
            split
            · exact .inr ⟨_,rfl⟩
            · rw [ck_pos hik]; exact .inl rfl) ⟨_,by unfold lineallaw02_Large_b3; rw [hx0,if_neg (by simp)]⟩
          simp only
          unfold lineallaw02_Large_k3
          rw [e3,Option.bind_some]
          cases r3 with
          | inl _=>exact .inr ⟨_,rfl⟩
          | inr _ =>
            simp only
            unfold lineallaw02_Large_k2
            rw [ck_pos (by rw [inK_i64]; omega)]
            exact .inl rfl
  obtain ⟨r,e⟩:=key
  unfold lineallaw02_Large
  rw [e,Option.bind_some]
  cases r with
  | inl _=>exact ⟨_,rfl⟩
  | inr _=>exact ⟨_,rfl⟩
theorem large_ex (x:Sp×Cd×Us) (hc:few x.2.1) (hu:few x.2.2):∃ b,lineallaw08_Large x=some b:=by
  obtain ⟨r,e⟩:=exL x.2.1 (body:=lineallaw08_Large_b1 x) (fun j y hj=>by
    obtain ⟨hlt,hik⟩:=few_in hc hj
    unfold lineallaw08_Large_b1
    rw [if_pos (decide_eq_true (by omega)),ck_pos (by omega),ck_pos (by omega)]
    split
    · exact .inr ⟨_,rfl⟩
    · rw [ck_pos hik]; exact .inl rfl) ⟨_,by unfold lineallaw08_Large_b1; rw [if_neg (by simp)]⟩
  unfold lineallaw08_Large
  rw [e,Option.bind_some]
  cases r with
  | inl _=>exact ⟨_,rfl⟩
  | inr _ =>
    simp only
    unfold lineallaw08_Large_k1
    obtain ⟨r2,e2⟩:=exL x.2.2 (body:=lineallaw08_Large_b2 x) (fun j y hj=>by
      obtain ⟨hlt,hik⟩:=few_in hu hj
      unfold lineallaw08_Large_b2
      rw [if_pos (decide_eq_true (by omega)),ck_pos (by omega),ck_pos (by omega)]
      split
      · exact .inr ⟨_,rfl⟩
      · rw [ck_pos hik]; exact .inl rfl) ⟨_,by unfold lineallaw08_Large_b2; rw [if_neg (by simp)]⟩
    rw [e2,Option.bind_some]
    cases r2 with
    | inl _=>exact ⟨_,rfl⟩
    | inr _ =>
      simp only
      unfold lineallaw08_Large_k2
      obtain ⟨b,e3⟩:=large2 x.1
      rw [e3,Option.bind_some]
      split
      · exact ⟨_,rfl⟩
      · split
        · exact ⟨_,rfl⟩
        · exact ⟨_,rfl⟩
/-! ### What both sides play -/
def outA (c:Cd) (u:Us) (sc:List Int):Sum Int St :=
  if errU c u=0 then (if sc.length≤12 then (match goA c u (st0 u) sc with|some st=>.inr st|none=>.inl 2) else .inl 2) else .inl (errU c u)
theorem errU_0 {c:Cd} {u:Us} (h0:errU c u=0):vldC c=true∧vldU c u=true:=by
  unfold errU at h0
  cases hc:vldC c with
  | false=>rw [hc] at h0; simp at h0
  | true =>
    cases hu:vldU c u with
    | false=>rw [hc,hu] at h0; simp at h0
    | true=>exact ⟨rfl,rfl⟩
theorem goA_len {c:Cd} {u:Us} {sc:List Int} {st:St} (h:goA c u (st0 u) sc=some st):st.sc=sc:=by
  have:=goA_sc h
  rw [this]; rfl
theorem played_both {c:Cd} {u:Us} (hv:vldC c=true∧vldU c u=true) (sc:List Int) (h12:sc.length≤12) (marks:List Int) :
    (goA c u (st0 u) sc=none∧code_program_play (c,u) sc=some ([],[],[],(Ty.dflt T80),0,0,0,(Ty.dflt T85),(Ty.dflt T86),0,false)∧linealref08_played c u sc marks=some (.inl ())) ∨
    ∃ st D W K bg mk,goA c u (st0 u) sc=some st∧Rl c u st D W K bg mk∧code_program_play (c,u) sc=some (c,u,st.sc,D,st.v.1,st.v.2.1,st.v.2.2,W,K,bg,true)∧linealref08_played c u sc marks=some (.inr (st.hs,(st.sc.length:Int),st.v.1,st.v.2.1,st.v.2.2,st.hist,mk)):=by
  have hul:=vldU_len hv.2
  unfold code_program_play linealref08_played
  rw [if_neg (by rw [decide_eq_true_eq]; omega),if_neg (by rw [decide_eq_true_eq]; omega)]
  unfold linealref08_Begin
  rw [ck_pos (by omega)]
  simp only [Option.bind_some]
  have B:=play_both hv.1 hv.2 sc h12 marks sc.length (st0 u) (by simp [st0]) (by simp [st0]) (by simp [st0]) (Ty.dflt T80) _ _ 0 _ (dflt_rl hv.2)
  have e0:sc.drop (st0 u).sc.length=sc:=rfl
  rw [e0] at B
  rcases B with ⟨g,a,b⟩|⟨st,D,W,K,bg,mk,g,R,a,b⟩
  · left
    have a':whileO (code_program_play_b1 (c,u) sc) ([],Ty.dflt T80,0,0,0,Ty.dflt T85,Ty.dflt T86,0,0)=some (.inl ()):=a
    have b':whileO (linealref08_played_b1 c u sc marks) (List.replicate u.length (0,0,false,0,0,0,0,0),0,0,0,0,[],[],0)=some (.inl ()):=b
    rw [a',b']
    exact ⟨g,rfl,rfl⟩
  · right
    have a':whileO (code_program_play_b1 (c,u) sc) ([],Ty.dflt T80,0,0,0,Ty.dflt T85,Ty.dflt T86,0,0)=some (.inr (st.sc,D,st.v.1,st.v.2.1,st.v.2.2,W,K,bg)):=a
    have b':whileO (linealref08_played_b1 c u sc marks) (List.replicate u.length (0,0,false,0,0,0,0,0),0,0,0,0,[],[],0)=some (.inr (st.hs,(st.sc.length:Int),st.v.1,st.v.2.1,st.v.2.2,st.hist,mk)):=b
    rw [a',b']
    exact ⟨st,D,W,K,bg,mk,g,R,rfl,rfl⟩
theorem run_both {c:Cd} (hf:fitCd c) (u:Us) (sc:List Int) :
    (∃ e:Int,e≠0∧outA c u sc=.inl e∧code_played c u sc=some ([],[],[],(Ty.dflt T80),0,0,0,(Ty.dflt T85),(Ty.dflt T86),0,e)∧linealref08_run c u sc=some (.inl e)) ∨
    (vldC c=true∧vldU c u=true∧∃ st D W K bg mk,outA c u sc=.inr st∧Rl c u st D W K bg mk∧code_played c u sc=some (c,u,st.sc,D,st.v.1,st.v.2.1,st.v.2.2,W,K,bg,0)∧linealref08_run c u sc=some (.inr (st.hs,(st.sc.length:Int),st.v.1,st.v.2.1,st.v.2.2,st.hist,mk))):=by
  unfold code_played linealref08_run
  rw [checkUse_eq hf,asked_eq,Option.bind_some,Option.bind_some]
  by_cases h0:errU c u=0
  · rw [if_neg (by simp [h0]),if_neg (by simp [h0])]
    have hv:=errU_0 h0
    by_cases h12:sc.length≤12
    · have oE:outA c u sc=(match goA c u (st0 u) sc with|some st=>.inr st|none=>.inl 2):=by unfold outA; rw [if_pos h0,if_pos h12]
      rw [oE]
      rcases played_both hv sc h12 [] with ⟨g,a,b⟩|⟨st,D,W,K,bg,mk,g,R,a,b⟩
      · left
        rw [a,b,g]
        exact ⟨2,by decide,rfl,rfl,rfl⟩
      · right
        rw [a,b,g]
        exact ⟨hv.1,hv.2,st,D,W,K,bg,mk,rfl,R,rfl,rfl⟩
    · left
      rw [show outA c u sc=.inl 2 by unfold outA; rw [if_pos h0,if_neg h12]]
      unfold code_program_play linealref08_played
      rw [if_pos (decide_eq_true (by omega)),if_pos (decide_eq_true (by omega))]
      exact ⟨2,by decide,rfl,rfl,rfl⟩
  · left
    rw [if_pos (by simp [h0]),if_pos (by simp [h0]),show outA c u sc=.inl (errU c u) by unfold outA; rw [if_neg h0]]
    exact ⟨errU c u,h0,rfl,rfl,rfl⟩
def leftL (u:Us) (W:El T85) (n:Nat):List Int:=(List.range n).flatMap fun t=>if hasL u W t=true then [(t:Int)] else []
theorem leftL_succ (u:Us) (W:El T85) (n:Nat):leftL u W (n+1)=leftL u W n++(if hasL u W n=true then [(n:Int)] else []):=by
  unfold leftL
  rw [List.range_succ,List.flatMap_append]
  simp
theorem leftL_len (u:Us) (W:El T85) (n:Nat):(leftL u W n).length≤n:=by
  induction n with
  | zero=>simp [leftL]
  | succ n ih=>rw [leftL_succ,List.length_append]; split<;>simp<;>omega
theorem left_loop {u:Us} (hu:u.length≤2) {W:El T85} {body:List Int×Int→Option (Step (List Int×Int) (List Int))}
    (h:∀ (t:Nat) (l:List Int),t<u.length→l.length≤2→body (l,(t:Int))=some (.next (l++(if hasL u W t=true then [(t:Int)] else []),(t:Int)+1))) (hd:∀ l,body (l,(u.length:Int))=some (.done l)):whileO body ([],0)=some (leftL u W u.length):=by
  obtain ⟨r,e,hr⟩:=scan2 (S:=List Int) (R:=List Int) u (fun k l=>l=leftL u W k) (fun l=>l=leftL u W u.length) (body:=body) (s0:=[]) rfl
    (fun k x l hk hI=>by
      have hlt:=(List.getElem?_eq_some_iff.1 hk).1
      subst hI
      have:=leftL_len u W k
      exact .inl ⟨_,h k _ hlt (by omega),(leftL_succ u W k).symm⟩)
    (fun l hI=>⟨l,hd l,hI⟩)
  rw [e,hr]
theorem flatMap_congr' {α β:Type} {f g:α→List β}:∀ {l:List α},(∀ a∈l,f a=g a)→l.flatMap f=l.flatMap g
  | [],_=>rfl
  | a::r,h=>by rw [List.flatMap_cons,List.flatMap_cons,h a (List.mem_cons_self),flatMap_congr' fun b hb=>h b (List.mem_cons_of_mem _ hb)]
def leftA (u:Us) (st:St):List Int:=(List.range u.length).flatMap fun t=>if hasA u st t=true then [(t:Int)] else []
theorem leftA_eq {p:Cd} {u:Us} {st:St} {D:El T80} {W:El T85} {K:El T86} {bg:Int} {mk:List Int} (R:Rl p u st D W K bg mk):leftL u W u.length=leftA u st:=by
  unfold leftL leftA
  refine flatMap_congr' fun t ht=>?_
  rw [hasL_eq R (List.mem_range.1 ht)]
theorem code_left {p:Cd} {u:Us} (hu:vldU p u=true) {st:St} {D:El T80} {W:El T85} {K:El T86} {bg:Int} {mk:List Int} (R:Rl p u st D W K bg mk) (s:List Int) (D':El T80) (v:C3):code_run_left ((p,u),s,D',v,W,K,bg)=some (leftA u st):=by
  have hul:=vldU_len hu
  unfold code_run_left
  rw [left_loop hul.2.1 (W:=W) (fun t l ht hl=>by
    unfold code_run_left_b1
    dsimp only
    have:=hasLine_eq (p:=p) hul.2.1 s D' v W K bg ht
    rw [if_pos (decide_eq_true (by omega)),this,Option.bind_some]
    cases hasL u W t with
    | true=>rw [if_pos rfl,if_pos rfl,ck_pos (by omega),ck_pos (by rw [inK_i64]; omega)]
    | false=>rw [if_neg (by simp),if_neg (by simp),ck_pos (by rw [inK_i64]; omega),List.append_nil]) (fun l=>by unfold code_run_left_b1; rw [if_neg (by simp)]),Option.bind_some,leftA_eq R]
  rfl
theorem code_hist {p:Cd} {u:Us} (hu:vldU p u=true) {st:St} {D:El T80} {W:El T85} {K:El T86} {bg:Int} {mk:List Int} (R:Rl p u st D W K bg mk) (s:List Int) (D':El T80) (v:C3):code_run_history ((p,u),s,D',v,W,K,bg)=some st.hist:=by
  have h6:=inv_len hu R.inv
  have hbg:=R.inv.bg
  unfold code_run_history slices_Clone
  dsimp only
  rw [ck_pos (by omega),ck_pos (by omega),hist_take hu R.inv,ck_pos (by omega)]
  rfl
def resA {α:Type} (z:α) (f:St→α) (o:Sum Int St):α×Int:=match o with|.inl e=>(z,e)|.inr st=>(f st,0)
theorem Run_eq {c:Cd} (hf:fitCd c) (u:Us) (sc:List Int):code_Run c u sc=some (resA [] St.hist (outA c u sc))∧linealref08_Run c u sc=some (resA [] St.hist (outA c u sc)):=by
  unfold code_Run linealref08_Run
  rcases run_both hf u sc with ⟨e,he,o,a,b⟩|⟨hc,hu,st,D,W,K,bg,mk,o,R,a,b⟩
  · rw [a,b,o]
    simp only [Option.bind_some]
    exact ⟨by rw [if_pos (by simp [he])]; rfl,by rw [if_pos (by simp [he])]; rfl⟩
  · rw [a,b,o]
    simp only [Option.bind_some]
    refine ⟨?_,rfl⟩
    rw [if_neg (by simp),code_hist hu R _ _ (st.v.1,st.v.2.1,st.v.2.2)]
    rfl
theorem Left_eq {c:Cd} (hf:fitCd c) (u:Us) (sc:List Int):code_Left c u sc=some (resA [] (leftA u) (outA c u sc))∧linealref08_Left c u sc=some (resA [] (leftA u) (outA c u sc)):=by
  unfold code_Left linealref08_Left
  rcases run_both hf u sc with ⟨e,he,o,a,b⟩|⟨hc,hu,st,D,W,K,bg,mk,o,R,a,b⟩
  · rw [a,b,o]
    simp only [Option.bind_some]
    exact ⟨by rw [if_pos (by simp [he])]; rfl,by rw [if_pos (by simp [he])]; rfl⟩
  · rw [a,b,o]
    simp only [Option.bind_some]
    have hul:=vldU_len hu
    refine ⟨by rw [if_neg (by simp),code_left hu R _ _ (st.v.1,st.v.2.1,st.v.2.2)]; rfl,?_⟩
    rw [left_loop hul.2.1 (W:=W) (fun t l ht hl=>by
      unfold linealref08_Left_b2
      dsimp only
      rw [if_pos (decide_eq_true (by omega)),rHasLine_eq R.inv ht,Option.bind_some]
      cases hasL u W t with
      | true=>rw [if_pos rfl,if_pos rfl,ck_pos (by omega),ck_pos (by rw [inK_i64]; omega)]
      | false=>rw [if_neg (by simp),if_neg (by simp),ck_pos (by rw [inK_i64]; omega),List.append_nil]) (fun l=>by unfold linealref08_Left_b2; rw [if_neg (by simp)]),Option.bind_some,leftA_eq R]
    rfl
theorem out_fit {c:Cd} (hf:fitCd c) {u:Us} {sc:List Int} {st:St} (h:outA c u sc=.inr st):st.hist.length≤6∧∀ k,k<st.hist.length→fit6 (st.hist.getD k (0,0,0,0,0,0)):=by
  rcases run_both hf u sc with ⟨e,he,o,a,b⟩|⟨hc,hu,st',D,W,K,bg,mk,o,R,a,b⟩
  · rw [h] at o; cases o
  · rw [h] at o; injection o with o; subst o
    exact ⟨inv_len hu R.inv,R.inv.ft⟩
theorem leftA_len (u:Us) (hu:u.length≤2) (st:St):(leftA u st).length≤2:=by
  unfold leftA
  have:∀ n,((List.range n).flatMap fun t=>if hasA u st t=true then [(t:Int)] else []).length≤n:=fun n=>by
    induction n with
    | zero=>simp
    | succ n ih =>
      rw [List.range_succ,List.flatMap_append,List.length_append]
      simp only [List.flatMap_cons,List.flatMap_nil,List.append_nil]
      generalize ((List.range n).flatMap fun t=>if hasA u st t=true then [(t:Int)] else []).length=q at ih ⊢
      split
      · rw [List.length_singleton]; omega
      · rw [List.length_nil]; omega
  exact Nat.le_trans (this _) hu
theorem Same_eq {l:ZH} (hl:l.length≤6) (hf:∀ k,k<l.length→fit6 (l.getD k (0,0,0,0,0,0))):linealref02_Same l l=some true:=by
  unfold linealref02_Same
  rw [if_neg (by simp),whileO_all l (fun _=>true) (body:=linealref02_Same_b1 l l) (fun k a hk=>by
    obtain ⟨hlt,hik⟩:=few_in (few_of (n:=6) hl) hk
    have h:=hf k hlt
    rw [getD_of hk] at h
    obtain ⟨f1,f2,f3,f4,f5,f6⟩:=h
    have i1:InK .i64 a.1:=by rw [inK_i64]; omega
    have i2:InK .i64 a.2.1:=by rw [inK_i64]; omega
    have i3:InK .i64 a.2.2.1:=by rw [inK_i64]; omega
    have i4:InK .i64 a.2.2.2.1:=by rw [inK_i64]; omega
    have i5:InK .i64 a.2.2.2.2.1:=by rw [inK_i64]; omega
    have i6:InK .i64 a.2.2.2.2.2:=by rw [inK_i64]; omega
    unfold linealref02_Same_b1
    rw [Int.toNat_natCast,getD_of hk,if_pos (decide_eq_true (by omega)),ck_pos (by omega),ck_pos (by omega),ck_pos (by omega),ck_pos (by omega),ck_pos i1,ck_pos i2,ck_pos i3,ck_pos i4,ck_pos i5,ck_pos i6,ck_pos i1,ck_pos i2,ck_pos i3,ck_pos i4,ck_pos i5,ck_pos i6,if_neg (by simp),ck_pos hik,if_pos rfl]) (by
    unfold linealref02_Same_b1
    rw [if_neg (by simp)]),Option.bind_some]
  simp [linealref02_Same_k1]
end Go.Proofs.Ytenchhmcjmjlbaa
