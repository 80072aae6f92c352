import Derived.Test.YtkocijiclklbfaaK6
import Derived.Test.YtkocijiclklbfaaKtw
import Derived.Test.YtkocijiclklbfaaRdr
namespace Go.Proofs.Ytkocijiclklbfaa
open Go.RowKit
set_option linter.unusedVariables false
set_option linter.unusedSimpArgs false
theorem exL {α R:Type} (xs:List α) {body:Int→Option (Step Int R)} (h:∀ (k:Nat) (x:α),xs[k]?=some x→body k=some (.next ((k:Int)+1))∨∃ r,body k=some (.done r)) (hd:∃ r,body xs.length=some (.done r)):∃ r,whileO body 0=some r:=by
  obtain ⟨r,e,_⟩:=scan1 (R:=R) xs (fun _=>True) (fun _=>True) (body:=body) trivial (fun k x hk _=>by
    rcases h k x hk with h|⟨r,h⟩
    · exact .inl ⟨h,trivial⟩
    · exact .inr ⟨r,h,trivial⟩) (fun _=>by obtain ⟨r,h⟩:=hd; exact ⟨r,h,trivial⟩)
  exact ⟨r,e⟩
abbrev Sp:Type:=Int×Int×(List (List Int))×(List (List Int))
theorem large2 (z:Sp):∃ b,lineallaw02_Large [z]=some b:=by
  have key:∃ r,whileO (lineallaw02_Large_b1 [z]) 0=some r:=by
    refine exL [z] (fun k x hk=>?_) ⟨_,by unfold lineallaw02_Large_b1; rw [if_neg (by simp)]⟩
    have hk0:k=0:=by
      have:=(List.getElem?_eq_some_iff.1 hk).1
      simp at this; exact this
    subst hk0
    have hz:x=z:=by simpa using hk.symm
    subst hz
    unfold lineallaw02_Large_b1
    rw [if_pos (by simp),ck_pos (by simp),ck_pos (by simp)]
    simp only [Int.toNat_natCast,List.getD_cons_zero]
    by_cases h1:20<(x.2.2.1.length:Int)
    · rw [if_pos (decide_eq_true h1)]; exact .inr ⟨_,rfl⟩
    · rw [if_neg (by rw [decide_eq_true_eq]; exact h1)]
      by_cases h2:20<(x.2.2.2.length:Int)
      · rw [if_pos (decide_eq_true h2)]; exact .inr ⟨_,rfl⟩
      · rw [if_neg (by rw [decide_eq_true_eq]; exact h2)]
        have hx0:([x].getD ((0:Nat):Int).toNat (0,0,[],[]))=x:=rfl
        obtain ⟨r2,e2⟩:=exL x.2.2.1 (body:=lineallaw02_Large_b2 [x] ((0:Nat):Int)) (fun j y hj=>by
          obtain ⟨hlt,hik⟩:=few_in (few_of (n:=20) (by omega)) hj
          unfold lineallaw02_Large_b2
          rw [hx0,if_pos (decide_eq_true (by omega)),ck_pos (by omega),ck_pos (by omega)]
          split
          · exact .inr ⟨_,rfl⟩
          · rw [ck_pos hik]; exact .inl rfl) ⟨_,by unfold lineallaw02_Large_b2; rw [hx0,if_neg (by simp)]⟩
        rw [e2,Option.bind_some]
        cases r2 with
        | inl _=>exact .inr ⟨_,rfl⟩
        | inr _ =>
          obtain ⟨r3,e3⟩:=exL x.2.2.2 (body:=lineallaw02_Large_b3 [x] ((0:Nat):Int)) (fun j y hj=>by
            obtain ⟨hlt,hik⟩:=few_in (few_of (n:=20) (by omega)) hj
            unfold lineallaw02_Large_b3
            rw [hx0,if_pos (decide_eq_true (by omega)),ck_pos (by omega),ck_pos (by omega)]
            split
            · exact .inr ⟨_,rfl⟩
            · rw [ck_pos hik]; exact .inl rfl) ⟨_,by unfold lineallaw02_Large_b3; rw [hx0,if_neg (by simp)]⟩
          simp only
          unfold lineallaw02_Large_k3
          rw [e3,Option.bind_some]
          cases r3 with
          | inl _=>exact .inr ⟨_,rfl⟩
          | inr _ =>
            simp only
            unfold lineallaw02_Large_k2
            rw [ck_pos (by rw [inK_i64]; omega)]
            exact .inl rfl
  obtain ⟨r,e⟩:=key
  unfold lineallaw02_Large
  rw [e,Option.bind_some]
  cases r with
  | inl _=>exact ⟨_,rfl⟩
  | inr _=>exact ⟨_,rfl⟩
theorem large_ex (x:Sp×Cd×Us) (hc:few x.2.1) (hu:few x.2.2):∃ b,lineallaw08_Large x=some b:=by
  obtain ⟨r,e⟩:=exL x.2.1 (body:=lineallaw08_Large_b1 x) (fun j y hj=>by
    obtain ⟨hlt,hik⟩:=few_in hc hj
    unfold lineallaw08_Large_b1
    rw [if_pos (decide_eq_true (by omega)),ck_pos (by omega),ck_pos (by omega)]
    split
    · exact .inr ⟨_,rfl⟩
    · rw [ck_pos hik]; exact .inl rfl) ⟨_,by unfold lineallaw08_Large_b1; rw [if_neg (by simp)]⟩
  unfold lineallaw08_Large
  rw [e,Option.bind_some]
  cases r with
  | inl _=>exact ⟨_,rfl⟩
  | inr _ =>
    simp only
    unfold lineallaw08_Large_k1
    obtain ⟨r2,e2⟩:=exL x.2.2 (body:=lineallaw08_Large_b2 x) (fun j y hj=>by
      obtain ⟨hlt,hik⟩:=few_in hu hj
      unfold lineallaw08_Large_b2
      rw [if_pos (decide_eq_true (by omega)),ck_pos (by omega),ck_pos (by omega)]
      split
      · exact .inr ⟨_,rfl⟩
      · rw [ck_pos hik]; exact .inl rfl) ⟨_,by unfold lineallaw08_Large_b2; rw [if_neg (by simp)]⟩
    rw [e2,Option.bind_some]
    cases r2 with
    | inl _=>exact ⟨_,rfl⟩
    | inr _ =>
      simp only
      unfold lineallaw08_Large_k2
      obtain ⟨b,e3⟩:=large2 x.1
      rw [e3,Option.bind_some]
      split
      · exact ⟨_,rfl⟩
      · split
        · exact ⟨_,rfl⟩
        · exact ⟨_,rfl⟩
/-! ### What both sides play -/
theorem run_both {c:Cd} (hf:fitCd c) (u:Us) (sc:List Int) :
    (∃ e:Int,e≠0∧code_played c u sc=some ([],[],[],(Ty.dflt T55),0,0,0,(Ty.dflt T60),(Ty.dflt T61),0,e)∧linealref08_run c u sc=some (.inl e)) ∨
    (vldU c u=true∧∃ D W K bg v hs n hist mk,Inv c u W K bg v hs hist mk∧code_played c u sc=some (c,u,sc,D,v.1,v.2.1,v.2.2,W,K,bg,0)∧linealref08_run c u sc=some (.inr (hs,n,v.1,v.2.1,v.2.2,hist,mk))):=by
  unfold code_played linealref08_run
  rw [checkUse_eq hf,asked_eq,Option.bind_some,Option.bind_some]
  by_cases h0:errU c u=0
  · rw [if_neg (by simp [h0]),if_neg (by simp [h0])]
    have hv:vldC c=true∧vldU c u=true:=by
      unfold errU at h0
      cases hc:vldC c with
      | false=>rw [hc] at h0; simp at h0
      | true =>
        cases hu:vldU c u with
        | false=>rw [hc,hu] at h0; simp at h0
        | true=>exact ⟨rfl,rfl⟩
    have hul:=vldU_len hv.2
    unfold code_program_play linealref08_played
    by_cases h12:sc.length≤12
    · rw [if_neg (by rw [decide_eq_true_eq]; omega),if_neg (by rw [decide_eq_true_eq]; omega)]
      unfold linealref08_Begin
      rw [ck_pos (by omega)]
      simp only [Option.bind_some]
      have B:=play_both hv.1 hv.2 sc h12 sc.length 0 (by omega) (by omega) (Ty.dflt T55) _ _ 0 (0,0,0) _ [] [] (dflt_inv hv.2)
      rw [List.take_zero] at B
      rcases B with ⟨a,b⟩|⟨D,W,K,bg,v,hs,hist,mk,I,a,b⟩
      · left
        have a':whileO (code_program_play_b1 (c,u) sc) ([],Ty.dflt T55,0,0,0,Ty.dflt T60,Ty.dflt T61,0,0)=some (.inl ()):=a
        have b':whileO (linealref08_played_b1 c u sc []) (List.replicate u.length (0,0,false,0,0,0,0,0),0,0,0,0,[],[],0)=some (.inl ()):=b
        rw [a',b']
        exact ⟨2,by decide,rfl,rfl⟩
      · right
        have a':whileO (code_program_play_b1 (c,u) sc) ([],Ty.dflt T55,0,0,0,Ty.dflt T60,Ty.dflt T61,0,0)=some (.inr (sc,D,v.1,v.2.1,v.2.2,W,K,bg)):=a
        have b':whileO (linealref08_played_b1 c u sc []) (List.replicate u.length (0,0,false,0,0,0,0,0),0,0,0,0,[],[],0)=some (.inr (hs,(sc.length:Int),v.1,v.2.1,v.2.2,hist,mk)):=b
        rw [a',b']
        exact ⟨hv.2,D,W,K,bg,v,hs,_,hist,mk,I,rfl,rfl⟩
    · left
      rw [if_pos (decide_eq_true (by omega)),if_pos (decide_eq_true (by omega))]
      exact ⟨2,by decide,rfl,rfl⟩
  · left
    rw [if_pos (by simp [h0]),if_pos (by simp [h0])]
    exact ⟨errU c u,h0,rfl,rfl⟩
def leftL (u:Us) (W:El T60) (n:Nat):List Int:=(List.range n).flatMap fun t=>if hasL u W t=true then [(t:Int)] else []
theorem leftL_succ (u:Us) (W:El T60) (n:Nat):leftL u W (n+1)=leftL u W n++(if hasL u W n=true then [(n:Int)] else []):=by
  unfold leftL
  rw [List.range_succ,List.flatMap_append]
  simp
theorem leftL_len (u:Us) (W:El T60) (n:Nat):(leftL u W n).length≤n:=by
  induction n with
  | zero=>simp [leftL]
  | succ n ih=>rw [leftL_succ,List.length_append]; split<;>simp<;>omega
theorem left_loop {u:Us} (hu:u.length≤2) {W:El T60} {body:List Int×Int→Option (Step (List Int×Int) (List Int))}
    (h:∀ (t:Nat) (l:List Int),t<u.length→l.length≤2→body (l,(t:Int))=some (.next (l++(if hasL u W t=true then [(t:Int)] else []),(t:Int)+1))) (hd:∀ l,body (l,(u.length:Int))=some (.done l)):whileO body ([],0)=some (leftL u W u.length):=by
  obtain ⟨r,e,hr⟩:=scan2 (S:=List Int) (R:=List Int) u (fun k l=>l=leftL u W k) (fun l=>l=leftL u W u.length) (body:=body) (s0:=[]) rfl
    (fun k x l hk hI=>by
      have hlt:=(List.getElem?_eq_some_iff.1 hk).1
      subst hI
      have:=leftL_len u W k
      exact .inl ⟨_,h k _ hlt (by omega),(leftL_succ u W k).symm⟩)
    (fun l hI=>⟨l,hd l,hI⟩)
  rw [e,hr]
theorem outcomes {c:Cd} (hf:fitCd c) (u:Us) (sc:List Int) :
    (∃ e:Int,code_Run c u sc=some ([],e)∧linealref08_Run c u sc=some ([],e)∧code_Cells c u sc=some ([],e)∧linealref08_Cells c u sc=some ([],e)∧code_Left c u sc=some ([],e)∧linealref08_Left c u sc=some ([],e)) ∨
    ∃ (hist:ZH) (cs ls:List Int),(hist.length≤6∧cs.length≤3∧ls.length≤2∧∀ k,k<hist.length→fit6 (hist.getD k (0,0,0,0,0,0)))∧code_Run c u sc=some (hist,0)∧linealref08_Run c u sc=some (hist,0)∧code_Cells c u sc=some (cs,0)∧linealref08_Cells c u sc=some (cs,0)∧code_Left c u sc=some (ls,0)∧linealref08_Left c u sc=some (ls,0):=by
  unfold code_Run linealref08_Run code_Cells linealref08_Cells code_Left linealref08_Left
  rcases run_both hf u sc with ⟨e,he,a,b⟩|⟨hu,D,W,K,bg,v,hs,n,hist,mk,I,a,b⟩
  · left
    rw [a,b]
    simp only [Option.bind_some]
    refine ⟨e,?_,?_,?_,?_,?_,?_⟩<;>rw [if_pos (by simp [he])]
  · right
    have hul:=vldU_len hu
    have h6:=inv_len hu I
    have hbg:=I.bg
    rw [a,b]
    simp only [Option.bind_some]
    refine ⟨hist,[v.1,v.2.1,v.2.2],leftL u W u.length,⟨h6,by simp,Nat.le_trans (leftL_len u W _) hul.2.1,I.ft⟩,?_,rfl,?_,?_,?_,?_⟩
    · rw [if_neg (by simp)]
      unfold code_run_history slices_Clone
      dsimp only
      rw [ck_pos (by omega),ck_pos (by omega),hist_take hu I,ck_pos (by omega)]
      rfl
    · rw [if_neg (by simp)]; rfl
    · have w:whileO (linealref08_Cells_b2 (hs,n,v.1,v.2.1,v.2.2,hist,mk)) ([],0)=some [v.1,v.2.1,v.2.2]:=by
        have i1:InK .i64 (0+1):=by rw [inK_i64]; omega
        have i2:InK .i64 (1+1):=by rw [inK_i64]; omega
        have i3:InK .i64 (2+1):=by rw [inK_i64]; omega
        refine whileO_on (s':=([v.1],1)) ?_ (whileO_on (s':=([v.1,v.2.1],2)) ?_ (whileO_on (s':=([v.1,v.2.1,v.2.2],3)) ?_ (whileO_end ?_)))
        · unfold linealref08_Cells_b2
          dsimp only
          rw [if_pos (by simp),ck_pos (by simp),ck_pos (by simp),if_pos (by simp),ck_pos (by simp),ck_pos i1]; rfl
        · unfold linealref08_Cells_b2
          dsimp only
          rw [if_pos (by simp),ck_pos (by simp),ck_pos (by simp),if_neg (by simp),if_pos (by simp),ck_pos (by simp),ck_pos i2]; rfl
        · unfold linealref08_Cells_b2
          dsimp only
          rw [if_pos (by simp),ck_pos (by simp),ck_pos (by simp),if_neg (by simp),if_neg (by simp),ck_pos (by simp),ck_pos i3]; rfl
        · unfold linealref08_Cells_b2
          dsimp only
          rw [if_neg (by simp)]
      rw [w]; rfl
    · rw [if_neg (by simp)]
      unfold code_run_left
      rw [left_loop hul.2.1 (W:=W) (fun t l ht hl=>by
        unfold code_run_left_b1
        dsimp only
        have:=hasLine_eq (p:=c) hul.2.1 sc D v W K bg ht
        rw [if_pos (decide_eq_true (by omega)),show (((c,u),sc,D,(v.1,v.2.1,v.2.2),W,K,bg):Rn)=((c,u),sc,D,v,W,K,bg) from rfl,this,Option.bind_some]
        cases hasL u W t with
        | true=>rw [if_pos rfl,if_pos rfl,ck_pos (by omega),ck_pos (by rw [inK_i64]; omega)]
        | false=>rw [if_neg (by simp),if_neg (by simp),ck_pos (by rw [inK_i64]; omega),List.append_nil]) (fun l=>by unfold code_run_left_b1; rw [if_neg (by simp)]),Option.bind_some]
      rfl
    · rw [left_loop hul.2.1 (W:=W) (fun t l ht hl=>by
        unfold linealref08_Left_b2
        dsimp only
        rw [if_pos (decide_eq_true (by omega)),rHasLine_eq I ht,Option.bind_some]
        cases hasL u W t with
        | true=>rw [if_pos rfl,if_pos rfl,ck_pos (by omega),ck_pos (by rw [inK_i64]; omega)]
        | false=>rw [if_neg (by simp),if_neg (by simp),ck_pos (by rw [inK_i64]; omega),List.append_nil]) (fun l=>by unfold linealref08_Left_b2; rw [if_neg (by simp)]),Option.bind_some]
      rfl
theorem Same_eq {l:ZH} (hl:l.length≤6) (hf:∀ k,k<l.length→fit6 (l.getD k (0,0,0,0,0,0))):linealref02_Same l l=some true:=by
  unfold linealref02_Same
  rw [if_neg (by simp),whileO_all l (fun _=>true) (body:=linealref02_Same_b1 l l) (fun k a hk=>by
    obtain ⟨hlt,hik⟩:=few_in (few_of (n:=6) hl) hk
    have h:=hf k hlt
    rw [getD_of hk] at h
    obtain ⟨f1,f2,f3,f4,f5,f6⟩:=h
    have i1:InK .i64 a.1:=by rw [inK_i64]; omega
    have i2:InK .i64 a.2.1:=by rw [inK_i64]; omega
    have i3:InK .i64 a.2.2.1:=by rw [inK_i64]; omega
    have i4:InK .i64 a.2.2.2.1:=by rw [inK_i64]; omega
    have i5:InK .i64 a.2.2.2.2.1:=by rw [inK_i64]; omega
    have i6:InK .i64 a.2.2.2.2.2:=by rw [inK_i64]; omega
    unfold linealref02_Same_b1
    rw [Int.toNat_natCast,getD_of hk,if_pos (decide_eq_true (by omega)),ck_pos (by omega),ck_pos (by omega),ck_pos (by omega),ck_pos (by omega),ck_pos i1,ck_pos i2,ck_pos i3,ck_pos i4,ck_pos i5,ck_pos i6,ck_pos i1,ck_pos i2,ck_pos i3,ck_pos i4,ck_pos i5,ck_pos i6,if_neg (by simp),ck_pos hik,if_pos rfl]) (by
    unfold linealref02_Same_b1
    rw [if_neg (by simp)]),Option.bind_some]
  simp [linealref02_Same_k1]
theorem SameInts_eq {l:List Int} (hl:l.length≤6):linealref08_SameInts l l=some true:=by
  unfold linealref08_SameInts
  rw [if_neg (by simp),whileO_all l (fun _=>true) (body:=linealref08_SameInts_b1 l l) (fun k a hk=>by
    obtain ⟨hlt,hik⟩:=few_in (few_of (n:=6) hl) hk
    unfold linealref08_SameInts_b1
    rw [Int.toNat_natCast,getD_of hk,if_pos (decide_eq_true (by omega)),ck_pos (by omega),ck_pos (by omega),ck_pos (by omega),ck_pos (by omega),if_neg (by simp),ck_pos hik,if_pos rfl]) (by
    unfold linealref08_SameInts_b1
    rw [if_neg (by simp)]),Option.bind_some]
  simp [linealref08_SameInts_k1]
theorem CodeRuns_eq (x:Sp×Cd×Us) (hx:okEl (.pair (.pair (.int .i64) (.pair (.int .i64) (.pair (.sl (.sl (.int .i64))) (.sl (.sl (.int .i64)))))) (.pair (.sl (.sl (.pair (.int .i64) (.pair (.int .i64) (.pair (.int .i64) (.int .i64)))))) (.sl (.sl (.int .i64))))) x) (sc:List Int):lineallaw08_CodeRuns x sc=some true:=by
  obtain ⟨_,hc,hu⟩:=hx
  have e8:Ty.bytes (.sl (.pair (.int .i64) (.pair (.int .i64) (.pair (.int .i64) (.int .i64)))))=24:=rfl
  have e9:Ty.bytes (.sl (.int .i64))=24:=rfl
  have fc:few x.2.1:=by have:=hc.1; rw [e8] at this; unfold few; omega
  have fu:few x.2.2:=by have:=hu.1; rw [e9] at this; unfold few; omega
  have hf:fitCd x.2.1:=fun ls hls l hl=>by
    have:=(hc.2.2 ls hls).2.2 l hl
    exact ⟨this.1,this.2.1,this.2.2.1,this.2.2.2⟩
  unfold lineallaw08_CodeRuns
  obtain ⟨b,eb⟩:=large_ex x fc fu
  rw [eb,Option.bind_some,lineallaw08_Sane_run]
  cases b with
  | true=>rw [if_pos rfl]; rfl
  | false =>
    rw [if_neg (by simp)]
    by_cases h60:60<(sc.length:Int)
    · rw [if_pos (decide_eq_true h60)]; rfl
    · rw [if_neg (by rw [decide_eq_true_eq]; exact h60),ValidUse_eq hf,Valid_eq hf,rValid_eq]
      obtain ⟨w,ew⟩:=ValidUse_some (c:=x.2.1) x.2.2
      rw [ew]
      rcases outcomes hf x.2.2 sc with ⟨e,o1,o2,o3,o4,o5,o6⟩|⟨hist,cs,ls,⟨b1,b2,b3,b4⟩,o1,o2,o3,o4,o5,o6⟩
      · rw [o1,o2,o3,o4,o5,o6]
        simp only [Option.bind_some]
        rw [if_neg (by simp),if_neg (by simp),if_neg (by simp),Same_eq (by simp) (by simp),Option.bind_some,if_neg (by simp),if_neg (by simp),SameInts_eq (by simp),Option.bind_some,if_pos rfl,if_pos (by simp),if_pos (by simp)]
        rfl
      · rw [o1,o2,o3,o4,o5,o6]
        simp only [Option.bind_some]
        rw [if_neg (by simp),if_neg (by simp),if_neg (by simp),Same_eq b1 b4,Option.bind_some,if_neg (by simp),if_neg (by simp),SameInts_eq (by omega),Option.bind_some,if_pos rfl,if_pos (by simp),SameInts_eq (by omega),Option.bind_some,if_pos rfl,if_pos (by simp)]
end Go.Proofs.Ytkocijiclklbfaa
