import Derived.Test.YtcckpmeepcoafaaDoorHy11
namespace Go.Proofs.YtcckpmeepcoafaaDoor
open Go.RowKit
set_option linter.unusedVariables false
set_option linter.unusedSimpArgs false
set_option linter.constructorNameAsVariable false
set_option maxRecDepth 10000
theorem okD_all {k:IntKind}:∀ {t:Ty} (x:El t),allInt k t=true→(∀ q,q<t.size→InK k (intAt t x q))→okD t x
  | .int q,x,hk,h=>by
    have e:q=k:=by simpa [allInt] using hk
    subst e
    exact h 0 (by simp [Ty.size])
  | .bool,x,hk,h=>trivial
  | .unit,x,hk,h=>trivial
  | .pair a b,x,hk,h=>by
    simp only [allInt,Bool.and_eq_true] at hk
    refine ⟨okD_all x.1 hk.1 fun q hq=>?_,okD_all x.2 hk.2 fun q hq=>?_⟩
    · have:=h q (by simp only [Ty.size]; omega)
      simpa only [intAt,hq,if_true] using this
    · have:=h (q+a.size) (by simp only [Ty.size]; omega)
      simpa only [intAt,show ¬ q+a.size<a.size by omega,if_false,Nat.add_sub_cancel] using this
  | .sl _,x,hk,h=>by cases hk
section
variable {n m:Nat} {N:El T63} {S:El T65} {L:El T69} {X:El T66} {Y:List (Int×Int)} {Z:List (List Int)} {A:Mo}
theorem okN (hI:Iv n m A) (hR:Rp N S L A):okD T63 N:=okD_all (k:=.i64) N rfl fun q hq=>by
  have hq':q<8:=by rw [T63_size] at hq; exact hq
  rw [hR.nd q hq',inK_i64]
  have:=hI.nd q hq'
  omega
theorem okS (hI:Iv n m A) (hR:Rp N S L A):okD T65 S:=okD_all (k:=.i64) S rfl fun q hq=>by
  have hq':q<8:=by rw [T65_size] at hq; exact hq
  rw [hR.sl q hq',inK_i64]
  rcases hI.sl q hq' with h|⟨i,hi,h,_⟩<;>omega
theorem okL (hR:Rp N S L A):okD T69 L:=okD_all (k:=.i64) L rfl fun q hq=>by
  have hq':q<36:=by rw [T69_size] at hq; exact hq
  rw [inK_i64]
  have:=hR.ok q hq'
  omega
theorem same_eq (hI:Iv n m A) (hR:Rp N S L A):hazard_Same ((n:Int),(m:Int),N,S,L) ((n:Int),(m:Int),N,S,L)=some true:=by
  have hN:=okN hI hR
  have hS:=okS hI hR
  have hL:=okL hR
  have hz:=nz hI.n1
  unfold hazard_Same hazard_Yard_isNone
  dsimp only
  rw [Option.bind_some,hz,if_neg Bool.false_ne_true,Option.bind_some,if_neg Bool.false_ne_true,if_pos (by simp),if_pos (by simp),ck_pos hN,ck_pos hN,if_pos (by simp),ck_pos hS,ck_pos hS,if_pos (by simp),ck_pos hL,ck_pos hL]
  simp
theorem copy_eq (hn:1≤n) (M:Int):hazard_Yard_Copy ((n:Int),M,N,S,L)=some (Sum.inr ()):=by
  unfold hazard_Yard_Copy hazard_Yard_isNone
  dsimp only
  rw [Option.bind_some,nz hn,if_neg Bool.false_ne_true]
theorem called_eq (hn:1≤n) {d:Int×Int×Int×Int} (h:okd d=true):lineallaw06_called_2 d ((n:Int),(m:Int),N,S,L)=hazard_Yard_Do d ((n:Int),(m:Int),N,S,L):=by
  have hd:d.1=1∨d.1=2∨d.1=3∨d.1=4∨d.1=5∨d.1=6:=by
    unfold okd at h
    simp at h
    omega
  unfold hazard_Yard_Do hazard_isDeed
  rw [fails1 hn]
  unfold lineallaw06_called_2
  rcases hd with e|e|e|e|e|e<;>simp [h,e]
theorem ok_of {d:Int×Int×Int×Int} (h:(doA n m A d).2.1=0):okd d=true:=by
  cases hk:okd d with
  | true=>rfl
  | false =>
    have e:doA n m A d=(0,2,A):=if_neg (by simp [hk])
    rw [e] at h
    cases h
/-! ### What an error leaves as it was -/
theorem Take_err {t a b r e:Int} {N':El T63} (h:hazard_Yard_Take t (a,b,N,S,L)=some (r,e,N')) (he:e≠0):N'=N:=by
  unfold hazard_Yard_Take at h
  obtain ⟨_,_,h⟩:=Option.bind_eq_some_iff.1 h
  obtain ⟨v,_,h⟩:=Option.bind_eq_some_iff.1 h
  dsimp only at h
  split at h
  · injection h with h; injection h with _ h; injection h with _ h; exact h.symm
  · obtain ⟨v,_,h⟩:=Option.bind_eq_some_iff.1 h
    split at h
    · injection h with h; injection h with _ h; injection h with _ h; exact h.symm
    · obtain ⟨_,h⟩:=ck_some.1 h
      obtain ⟨_,h⟩:=ck_some.1 h
      injection h with h; injection h with _ h; injection h with h _
      exact absurd h.symm he
theorem Point_err {t s k a b e:Int} {S':El T65} (h:hazard_Yard_Point t s k (a,b,N,S,L)=some (e,S')) (he:e≠0):S'=S:=by
  unfold hazard_Yard_Point at h
  obtain ⟨_,_,h⟩:=Option.bind_eq_some_iff.1 h
  obtain ⟨_,_,h⟩:=Option.bind_eq_some_iff.1 h
  obtain ⟨_,_,h⟩:=Option.bind_eq_some_iff.1 h
  obtain ⟨_,_,h⟩:=Option.bind_eq_some_iff.1 h
  obtain ⟨v,_,h⟩:=Option.bind_eq_some_iff.1 h
  dsimp only at h
  split at h
  · injection h with h; injection h with _ h; exact h.symm
  · obtain ⟨_,h⟩:=ck_some.1 h
    obtain ⟨_,h⟩:=ck_some.1 h
    obtain ⟨_,h⟩:=ck_some.1 h
    obtain ⟨_,h⟩:=ck_some.1 h
    injection h with h; injection h with h _
    exact absurd h.symm he
theorem Clear_err {t s a b e:Int} {S':El T65} (h:hazard_Yard_Clear t s (a,b,N,S,L)=some (e,S')) (he:e≠0):S'=S:=by
  unfold hazard_Yard_Clear at h
  obtain ⟨_,_,h⟩:=Option.bind_eq_some_iff.1 h
  obtain ⟨_,_,h⟩:=Option.bind_eq_some_iff.1 h
  obtain ⟨v,_,h⟩:=Option.bind_eq_some_iff.1 h
  dsimp only at h
  split at h
  · injection h with h; injection h with _ h; exact h.symm
  · obtain ⟨_,h⟩:=ck_some.1 h
    obtain ⟨_,h⟩:=ck_some.1 h
    obtain ⟨_,h⟩:=ck_some.1 h
    obtain ⟨_,h⟩:=ck_some.1 h
    injection h with h; injection h with h _
    exact absurd h.symm he
theorem PutBy_err {t k a b r e:Int} {N':El T63} {L':El T69} (h:hazard_Yard_PutBy t k (a,b,N,S,L)=some (r,e,N',L')) (he:e≠0):N'=N∧L'=L:=by
  unfold hazard_Yard_PutBy at h
  obtain ⟨_,_,h⟩:=Option.bind_eq_some_iff.1 h
  obtain ⟨_,_,h⟩:=Option.bind_eq_some_iff.1 h
  obtain ⟨_,_,h⟩:=Option.bind_eq_some_iff.1 h
  obtain ⟨v,_,h⟩:=Option.bind_eq_some_iff.1 h
  dsimp only at h
  split at h
  · injection h with h; injection h with _ h; injection h with _ h; injection h with h1 h2; exact ⟨h1.symm,h2.symm⟩
  · obtain ⟨_,h⟩:=ck_some.1 h
    obtain ⟨_,h⟩:=ck_some.1 h
    obtain ⟨_,h⟩:=ck_some.1 h
    obtain ⟨_,h⟩:=ck_some.1 h
    obtain ⟨v,_,h⟩:=Option.bind_eq_some_iff.1 h
    obtain ⟨_,h⟩:=ck_some.1 h
    obtain ⟨_,h⟩:=ck_some.1 h
    split at h
    · injection h with h; injection h with _ h; injection h with h _
      exact absurd h.symm he
    · obtain ⟨v,_,h⟩:=Option.bind_eq_some_iff.1 h
      injection h with h; injection h with _ h; injection h with h _
      exact absurd h.symm he
theorem Sweep_err {t a b r e:Int} {N':El T63} {L':El T69} (h:hazard_Yard_Sweep t (a,b,N,S,L)=some (r,e,N',L')) (he:e≠0):N'=N∧L'=L:=by
  unfold hazard_Yard_Sweep at h
  obtain ⟨_,_,h⟩:=Option.bind_eq_some_iff.1 h
  obtain ⟨v,_,h⟩:=Option.bind_eq_some_iff.1 h
  dsimp only at h
  split at h
  · injection h with h; injection h with _ h; injection h with _ h; injection h with h1 h2; exact ⟨h1.symm,h2.symm⟩
  · obtain ⟨v,_,h⟩:=Option.bind_eq_some_iff.1 h
    injection h with h; injection h with _ h; injection h with h _
    exact absurd h.symm he
theorem Do_err {d:Int×Int×Int×Int} {a b r e:Int} {q:El T63×El T65×El T69} (h:hazard_Yard_Do d (a,b,N,S,L)=some (r,e,q)) (he:e≠0):q=(N,S,L):=by
  obtain ⟨N',S',L'⟩:=q
  unfold hazard_Yard_Do at h
  obtain ⟨_,_,h⟩:=Option.bind_eq_some_iff.1 h
  obtain ⟨v,_,h⟩:=Option.bind_eq_some_iff.1 h
  dsimp only at h
  split at h
  · injection h with h; injection h with _ h; injection h with _ h; exact h.symm
  · split at h
    · obtain ⟨⟨v1,v2,v3⟩,hv,h⟩:=Option.bind_eq_some_iff.1 h
      dsimp only at h
      injection h with h; injection h with _ h; injection h with h1 h; injection h with h2 h; injection h with h3 h4
      subst h1 h2 h3 h4
      rw [Take_err hv he]
    · split at h
      · obtain ⟨⟨v1,v2⟩,hv,h⟩:=Option.bind_eq_some_iff.1 h
        dsimp only at h
        injection h with h; injection h with _ h; injection h with h1 h; injection h with h2 h; injection h with h3 h4
        subst h1 h2 h3 h4
        rw [Point_err hv he]
      · split at h
        · obtain ⟨⟨v1,v2⟩,hv,h⟩:=Option.bind_eq_some_iff.1 h
          dsimp only at h
          injection h with h; injection h with _ h; injection h with h1 h; injection h with h2 h; injection h with h3 h4
          subst h1 h2 h3 h4
          rw [Clear_err hv he]
        · split at h
          · obtain ⟨⟨v1,v2,v3,v4⟩,hv,h⟩:=Option.bind_eq_some_iff.1 h
            dsimp only at h
            injection h with h; injection h with _ h; injection h with h1 h; injection h with h2 h; injection h with h3 h4
            subst h1 h2 h3 h4
            obtain ⟨e1,e2⟩:=PutBy_err hv he
            rw [e1,e2]
          · split at h
            · obtain ⟨⟨v1,v2,v3,v4⟩,hv,h⟩:=Option.bind_eq_some_iff.1 h
              dsimp only at h
              injection h with h; injection h with _ h; injection h with h1 h; injection h with h2 h; injection h with h3 h4
              subst h1 h2 h3 h4
              obtain ⟨e1,e2⟩:=Sweep_err hv he
              rw [e1,e2]
            · obtain ⟨⟨v1,v2⟩,hv,h⟩:=Option.bind_eq_some_iff.1 h
              dsimp only at h
              injection h with h; injection h with _ h; injection h with _ h; exact h.symm
/-! ### Deeds -/
theorem deeds_loop (hI:Iv n m newM) {N0:El T63} {S0:El T65} {L0:El T69} (hR0:Rp N0 S0 L0 newM) {X0:El T66} {Y0:List (Int×Int)} {Z0:List (List Int)} (hr0:Rr n X0 Y0 Z0 newM) (ds:List (Int×Int×Int×Int)) (hl:ds.length≤100) :
    whileO (lineallaw06_HazardDeeds_b2 (n:Int) (m:Int) ds) (N0,S0,L0,N0,S0,L0,X0,Y0,Z0,0)=some (Sum.inr ()):=by
  have key:∃ r:Sum Unit Unit,whileO (lineallaw06_HazardDeeds_b2 (n:Int) (m:Int) ds) (N0,S0,L0,N0,S0,L0,X0,Y0,Z0,0)=some r∧r=Sum.inr ():=by
    refine whileO_inv (fun q:El T63×El T65×El T69×El T63×El T65×El T69×El T66×List (Int×Int)×List (List Int)×Int=>∃ k:Nat,q.2.2.2.2.2.2.2.2.2=(k:Int)∧k≤ds.length∧(q.2.2.2.1,q.2.2.2.2.1,q.2.2.2.2.2.1)=(q.1,q.2.1,q.2.2.1)∧Rp q.1 q.2.1 q.2.2.1 (behind n m newM (ds.take k))∧Rr n q.2.2.2.2.2.2.1 q.2.2.2.2.2.2.2.1 q.2.2.2.2.2.2.2.2.1 (behind n m newM (ds.take k))) (fun q=>ds.length - q.2.2.2.2.2.2.2.2.2.toNat) _ ?_ (N0,S0,L0,N0,S0,L0,X0,Y0,Z0,0) ⟨0,rfl,Nat.zero_le _,rfl,hR0,hr0⟩
    rintro ⟨N,S,L,N1,S1,L1,X,Y,Z,q⟩ ⟨k,hq,hk,hsame,hR,hr⟩
    simp only at hq hR hr hsame
    subst hq
    injection hsame with g1 hsame
    injection hsame with g2 g3
    subst g1 g2 g3
    by_cases hlt:k<ds.length
    · left
      have hx:=List.getElem?_eq_getElem hlt
      have hIk:=hI.behind_ (ds.take k)
      obtain ⟨N',S',L',e,hR'⟩:=Do_eq hIk hR ds[k]
      obtain ⟨X',Y',Z',e2,hr'⟩:=rDo_eq hIk hr ds[k]
      have hI':=hIk.do ds[k]
      have hg:ds.getD ((k:Nat):Int).toNat (0,0,0,0)=ds[k]:=getD_of hx
      by_cases h0:(doA n m (behind n m newM (ds.take k)) ds[k]).2.1=0
      · refine ⟨(N',S',L',N',S',L',X',Y',Z',(k:Int)+1),?_,⟨k+1,rfl,hlt,rfl,by rw [behind_succ hlt]; exact hR',by rw [behind_succ hlt]; exact hr'⟩,by simp; omega⟩
        have hc:=called_eq (N:=N1) (S:=S1) (L:=L1) (m:=m) hI.n1 (ok_of h0)
        unfold lineallaw06_HazardDeeds_b2
        dsimp only
        rw [if_pos (decide_eq_true (show ((k:Nat):Int)<(ds.length:Int) by omega)),ck_pos (show (0:Int)≤(k:Int) by omega),ck_pos (show ((k:Nat):Int)<(ds.length:Int) by omega),hg,e,Option.bind_some,e2,Option.bind_some]
        dsimp only
        rw [if_neg (by simp),if_neg (by simp),Is_eq hI' hR' hr',Option.bind_some,if_neg (by simp),if_pos (decide_eq_true h0),hc,e,Option.bind_some]
        dsimp only
        rw [if_neg (by simp),if_neg (by simp [h0]),same_eq hI' hR',Option.bind_some,if_neg (by simp),ck_pos (inK_small (by omega))]
      · have hsm:=Do_err e h0
        injection hsm with g1 hsm
        injection hsm with g2 g3
        refine ⟨(N',S',L',N1,S1,L1,X',Y',Z',(k:Int)+1),?_,⟨k+1,rfl,hlt,by simp only [g1,g2,g3],by rw [behind_succ hlt]; exact hR',by rw [behind_succ hlt]; exact hr'⟩,by simp; omega⟩
        unfold lineallaw06_HazardDeeds_b2
        dsimp only
        rw [if_pos (decide_eq_true (show ((k:Nat):Int)<(ds.length:Int) by omega)),ck_pos (show (0:Int)≤(k:Int) by omega),ck_pos (show ((k:Nat):Int)<(ds.length:Int) by omega),hg,e,Option.bind_some,e2,Option.bind_some]
        dsimp only
        rw [if_neg (by simp),if_neg (by simp),Is_eq hI' hR' hr',Option.bind_some,if_neg (by simp),if_neg (by simpa using h0),ck_pos (inK_small (by omega))]
    · right
      exact ⟨_,by unfold lineallaw06_HazardDeeds_b2; rw [if_neg (by simp; omega)],rfl⟩
  obtain ⟨r,h1,rfl⟩:=key
  exact h1
theorem HazardDeeds_eq (a b:Int) (ds:List (Int×Int×Int×Int)):lineallaw06_HazardDeeds a b ds=some true:=by
  unfold lineallaw06_HazardDeeds
  by_cases hab:(1≤a∧a≤4)∧1≤b∧b≤4
  · obtain ⟨n,rfl⟩:∃ n:Nat,a=(n:Int):=⟨a.toNat,by omega⟩
    obtain ⟨m,rfl⟩:∃ m:Nat,b=(m:Int):=⟨b.toNat,by omega⟩
    obtain ⟨S0,e0,hR0⟩:=New_eq hab.1 hab.2
    rw [e0,Option.bind_some]
    dsimp only
    have hone:lineallaw06_isOne_2 0 (n:Int) (m:Int) ((n:Int),(m:Int),Ty.dflt T63,S0,Ty.dflt T69)=some true:=by
      unfold lineallaw06_isOne_2
      rw [rIsNew_eq,decide_eq_true hab,Option.bind_some,if_neg (by simp)]
      rfl
    rw [hone,Option.bind_some,if_neg (by simp)]
    by_cases hl:100<(ds.length:Int)
    · rw [if_pos (decide_eq_true hl),lineallaw06_Sane_run]; rfl
    · have hI:Iv n m newM:=Iv.new (by omega) (by omega) (by omega) (by omega)
      have e1:=deeds_loop hI hR0 (Rr.new_ (n:=n) (X:=Ty.dflt T66) fun j hj=>z66 hj) ds (by omega)
      rw [if_neg (by simpa using hl),copy_eq (by omega),Option.bind_some]
      dsimp only
      rw [rNew_eq (by omega),Option.bind_some]
      dsimp only
      rw [e1,Option.bind_some]
      unfold lineallaw06_HazardDeeds_k2
      dsimp only
      rw [lineallaw06_Sane_run]; rfl
  · rw [New_no hab,Option.bind_some]
    dsimp only
    have hone:lineallaw06_isOne 2 a b=some true:=by
      unfold lineallaw06_isOne
      rw [rIsNew_eq,decide_eq_false hab,Option.bind_some,if_pos (by simp)]
      rfl
    rw [hone,Option.bind_some,if_neg (by simp),lineallaw06_Sane_run]; rfl
/-! ### Copies -/
noncomputable def arrs (n m:Nat) (q:El T63×El T65×El T69) (ds:List (Int×Int×Int×Int)):El T63×El T65×El T69 :=
  ds.foldl (fun q d=>match hazard_Yard_Do d ((n:Int),(m:Int),q) with|some v=>v.2.2|none=>q) q
end
end Go.Proofs.YtcckpmeepcoafaaDoor
