import Derived.Test.YtdicomoggfhbfaaD18
import Derived.Test.YtdicomoggfhbfaaD13
namespace Go.Proofs.Ytdicomoggfhbfaa
open Go.RowKit
set_option linter.unusedVariables false
set_option linter.unusedSimpArgs false
theorem bit_all:∀ s<512,∀ k<9,decide (iand .i64 (ishr .i64 ((s:Nat):Int) ((k:Nat):Int)) 1=1)=s.testBit k:=by decide +kernel
theorem shl_all:∀ n<10,ishl .i64 1 ((n:Nat):Int)=((2 ^ n:Nat):Int):=by decide +kernel
def bitL:List Fen→Nat→List Fen
  | [],_=>[]
  | a::r,s=>if s.testBit 0=true then a::bitL r (s / 2) else bitL r (s / 2)
theorem bitL_flat:∀ (L:List Fen) (s:Nat),(List.range L.length).flatMap (fun k=>if s.testBit k=true then [L.getD k (0,0)] else [])=bitL L s
  | [],s=>rfl
  | a::r,s=>by
    have ih:=bitL_flat r (s / 2)
    rw [List.length_cons,List.range_succ_eq_map,List.flatMap_cons,List.flatMap_map]
    have e:(List.range r.length).flatMap (fun k=>if s.testBit k.succ=true then [(a::r).getD k.succ (0,0)] else [])=(List.range r.length).flatMap (fun k=>if (s / 2).testBit k=true then [r.getD k (0,0)] else []):=by
      congr 1
      funext k
      rw [Nat.succ_eq_add_one,Nat.testBit_succ]; rfl
    rw [e,ih]
    show _=if s.testBit 0=true then a::bitL r (s / 2) else bitL r (s / 2)
    by_cases h:s.testBit 0=true
    · rw [if_pos h,if_pos h]; rfl
    · rw [if_neg h,if_neg h]; rfl
theorem bitL_sub:∀ (L:List Fen) (s:Nat),(bitL L s).Sublist L
  | [],s=>List.Sublist.refl _
  | a::r,s=>by
    unfold bitL
    split
    · exact (bitL_sub r _).cons_cons a
    · exact (bitL_sub r _).cons a
theorem bitL_all:∀ {L l:List Fen},l.Sublist L→∃ s,s<2 ^ L.length∧bitL L s=l
  | [],l,h=>⟨0,by simp,by rw [List.sublist_nil] at h; rw [h]; rfl⟩
  | a::r,l,h=>by
    rw [List.sublist_cons_iff] at h
    rcases h with h|⟨m,rfl,h⟩
    · obtain ⟨s,h1,h2⟩:=bitL_all h
      refine ⟨2*s,by rw [List.length_cons,Nat.pow_succ]; omega,?_⟩
      unfold bitL
      rw [if_neg (by rw [Nat.testBit_zero]; simp),Nat.mul_div_cancel_left _ (by omega)]; exact h2
    · obtain ⟨s,h1,h2⟩:=bitL_all h
      refine ⟨2*s+1,by rw [List.length_cons,Nat.pow_succ]; omega,?_⟩
      unfold bitL
      have:(2*s+1) / 2=s:=by omega
      rw [if_pos (by rw [Nat.testBit_zero,decide_eq_true_eq]; omega),this,h2]
theorem drop_cons {α:Type} {l:List α} {k:Nat} {a:α} (h:l[k]?=some a):l.drop k=a::l.drop (k+1):=by
  obtain ⟨h1,h2⟩:=List.getElem?_eq_some_iff.1 h
  rw [List.drop_eq_getElem_cons h1,h2]
theorem lexF_cc (a b:Fen) (l m:List Fen):lexF (a::l) (b::m)=if a=b then lexF l m else ltB a b:=rfl
theorem earlF_eq {l m:List Fen} (hl:few l) (hm:few m) (hfl:∀ f∈l,fitF f) (hfm:∀ f∈m,fitF f):linealref09_earlier l m=some (lexF l m):=by
  unfold linealref09_earlier
  obtain ⟨r,e,hr⟩:=scan1 (R:=Sum Bool Unit) l (fun k=>k≤m.length∧lexF l m=lexF (l.drop k) (m.drop k)) (fun r=>match r with|.inl b=>b=lexF l m|.inr _=>lexF l m=decide ((l.length:Int)<(m.length:Int))) (body:=linealref09_earlier_b1 l m) ⟨by omega,rfl⟩
    (fun k a hk hI=>by
      obtain ⟨hlt,hik⟩:=few_in hl hk
      obtain ⟨f1,f2⟩:=hfl a (List.mem_of_getElem? hk)
      unfold linealref09_earlier_b1
      rw [Int.toNat_natCast,getD_of hk,if_pos (decide_eq_true (by omega))]
      by_cases hkm:k<m.length
      · have hkm':=List.getElem?_eq_getElem hkm
        generalize m[k]=b at hkm'
        obtain ⟨g1,g2⟩:=hfm b (List.mem_of_getElem? hkm')
        rw [getD_of hkm',if_pos (decide_eq_true (by omega)),ck_pos (by omega),ck_pos (by omega),ck_pos (by omega),ck_pos (by omega),ck_pos f1,ck_pos f2,ck_pos g1,ck_pos g2]
        have hlex:=hI.2
        rw [drop_cons hk,drop_cons hkm',lexF_cc] at hlex
        by_cases hab:a=b
        · rw [if_neg (by simp [hab]),ck_pos hik]
          rw [if_pos hab] at hlex
          refine .inl ⟨rfl,by omega,?_⟩
          exact hlex
        · rw [if_neg hab] at hlex
          rw [if_pos (by simp [hab])]
          simp only [ck_pos (show (0:Int)≤(k:Int) by omega),ck_pos (show (k:Int)<(l.length:Int) by omega),ck_pos (show (k:Int)<(m.length:Int) by omega)]
          refine .inr ?_
          have hlex':lexF l m=ltB a b:=hlex
          unfold ltB at hlex'
          by_cases h1:a.1<b.1
          · rw [if_pos (decide_eq_true h1)]; exact ⟨_,rfl,by simp only; rw [hlex']; simp [h1]⟩
          · rw [if_neg (by rw [decide_eq_true_eq]; exact h1)]
            by_cases h2:a.1=b.1
            · rw [if_pos (decide_eq_true h2)]; exact ⟨_,rfl,by simp only; rw [hlex']; simp [h1,h2]⟩
            · rw [if_neg (by rw [decide_eq_true_eq]; exact h2)]; exact ⟨_,rfl,by simp only; rw [hlex']; simp [h1,h2]⟩
      · rw [if_neg (by rw [decide_eq_true_eq]; omega)]
        refine .inr ⟨_,rfl,?_⟩
        simp only
        have hd:m.drop k=[]:=List.drop_eq_nil_of_le (by omega)
        rw [hI.2,drop_cons hk,hd]
        show false=_
        rw [eq_comm,decide_eq_false_iff_not]; omega)
    (fun hI=>⟨.inr (),by unfold linealref09_earlier_b1; rw [if_neg (by simp)],by
      simp only
      rw [hI.2,List.drop_length]
      by_cases h:l.length=m.length
      · rw [h,List.drop_length]; simp [lexF]
      · have:l.length<m.length:=by omega
        rw [drop_cons (List.getElem?_eq_getElem this)]
        simp only [lexF]
        rw [eq_comm,decide_eq_true_eq]; omega⟩)
  rw [e,Option.bind_some]
  cases r with
  | inl b=>simp only at hr ⊢; rw [hr]
  | inr u=>simp only at hr ⊢; unfold linealref09_earlier_k1; rw [hr]
theorem refcheapest_eq {x:Acs} {cs:Cos} (hv:vld x=true) (hc:areC x cs=true):∃ m,linealref09_cheapest x cs=some m∧isBest x cs m:=by
  have h9:=fens_len hv
  have hL:fens x=fens x:=rfl
  unfold linealref09_cheapest
  rw [AllFences_eq hv,Option.bind_some,refneeded_eq hv,Option.bind_some]
  have hp2:2 ^ (fens x).length≤512:=pow9 h9
  have hfit:=fens_fit hv
  have inner:∀ (m:List Fen) (s:Nat),s<2 ^ (fens x).length→whileO (linealref09_cheapest_b2 (fens x) (m,(s:Int))) ([],0)=some (bitL (fens x) s):=by
    intro m s hs
    rw [← bitL_flat]
    refine appN _ 1 (fun k=>if s.testBit k=true then [(fens x).getD k (0,0)] else []) (fun k _=>by split<;>simp) [] (fun k l hk hl=>?_) (fun l=>?_)
    · simp only [List.length_nil] at hl
      unfold linealref09_cheapest_b2
      dsimp only
      rw [Int.toNat_natCast,if_pos (decide_eq_true (by omega)),ck_pos (by omega),ck_pos (by omega),ck_pos (by omega)]
      rw [bit_all s (by omega) k (by omega)]
      by_cases e:s.testBit k=true
      · rw [if_pos e,if_pos e,ck_pos (by omega),ck_pos (inK_nat20 (by omega))]
      · rw [if_neg e,if_neg e,ck_pos (inK_nat20 (by omega)),List.append_nil]
    · unfold linealref09_cheapest_b2
      rw [if_neg (by simp)]
  obtain ⟨r,e,hr⟩:=scan2 (S:=List Fen) (R:=List Fen) (List.range (2 ^ (fens x).length)) (fun k m=>(m.Sublist (fens x)∧enB m (need x)=true)∧∀ s,s<k→enB (bitL (fens x) s) (need x)=true→betr cs m (bitL (fens x) s)) (fun m=>isBest x cs m) (body:=linealref09_cheapest_b1 cs (fens x) (need x)) (s0:=fens x)
    ⟨⟨List.Sublist.refl _,fens_en x⟩,fun s hs=>by omega⟩
    (fun k y m hk hI=>by
      have hlt:=(List.getElem?_eq_some_iff.1 hk).1
      rw [List.length_range] at hlt
      have hsub:=bitL_sub (fens x) k
      have hsl:=hsub.length_le
      have hml:=hI.1.1.length_le
      unfold linealref09_cheapest_b1
      dsimp only
      rw [shl_all _ (by omega),if_pos (decide_eq_true (by omega)),inner m k hlt,Option.bind_some]
      unfold linealref09_cheapest_k3 linealref09_cheapest_k2
      dsimp only
      rw [refenough_eq (few_of (n:=9) (by omega)) (need_few hv),Option.bind_some]
      have hkeep:(enB (bitL (fens x) k) (need x)=true→betr cs m (bitL (fens x) k))→(m.Sublist (fens x)∧enB m (need x)=true)∧∀ s,s<k+1→enB (bitL (fens x) s) (need x)=true→betr cs m (bitL (fens x) s):=fun h=>⟨hI.1,fun s hs hen=>by
        by_cases e:s=k
        · subst e; exact h hen
        · exact hI.2 s (by omega) hen⟩
      cases hen:enB (bitL (fens x) k) (need x) with
      | false =>
        rw [if_pos (show (!false)=true from rfl),ck_pos (inK_nat20 (by omega))]
        exact .inl ⟨m,rfl,hkeep fun c=>by rw [hen] at c; cases c⟩
      | true =>
        rw [if_neg (by simp),refcost_eq hc (by omega) (sub_fens hsub),Option.bind_some,refcost_eq hc (by omega) (sub_fens hI.1.1),Option.bind_some]
        have hnew:betr cs (bitL (fens x) k) m→((bitL (fens x) k).Sublist (fens x)∧enB (bitL (fens x) k) (need x)=true)∧∀ s,s<k+1→enB (bitL (fens x) s) (need x)=true→betr cs (bitL (fens x) k) (bitL (fens x) s):=fun h=>⟨⟨hsub,hen⟩,fun s hs hen2=>by
          by_cases e:s=k
          · subst e; exact betr_refl cs _
          · exact betr_trans h (hI.2 s (by omega) hen2)⟩
        by_cases h1:cstF cs (bitL (fens x) k)<cstF cs m
        · rw [if_pos (decide_eq_true h1),ck_pos (inK_nat20 (by omega))]
          exact .inl ⟨_,rfl,hnew (.inl h1)⟩
        · rw [if_neg (by rw [decide_eq_true_eq]; exact h1)]
          by_cases h2:cstF cs (bitL (fens x) k)=cstF cs m
          · rw [if_pos (decide_eq_true h2),earlF_eq (few_of (n:=9) (by omega)) (few_of (n:=9) (by omega)) (fun f hf=>hfit f (sub_fens hsub f hf)) (fun f hf=>hfit f (sub_fens hI.1.1 f hf)),Option.bind_some]
            cases hlx:lexF (bitL (fens x) k) m with
            | true=>rw [if_pos rfl,ck_pos (inK_nat20 (by omega))]; exact .inl ⟨_,rfl,hnew (.inr ⟨h2,.inr hlx⟩)⟩
            | false =>
              rw [if_neg (by simp),ck_pos (inK_nat20 (by omega))]
              refine .inl ⟨_,rfl,hkeep fun _=>.inr ⟨h2.symm,?_⟩⟩
              exact lexF_tot hlx
          · rw [if_neg (by rw [decide_eq_true_eq]; exact h2),ck_pos (inK_nat20 (by omega))]
            exact .inl ⟨_,rfl,hkeep fun _=>.inl (by omega)⟩)
    (fun m hI=>⟨m,by
      unfold linealref09_cheapest_b1
      dsimp only
      rw [List.length_range,shl_all _ (by omega),if_neg (by simp)],hI.1,fun l h1 h2=>by
        obtain ⟨s,h3,rfl⟩:=bitL_all h1
        exact hI.2 s (by rw [List.length_range]; exact h3) h2⟩)
  rw [e,Option.bind_some]
  exact ⟨r,rfl,hr⟩
/-! ### What is chosen,and what it costs -/
def errO (x:Acs) (cs:Cos):Int:=if vld x=true then (if areC x cs=true then 0 else 2) else 90
theorem errO_zero {x:Acs} {cs:Cos}:errO x cs=0↔vld x=true∧areC x cs=true:=by
  unfold errO
  cases vld x<;>cases areC x cs<;>simp
theorem priced_eq {x:Acs} (hx:x.length≤20) (cs:Cos):linealref09_priced x cs=some (errO x cs):=by
  unfold linealref09_priced errO
  rw [refValid_eq hx,Option.bind_some]
  cases hv:vld x with
  | false=>rfl
  | true =>
    simp only [if_true]
    rw [if_neg (by simp),refAreCosts_eq hv,Option.bind_some]
    cases areC x cs<;>rfl
theorem best_ex (x:Acs) (cs:Cos):∃ m,(errO x cs=0→isBest x cs m)∧delay_Cheapest x cs=some (if errO x cs=0 then m else [],errO x cs)∧delay_Least x cs=some (if errO x cs=0 then cstF cs m else 0,errO x cs):=by
  unfold delay_Cheapest delay_Least
  rw [offerOf_eq]
  simp only [Option.bind_some]
  unfold errO
  cases hv:vld x with
  | false=>exact ⟨[],by simp,rfl,rfl⟩
  | true =>
    cases hc:areC x cs with
    | false=>exact ⟨[],by simp,rfl,rfl⟩
    | true =>
      obtain ⟨m,e,hm⟩:=cheapest_eq hv hc
      have hml:=hm.1.1.length_le
      have h9:=fens_len hv
      refine ⟨m,fun _=>hm,?_,?_⟩
      · simp only [if_true]
        rw [if_neg (by simp),e]; rfl
      · simp only [if_true]
        rw [if_neg (by simp),e,Option.bind_some]
        unfold delay_offer_cost
        dsimp only
        rw [costOf_eq hc (by omega) (sub_fens hm.1.1)]; rfl
theorem refbest_ex {x:Acs} (hx:x.length≤20) (cs:Cos):∃ m,(errO x cs=0→isBest x cs m)∧linealref09_Cheapest x cs=some (if errO x cs=0 then m else [],errO x cs)∧linealref09_Least x cs=some (if errO x cs=0 then cstF cs m else 0,errO x cs):=by
  unfold linealref09_Cheapest linealref09_Least
  rw [priced_eq hx]
  simp only [Option.bind_some]
  by_cases h:errO x cs=0
  · obtain ⟨hv,hc⟩:=errO_zero.1 h
    obtain ⟨m,e,hm⟩:=refcheapest_eq hv hc
    have hml:=hm.1.1.length_le
    have h9:=fens_len hv
    refine ⟨m,fun _=>hm,?_,?_⟩
    · rw [if_neg (by simp [h]),e,if_pos h,h]; rfl
    · rw [if_neg (by simp [h]),e,if_pos h,h,Option.bind_some,refcost_eq hc (by omega) (sub_fens hm.1.1)]; rfl
  · exact ⟨[],fun c=>absurd c h,by rw [if_pos (by simp [h]),if_neg h],by rw [if_pos (by simp [h]),if_neg h]⟩
theorem SameFences_eq {l:List Fen} (hf:few l) (hx:∀ f∈l,fitF f):linealref09_SameFences l l=some true:=by
  unfold linealref09_SameFences
  rw [if_neg (by simp),whileO_all l (fun _=>true) (body:=linealref09_SameFences_b1 l l) (fun k a hk=>by
    obtain ⟨hlt,hik⟩:=few_in hf hk
    obtain ⟨f1,f2⟩:=hx a (List.mem_of_getElem? hk)
    unfold linealref09_SameFences_b1
    rw [Int.toNat_natCast,getD_of hk,if_pos (decide_eq_true (by omega)),ck_pos (by omega),ck_pos (by omega),ck_pos (by omega),ck_pos (by omega),ck_pos f1,ck_pos f2,ck_pos f1,ck_pos f2,if_neg (by simp),ck_pos hik,if_pos rfl]) (by
    unfold linealref09_SameFences_b1
    rw [if_neg (by simp)]),Option.bind_some]
  simp [linealref09_SameFences_k1]
def thr (th:List Int) (t:Int):Int:=th.getD t.toNat 0
def reS (th:List Int) (s:Sta):Sta:=(thr th s.1,s.2.1,s.2.2)
def reF (th:List Int) (f:Fen):Fen:=(thr th f.1,f.2)
def rn {α:Type} (L:List (List α)) (th:List Int):List (List α):=th.map fun t=>L.getD t.toNat []
theorem getD_mapS {α β:Type} {l:List α} {k:Nat} (h:k<l.length) (f:α→β) (d:β) (e:α):(l.map f).getD k d=f (l.getD k e):=by
  rw [List.getD_eq_getElem?_getD,List.getElem?_map,List.getElem?_eq_getElem h,getD_of (List.getElem?_eq_getElem h)]; rfl
section
variable {x:Acs} {th:List Int} (hb:thrB x.length th=true)
include hb
end
theorem sum_permI {a b:List Int} (h:a.Perm b):a.sum=b.sum:=by
  induction h with
  | nil=>rfl
  | cons a _ ih=>simp only [List.sum_cons,ih]
  | swap a b l=>simp only [List.sum_cons]; omega
  | trans _ _ h1 h2=>exact h1.trans h2
/-! ### The other way -/
def bkT (n:Nat) (th:List Int):List Int:=(List.range n).map fun (t:Nat)=>((th.idxOf (t:Int):Nat):Int)
end Go.Proofs.Ytdicomoggfhbfaa
