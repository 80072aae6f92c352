import Derived.Test.YtdicomoggfhbfaaDlp
import Derived.Test.YtdicomoggfhbfaaGn
namespace Go.Proofs.Ytdicomoggfhbfaa
open Go.RowKit
set_option linter.unusedVariables false
set_option linter.unusedSimpArgs false
abbrev Acs:Type:=List (List (Int×Bool))
abbrev Sta:Type:=Int×Int×Int
def okAc (a:Int×Bool):Bool:=decide (0≤a.1)&&decide (a.1<3)
def okTh (l:List (Int×Bool)):Bool:=decide (l.length≤4)&&l.all okAc
def vld (x:Acs):Bool:=(decide (1≤x.length)&&decide (x.length≤3))&&x.all okTh
def lngB (x:Acs):Bool:=x.any (fun l=>decide (20<l.length)) || decide (20<x.length)
def celA (x:Acs) (t a:Int):Int×Bool:=(x.getD t.toNat []).getD a.toNat (0,false)
def hasA (x:Acs) (t a:Int):Bool:=(decide (0≤t)&&decide (t<(x.length:Int)))&&(decide (0≤a)&&decide (a<((x.getD t.toNat []).length:Int)))
def conf (x:Acs) (t a u b:Int):Bool:=!decide (t=u)&&(decide ((celA x t a).1=(celA x u b).1)&&((celA x t a).2 || (celA x u b).2))
def isPr (x:Acs) (s:Sta):Bool:=hasA x s.1 s.2.1&&(hasA x s.1 s.2.2&&(decide (s.2.1<s.2.2)&&!decide ((celA x s.1 s.2.1).1=(celA x s.1 s.2.2).1)))
def isSt (x:Acs) (s:Sta):Bool:=(decide (s.2.1=s.2.2)&&hasA x s.1 s.2.1) || isPr x s
def stas (x:Acs):List Sta:=(List.range x.length).flatMap fun (t:Nat)=>(List.range (x.getD t []).length).flatMap fun (a:Nat)=>(List.range (x.getD t []).length).flatMap fun (b:Nat)=>if isSt x ((t:Int),(a:Int),(b:Int))=true then [((t:Int),(a:Int),(b:Int))] else []
theorem vld_len {x:Acs} (h:vld x=true):1≤x.length∧x.length≤3∧∀ l∈x,l.length≤4:=by
  unfold vld at h
  simp only [Bool.and_eq_true,decide_eq_true_eq,List.all_eq_true] at h
  exact ⟨h.1.1,h.1.2,fun l hl=>by have:=h.2 l hl; unfold okTh at this; simp only [Bool.and_eq_true,decide_eq_true_eq] at this; exact this.1⟩
theorem vld_row {x:Acs} (h:vld x=true) (t:Nat):(x.getD t []).length≤4:=by
  by_cases ht:t<x.length
  · exact (vld_len h).2.2 _ (getD_in ht)
  · rw [List.getD_eq_getElem?_getD,List.getElem?_eq_none (by omega)]; simp
theorem hasA_iff {x:Acs} {t a:Int}:hasA x t a=true↔0≤t∧t<x.length∧0≤a∧a<(x.getD t.toNat []).length:=by
  unfold hasA; simp only [Bool.and_eq_true,decide_eq_true_eq,and_assoc]
theorem hasA_nat {x:Acs} {t a:Nat}:hasA x (t:Int) (a:Int)=true↔t<x.length∧a<(x.getD t []).length:=by
  rw [hasA_iff,Int.toNat_natCast]; omega
/-! ### Loops -/
def idxI {α:Type} (p:α→Bool) (xs:List α):Int:=match xs.findIdx? p with|some k=>(k:Int)|none=>-1
theorem idxI_any {α:Type} (p:α→Bool) (xs:List α):decide (0≤idxI p xs)=xs.any p:=by
  unfold idxI
  cases h:xs.findIdx? p with
  | none =>
    rw [List.findIdx?_eq_none_iff] at h
    have:xs.any p=false:=by rw [List.any_eq_false]; intro y hy; simp [h y hy]
    rw [this]; rfl
  | some k =>
    obtain ⟨hk,hp,_⟩:=List.findIdx?_eq_some_iff_getElem.1 h
    have:xs.any p=true:=List.any_eq_true.2 ⟨_,List.getElem_mem hk,hp⟩
    rw [this]; simp
theorem appN {β:Type} (n c:Nat) (f:Nat→List β) (hc:∀ k,k<n→(f k).length≤c) (a0:List β) {body:List β×Int→Option (Step (List β×Int) (List β))}
    (h:∀ (k:Nat) (l:List β),k<n→l.length≤a0.length+n*c→body (l,(k:Int))=some (.next (l++f k,(k:Int)+1))) (hd:∀ l:List β,body (l,(n:Int))=some (.done l)) :
    whileO body (a0,0)=some (a0++(List.range n).flatMap f):=by
  have hle:∀ k,k≤n→((List.range k).flatMap f).length≤k*c:=by
    intro k
    induction k with
    | zero=>intro _; simp
    | succ k ih =>
      intro hk
      have:=ih (by omega)
      have:=hc k (by omega)
      rw [List.range_succ,List.flatMap_append,List.length_append,Nat.succ_mul]
      simp only [List.flatMap_cons,List.flatMap_nil,List.append_nil]; omega
  obtain ⟨r,e,hr⟩:=scan2 (R:=List β) (List.range n) (fun k l=>l=a0++(List.range k).flatMap f) (fun r=>r=a0++(List.range n).flatMap f) (body:=body) (s0:=a0) (by simp)
    (fun k y l hk hI=>by
      have hlt:k<n:=by have:=(List.getElem?_eq_some_iff.1 hk).1; simpa using this
      refine .inl ⟨l++f k,h k l hlt ?_,?_⟩
      · rw [hI,List.length_append]
        have:=hle k (by omega)
        have:=Nat.mul_le_mul_right c (Nat.le_of_lt hlt)
        omega
      · rw [hI,List.range_succ,List.flatMap_append,List.append_assoc]; simp)
    (fun l hI=>⟨l,by rw [List.length_range]; exact hd l,by rw [List.length_range] at hI; exact hI⟩)
  rw [e,hr]
def sumN (n:Nat) (f:Nat→Nat):Nat:=((List.range n).map f).sum
theorem isBelow_eq (n e:Int):delay_isBelow n e=some (decide (0≤n)&&decide (n<e)):=by
  unfold delay_isBelow
  by_cases h:0≤n<;>simp [h]
theorem has_eq (x:Acs) (t a:Int):delay_accesses_has x t a=some (hasA x t a):=by
  unfold delay_accesses_has hasA
  rw [isBelow_eq]
  simp only [Option.bind_some]
  by_cases h1:0≤t<;>by_cases h2:t<x.length<;>simp [h1,h2,ck,isBelow_eq]
theorem IsAccess_eq (x:Acs) (t a:Int):linealref09_IsAccess x t a=some (hasA x t a):=by
  unfold linealref09_IsAccess hasA
  by_cases h1:0≤t<;>by_cases h2:t<x.length<;>by_cases h3:0≤a<;>simp [h1,h2,h3,ck]
theorem conf_eq {x:Acs} {t a u b:Int} (h:hasA x t a=true) (k:hasA x u b=true):delay_accesses_conflict x t a u b=some (conf x t a u b):=by
  obtain ⟨h1,h2,h3,h4⟩:=hasA_iff.1 h
  obtain ⟨k1,k2,k3,k4⟩:=hasA_iff.1 k
  unfold delay_accesses_conflict conf celA
  rw [ck_pos h1,ck_pos h2,ck_pos h3,ck_pos h4,ck_pos k1,ck_pos k2,ck_pos k3,ck_pos k4]
  by_cases e1:t=u
  · simp [e1]
  · by_cases e2:((x.getD t.toNat []).getD a.toNat (0,false)).1=((x.getD u.toNat []).getD b.toNat (0,false)).1
    · cases e3:((x.getD t.toNat []).getD a.toNat (0,false)).2<;>simp [e1,e2,e3,-List.getD_eq_getElem?_getD]
    · simp [e1,e2,-List.getD_eq_getElem?_getD]
theorem refconf_eq {x:Acs} {t a u b:Int} (h:hasA x t a=true) (k:hasA x u b=true):linealref09_conflict x t a u b=some (conf x t a u b):=by
  obtain ⟨h1,h2,h3,h4⟩:=hasA_iff.1 h
  obtain ⟨k1,k2,k3,k4⟩:=hasA_iff.1 k
  unfold linealref09_conflict conf celA
  by_cases e1:t=u
  · simp [e1]
  · rw [if_pos (by simp [e1]),ck_pos h1,ck_pos h2,ck_pos h3,ck_pos h4,ck_pos k1,ck_pos k2,ck_pos k3,ck_pos k4]
    by_cases e2:((x.getD t.toNat []).getD a.toNat (0,false)).1=((x.getD u.toNat []).getD b.toNat (0,false)).1
    · rw [if_pos (by simp [e2,-List.getD_eq_getElem?_getD]),ck_pos h1,ck_pos h2,ck_pos h3,ck_pos h4]
      cases e3:((x.getD t.toNat []).getD a.toNat (0,false)).2
      · rw [if_neg (by simp),ck_pos k1,ck_pos k2,ck_pos k3,ck_pos k4]; simp [e1,e2,-List.getD_eq_getElem?_getD]
      · simp [e1,e2,-List.getD_eq_getElem?_getD]
    · simp [e1,e2,-List.getD_eq_getElem?_getD]
theorem isPair_eq (x:Acs) (s:Sta):delay_accesses_isPair x s=some (isPr x s):=by
  unfold delay_accesses_isPair isPr celA
  rw [has_eq,Option.bind_some]
  cases h:hasA x s.1 s.2.1 with
  | false=>simp
  | true =>
    rw [if_pos rfl,has_eq,Option.bind_some]
    cases k:hasA x s.1 s.2.2 with
    | false=>simp
    | true =>
      obtain ⟨h1,h2,h3,h4⟩:=hasA_iff.1 h
      obtain ⟨_,_,k3,k4⟩:=hasA_iff.1 k
      by_cases e:s.2.1<s.2.2
      · rw [if_pos rfl,if_pos (by simp [e]),ck_pos h1,ck_pos h2,ck_pos h3,ck_pos h4,ck_pos h1,ck_pos h2,ck_pos k3,ck_pos k4]; simp [e,-List.getD_eq_getElem?_getD]
      · simp [e]
theorem refIsPair_eq (x:Acs) (s:Sta):linealref09_IsPair x s=some (isPr x s):=by
  unfold linealref09_IsPair isPr celA
  rw [IsAccess_eq,Option.bind_some]
  cases h:hasA x s.1 s.2.1 with
  | false=>simp
  | true =>
    rw [if_pos rfl,IsAccess_eq,Option.bind_some]
    cases k:hasA x s.1 s.2.2 with
    | false=>simp
    | true =>
      obtain ⟨h1,h2,h3,h4⟩:=hasA_iff.1 h
      obtain ⟨_,_,k3,k4⟩:=hasA_iff.1 k
      by_cases e:s.2.1<s.2.2
      · rw [if_pos rfl,if_pos (by simp [e]),ck_pos h1,ck_pos h2,ck_pos h3,ck_pos h4,ck_pos h1,ck_pos h2,ck_pos k3,ck_pos k4]; simp [e,-List.getD_eq_getElem?_getD]
      · simp [e]
theorem isStation_eq (x:Acs) (s:Sta):delay_accesses_isStation x s=some (isSt x s):=by
  unfold delay_accesses_isStation delay_isOne isSt
  rw [Option.bind_some]
  by_cases e:s.2.1=s.2.2
  · rw [if_pos (by simp [e]),has_eq,Option.bind_some]
    cases h:hasA x s.1 s.2.1 with
    | false=>simp [isPair_eq]
    | true=>simp [e]
  · rw [if_neg (by simp [e]),isPair_eq]; simp [e,-List.getD_eq_getElem?_getD]
/-! ### Valid,Long -/
theorem Long_eq {x:Acs} (hx:few x):lineallaw09_Long x=some (lngB x):=by
  unfold lineallaw09_Long
  rw [whileO_all x (fun l=>!decide (20<l.length)) (body:=lineallaw09_Long_b1 x) (fun k l hk=>by
    obtain ⟨hlt,hik⟩:=few_in hx hk
    unfold lineallaw09_Long_b1
    rw [if_pos (by simp; omega),ck_pos (by omega),ck_pos (by omega),Int.toNat_natCast,getD_of hk]
    by_cases e:20<l.length
    · rw [if_pos (by simp; omega)]; simp [e,-List.getD_eq_getElem?_getD]
    · rw [if_neg (by simp; omega),ck_pos hik]; simp [e]) (by unfold lineallaw09_Long_b1; rw [if_neg (by simp)]),Option.bind_some]
  unfold lngB lineallaw09_Long_k1
  have e:x.all (fun l=>!decide (20<l.length))=!x.any (fun l=>decide (20<l.length)):=by rw [List.not_any_eq_all_not]
  rw [e]
  cases x.any (fun l=>decide (20<l.length)) with
  | true=>simp
  | false =>
    simp only [Bool.not_false,if_true,Bool.false_or]
    have:decide (20<(x.length:Int))=decide (20<x.length):=decide_eq_decide.2 (by omega)
    rw [this]
theorem lng_len {x:Acs} (h:lngB x=false):x.length≤20∧∀ l∈x,l.length≤20:=by
  unfold lngB at h
  simp only [Bool.or_eq_false_iff,decide_eq_false_iff_not,List.any_eq_false,decide_eq_true_eq] at h
  exact ⟨by omega,fun l hl=>by have:=h.1 l hl; omega⟩
theorem isAccess_eq (a:Int×Bool):delay_isAccess a=some (okAc a):=by
  unfold delay_isAccess okAc; rw [isBelow_eq]; rfl
theorem isThread1_eq (a:Int×Bool):delay_isThread_1 a=some (!okAc a):=by
  unfold delay_isThread_1; rw [isAccess_eq]; rfl
theorem isThread_eq (l:List (Int×Bool)):delay_isThread l=some (okTh l):=by
  unfold delay_isThread okTh
  by_cases h:l.length≤4
  · rw [if_pos (by simp; omega)]
    have hf:few l:=few_of h
    have hidx:slices_IndexFunc_2 l=some (idxI (fun a=>!okAc a) l):=by
      unfold slices_IndexFunc_2
      rw [whileO_first l (fun a=>!okAc a) (fun k a hk=>by
        obtain ⟨hlt,hik⟩:=few_in hf hk
        unfold slices_IndexFunc_2_b1
        rw [if_pos (by simp; omega),ck_pos (by omega),ck_pos (by omega),Int.toNat_natCast,getD_of hk,isThread1_eq,Option.bind_some]
        cases okAc a<;>simp [ck_pos hik]) (by unfold slices_IndexFunc_2_b1; rw [if_neg (by simp)]),Option.bind_some]
      unfold idxI slices_IndexFunc_2_k1
      cases l.findIdx? (fun a=>!okAc a)<;>rfl
    unfold slices_ContainsFunc_2
    rw [hidx,Option.bind_some,Option.bind_some,idxI_any,List.not_any_eq_all_not]
    simp [h]
  · rw [if_neg (by simp; omega)]; simp [h]
theorem Valid_eq (x:Acs):delay_Valid x=some (vld x):=by
  unfold delay_Valid vld
  by_cases h1:1≤x.length
  · by_cases h2:x.length≤3
    · rw [if_pos (by simp; omega),if_pos (by simp; omega)]
      have hf:few x:=few_of h2
      have hidx:slices_IndexFunc x=some (idxI (fun l=>!okTh l) x):=by
        unfold slices_IndexFunc
        rw [whileO_first x (fun l=>!okTh l) (fun k a hk=>by
          obtain ⟨hlt,hik⟩:=few_in hf hk
          unfold slices_IndexFunc_b1 delay_Valid_1
          rw [if_pos (by simp; omega),ck_pos (by omega),ck_pos (by omega),Int.toNat_natCast,getD_of hk,isThread_eq,Option.bind_some,Option.bind_some]
          cases okTh a<;>simp [ck_pos hik]) (by unfold slices_IndexFunc_b1; rw [if_neg (by simp)]),Option.bind_some]
        unfold idxI slices_IndexFunc_k1
        cases x.findIdx? (fun a=>!okTh a)<;>rfl
      unfold slices_ContainsFunc
      rw [hidx,Option.bind_some,Option.bind_some,idxI_any,List.not_any_eq_all_not]
      simp [h1,h2]
    · rw [if_pos (by simp; omega),if_neg (by simp; omega)]; simp [h2]
  · rw [if_neg (by simp; omega)]; simp [h1]
theorem refValid_eq {x:Acs} (hx:x.length≤20):linealref09_Valid x=some (vld x):=by
  have hf:few x:=few_of hx
  unfold linealref09_Valid
  rw [whileO_all x okTh (body:=linealref09_Valid_b1 x) (fun k l hk=>by
    obtain ⟨hlt,hik⟩:=few_in hf hk
    unfold linealref09_Valid_b1
    rw [if_pos (by simp; omega),ck_pos (by omega),ck_pos (by omega),Int.toNat_natCast,getD_of hk]
    unfold okTh
    by_cases e:l.length≤4
    · rw [if_neg (by simp; omega)]
      have hfl:few l:=few_of e
      rw [whileO_all l okAc (body:=linealref09_Valid_b2 x (k:Int)) (fun j a hj=>by
        obtain ⟨hlt2,hik2⟩:=few_in hfl hj
        unfold linealref09_Valid_b2 okAc
        rw [Int.toNat_natCast,getD_of hk,if_pos (by simp; omega),ck_pos (by omega),ck_pos (by omega),Int.toNat_natCast,getD_of hj]
        by_cases e1:a.1<0
        · rw [if_pos (by simp [e1])]; simp [show ¬ 0≤a.1 by omega]
        · rw [if_neg (by simp [e1])]
          by_cases e2:3≤a.1
          · rw [if_pos (by simp [e2])]; simp [show ¬ a.1<3 by omega]
          · rw [if_neg (by simp [e2]),ck_pos hik2]; simp [show 0≤a.1 by omega,show a.1<3 by omega]) (by unfold linealref09_Valid_b2; rw [Int.toNat_natCast,getD_of hk,if_neg (by simp)]),Option.bind_some]
      cases l.all okAc<;>simp [e,linealref09_Valid_k2,ck_pos hik]
    · rw [if_pos (by simp; omega)]; simp [e]) (by unfold linealref09_Valid_b1; rw [if_neg (by simp)]),Option.bind_some]
  unfold vld linealref09_Valid_k1
  cases x.all okTh with
  | false=>simp
  | true =>
    simp only [if_true,Bool.and_true]
    by_cases h1:1≤x.length
    · rw [if_pos (by simp; omega)]
      have:decide ((x.length:Int)≤3)=decide (x.length≤3):=decide_eq_decide.2 (by omega)
      simp [h1,this]
    · rw [if_neg (by simp; omega)]; simp [h1]
theorem of_eq (x:Acs):delay_accessesOf x=some (if vld x=true then (x,0) else ([],90)):=by
  unfold delay_accessesOf
  rw [Valid_eq,Option.bind_some]
  cases vld x<;>simp
/-! ### Stations -/
theorem stas_loop {x:Acs} (hv:vld x=true) {b1:List Sta×Int→Option (Step (List Sta×Int) (List Sta))} {b2:List Sta×Int→List Sta×Int→Option (Step (List Sta×Int) (List Sta))} {b3:List Sta×Int→List Sta×Int→List Sta×Int→Option (Step (List Sta×Int) (List Sta))}
    (h3:∀ (t a b:Nat) (l1 l2 l:List Sta),b<(x.getD t []).length→l.length≤1000→b3 (l1,(t:Int)) (l2,(a:Int)) (l,(b:Int))=some (.next (l++(if isSt x ((t:Int),(a:Int),(b:Int))=true then [((t:Int),(a:Int),(b:Int))] else []),(b:Int)+1)))
    (d3:∀ (t a:Nat) (l1 l2 l:List Sta),b3 (l1,(t:Int)) (l2,(a:Int)) (l,((x.getD t []).length:Int))=some (.done l))
    (h2:∀ (t a:Nat) (l1 l r:List Sta),a<(x.getD t []).length→whileO (b3 (l1,(t:Int)) (l,(a:Int))) (l,0)=some r→b2 (l1,(t:Int)) (l,(a:Int))=some (.next (r,(a:Int)+1)))
    (d2:∀ (t:Nat) (l1 l:List Sta),b2 (l1,(t:Int)) (l,((x.getD t []).length:Int))=some (.done l))
    (h1:∀ (t:Nat) (l r:List Sta),t<x.length→whileO (b2 (l,(t:Int))) (l,0)=some r→b1 (l,(t:Int))=some (.next (r,(t:Int)+1)))
    (d1:∀ (l:List Sta),b1 (l,(x.length:Int))=some (.done l)):whileO b1 ([],0)=some (stas x):=by
  have hlen:=vld_len hv
  have w3:∀ (t a:Nat) (l1 l:List Sta),l.length≤900→whileO (b3 (l1,(t:Int)) (l,(a:Int))) (l,0)=some (l++(List.range (x.getD t []).length).flatMap fun (b:Nat)=>if isSt x ((t:Int),(a:Int),(b:Int))=true then [((t:Int),(a:Int),(b:Int))] else []):=fun t a l1 l hl =>
    appN _ 1 _ (fun k hk=>by split<;>simp) l (fun k l' hk hl'=>h3 t a k l1 l l' hk (by have:=vld_row hv t; omega)) (fun l'=>d3 t a l1 l l')
  have c3:∀ (t a:Nat),((List.range (x.getD t []).length).flatMap fun (b:Nat)=>if isSt x ((t:Int),(a:Int),(b:Int))=true then [((t:Int),(a:Int),(b:Int))] else []).length≤4:=fun t a=>by
    have:∀ n,n≤4→((List.range n).flatMap fun (b:Nat)=>if isSt x ((t:Int),(a:Int),(b:Int))=true then [((t:Int),(a:Int),(b:Int))] else []).length≤n:=by
      intro n
      induction n with
      | zero=>intro _; simp
      | succ n ih =>
        intro hn
        have:=ih (by omega)
        rw [List.range_succ,List.flatMap_append,List.length_append]
        have:(List.flatMap (fun (b:Nat)=>if isSt x ((t:Int),(a:Int),(b:Int))=true then [((t:Int),(a:Int),(b:Int))] else []) [n]).length≤1:=by
          simp only [List.flatMap_cons,List.flatMap_nil,List.append_nil]; split<;>simp
        omega
    exact Nat.le_trans (this _ (vld_row hv t)) (vld_row hv t)
  have w2:∀ (t:Nat) (l:List Sta),l.length≤800→whileO (b2 (l,(t:Int))) (l,0)=some (l++(List.range (x.getD t []).length).flatMap fun (a:Nat)=>(List.range (x.getD t []).length).flatMap fun (b:Nat)=>if isSt x ((t:Int),(a:Int),(b:Int))=true then [((t:Int),(a:Int),(b:Int))] else []):=fun t l hl =>
    appN _ 4 _ (fun k hk=>c3 t k) l (fun k l' hk hl'=>h2 t k l l' _ hk (w3 t k l l' (by have:=vld_row hv t; omega))) (fun l'=>d2 t l l')
  have c2:∀ (t:Nat),((List.range (x.getD t []).length).flatMap fun (a:Nat)=>(List.range (x.getD t []).length).flatMap fun (b:Nat)=>if isSt x ((t:Int),(a:Int),(b:Int))=true then [((t:Int),(a:Int),(b:Int))] else []).length≤16:=fun t=>by
    have:∀ n,n≤4→((List.range n).flatMap fun (a:Nat)=>(List.range (x.getD t []).length).flatMap fun (b:Nat)=>if isSt x ((t:Int),(a:Int),(b:Int))=true then [((t:Int),(a:Int),(b:Int))] else []).length≤4*n:=by
      intro n
      induction n with
      | zero=>intro _; simp
      | succ n ih =>
        intro hn
        have:=ih (by omega)
        rw [List.range_succ,List.flatMap_append,List.length_append]
        have:=c3 t n
        simp only [List.flatMap_cons,List.flatMap_nil,List.append_nil] at *
        omega
    have:=this _ (vld_row hv t)
    have:=vld_row hv t
    omega
  have:=appN x.length 16 (fun (t:Nat)=>(List.range (x.getD t []).length).flatMap fun (a:Nat)=>(List.range (x.getD t []).length).flatMap fun (b:Nat)=>if isSt x ((t:Int),(a:Int),(b:Int))=true then [((t:Int),(a:Int),(b:Int))] else []) (fun k hk=>c2 k) [] (body:=b1) (fun k l' hk hl'=>h1 k l' _ hk (w2 k l' (by simp at hl'; omega))) d1
  rw [this]; rfl
theorem inK_nat20 {k:Nat} (h:k≤1000):InK .i64 ((k:Int)+1):=by rw [inK_i64]; omega
theorem stations_eq {x:Acs} (hv:vld x=true):delay_accesses_stations x=some (stas x):=by
  unfold delay_accesses_stations
  have hlen:=vld_len hv
  rw [stas_loop hv (b1:=delay_accesses_stations_b1 x) (b2:=delay_accesses_stations_b2 x) (b3:=delay_accesses_stations_b3 x)
    (fun t a b l1 l2 l hb hl=>by
      unfold delay_accesses_stations_b3
      simp only [Int.toNat_natCast]
      have:=vld_row hv t
      rw [if_pos (decide_eq_true (by omega)),isStation_eq,Option.bind_some]
      cases isSt x ((t:Int),(a:Int),(b:Int)) with
      | true=>rw [if_pos rfl,if_pos rfl,ck_pos (by omega),ck_pos (inK_nat20 (by omega))]
      | false=>rw [if_neg (by simp),if_neg (by simp),ck_pos (inK_nat20 (by omega)),List.append_nil])
    (fun t a l1 l2 l=>by unfold delay_accesses_stations_b3; simp only [Int.toNat_natCast]; rw [if_neg (by simp)])
    (fun t a l1 l r ha h=>by
      unfold delay_accesses_stations_b2
      simp only [Int.toNat_natCast]
      have:=vld_row hv t
      rw [if_pos (decide_eq_true (by omega)),h,Option.bind_some]
      unfold delay_accesses_stations_k3
      rw [ck_pos (inK_nat20 (by omega))])
    (fun t l1 l=>by unfold delay_accesses_stations_b2; simp only [Int.toNat_natCast]; rw [if_neg (by simp)])
    (fun t l r ht h=>by
      unfold delay_accesses_stations_b1
      rw [if_pos (decide_eq_true (by omega)),ck_pos (by simp),ck_pos (by simp; omega)]
      simp only
      rw [h,Option.bind_some]
      unfold delay_accesses_stations_k2
      rw [ck_pos (inK_nat20 (by omega))])
    (fun l=>by unfold delay_accesses_stations_b1; rw [if_neg (by simp)]),Option.bind_some]
  rfl
theorem isPr_lt {x:Acs} {s:Sta} (h:isPr x s=true):s.2.1<s.2.2:=by
  unfold isPr at h; simp only [Bool.and_eq_true,decide_eq_true_eq] at h; exact h.2.2.1
theorem refstations_eq {x:Acs} (hv:vld x=true):linealref09_stations x=some (stas x):=by
  unfold linealref09_stations
  have hlen:=vld_len hv
  rw [stas_loop hv (b1:=linealref09_stations_b1 x) (b2:=linealref09_stations_b2 x) (b3:=linealref09_stations_b3 x)
    (fun t a b l1 l2 l hb hl=>by
      unfold linealref09_stations_b3
      simp only [Int.toNat_natCast]
      have:=vld_row hv t
      rw [if_pos (decide_eq_true (by omega))]
      by_cases e:a=b
      · subst e
        have ht:t<x.length:=by
          rcases Nat.lt_or_ge t x.length with h|h
          · exact h
          · rw [List.getD_eq_getElem?_getD,List.getElem?_eq_none h] at hb; simp at hb
        have:isSt x ((t:Int),(a:Int),(a:Int))=true:=by unfold isSt; simp [hasA_nat.2 ⟨ht,hb⟩]
        rw [this,if_pos (by simp),if_pos rfl,ck_pos (by omega),ck_pos (inK_nat20 (by omega))]
      · rw [if_neg (by simp; omega),refIsPair_eq,Option.bind_some]
        have:isSt x ((t:Int),(a:Int),(b:Int))=isPr x ((t:Int),(a:Int),(b:Int)):=by unfold isSt; simp [show ¬ ((a:Int)=(b:Int)) by omega]
        rw [this]
        cases isPr x ((t:Int),(a:Int),(b:Int)) with
        | true=>rw [if_pos rfl,if_pos rfl,ck_pos (by omega),ck_pos (inK_nat20 (by omega))]
        | false=>rw [if_neg (by simp),if_neg (by simp),ck_pos (inK_nat20 (by omega)),List.append_nil])
    (fun t a l1 l2 l=>by unfold linealref09_stations_b3; simp only [Int.toNat_natCast]; rw [if_neg (by simp)])
    (fun t a l1 l r ha h=>by
      unfold linealref09_stations_b2
      simp only [Int.toNat_natCast]
      have:=vld_row hv t
      rw [if_pos (decide_eq_true (by omega)),h,Option.bind_some]
      unfold linealref09_stations_k3
      rw [ck_pos (inK_nat20 (by omega))])
    (fun t l1 l=>by unfold linealref09_stations_b2; simp only [Int.toNat_natCast]; rw [if_neg (by simp)])
    (fun t l r ht h=>by
      unfold linealref09_stations_b1
      rw [if_pos (decide_eq_true (by omega)),ck_pos (by simp),ck_pos (by simp; omega)]
      simp only
      rw [h,Option.bind_some]
      unfold linealref09_stations_k2
      rw [ck_pos (inK_nat20 (by omega))])
    (fun l=>by unfold linealref09_stations_b1; rw [if_neg (by simp)]),Option.bind_some]
  rfl
end Go.Proofs.Ytdicomoggfhbfaa
