import Derived.Test.YtdicomoggfhbfaaD10
namespace Go.Proofs.Ytdicomoggfhbfaa
open Go.RowKit
set_option linter.unusedVariables false
set_option linter.unusedSimpArgs false
abbrev Fen:Type:=Int×Int
def fens (x:Acs):List Fen:=(List.range x.length).flatMap fun (t:Nat)=>(List.range ((x.getD t []).length - 1)).flatMap fun (g:Nat)=>[((t:Int),(g:Int))]
def ltF (a b:Fen):Prop:=a.1<b.1∨(a.1=b.1∧a.2<b.2)
def fitF (f:Fen):Prop:=InK .i64 f.1∧InK .i64 f.2
theorem mem_fens {x:Acs} {f:Fen}:f∈fens x↔0≤f.1∧f.1<x.length∧0≤f.2∧f.2<((x.getD f.1.toNat []).length:Int) - 1:=by
  unfold fens
  simp only [List.mem_flatMap,List.mem_range,List.mem_singleton]
  constructor
  · rintro ⟨t,ht,g,hg,rfl⟩
    simp only [Int.toNat_natCast]; omega
  · rintro ⟨h1,h2,h3,h4⟩
    refine ⟨f.1.toNat,by omega,f.2.toNat,by omega,?_⟩
    rw [Int.toNat_of_nonneg h1,Int.toNat_of_nonneg h3]
theorem fens_asc (x:Acs):(fens x).Pairwise ltF:=by
  unfold fens
  rw [List.pairwise_flatMap]
  refine ⟨fun t _=>?_,?_⟩
  · rw [List.pairwise_flatMap]
    refine ⟨fun a _=>by simp,?_⟩
    refine List.pairwise_lt_range.imp fun {b b'} h u hu v hv=>?_
    simp only [List.mem_singleton] at hu hv
    subst hu hv
    exact .inr ⟨rfl,by simp only; omega⟩
  · refine List.pairwise_lt_range.imp fun {t t'} h u hu v hv=>?_
    obtain ⟨b,_,hu⟩:=List.mem_flatMap.1 hu
    obtain ⟨b',_,hv⟩:=List.mem_flatMap.1 hv
    simp only [List.mem_singleton] at hu hv
    subst hu hv
    exact .inl (by simp only; omega)
theorem fens_len {x:Acs} (hv:vld x=true):(fens x).length≤9:=by
  have hlen:=vld_len hv
  have hr:=vld_row hv
  have gen:∀ {β:Type} (n c m:Nat) (f:Nat→List β),n≤m→(∀ k,(f k).length≤c)→((List.range n).flatMap f).length≤m*c:=by
    intro β n c m f hn hf
    have:=len_flat (List.range n) c f fun y _=>hf y
    rw [List.length_range] at this
    exact Nat.le_trans this (Nat.mul_le_mul_right c hn)
  unfold fens
  exact gen _ 3 3 _ hlen.2.1 fun t=>gen _ 1 3 _ (by have:=hr t; omega) fun g=>by simp
theorem fens_fit {x:Acs} (hv:vld x=true):∀ f∈fens x,fitF f:=by
  intro f hf
  obtain ⟨h1,h2,h3,h4⟩:=mem_fens.1 hf
  have:=vld_len hv
  have:=vld_row hv f.1.toNat
  unfold fitF
  rw [inK_i64,inK_i64]; omega
theorem fens_loop {x:Acs} (hv:vld x=true) {b1:List Fen×Int→Option (Step (List Fen×Int) (List Fen))} {b2:List Fen×Int→List Fen×Int→Option (Step (List Fen×Int) (List Fen))}
    (h2:∀ (t g:Nat) (l1 l:List Fen),g<(x.getD t []).length - 1→l.length≤1000→b2 (l1,(t:Int)) (l,(g:Int))=some (.next (l++[((t:Int),(g:Int))],(g:Int)+1)))
    (d2:∀ (t:Nat) (l1 l:List Fen),b2 (l1,(t:Int)) (l,(((x.getD t []).length - 1:Nat):Int))=some (.done l))
    (h1:∀ (t:Nat) (l r:List Fen),t<x.length→whileO (b2 (l,(t:Int))) (l,0)=some r→b1 (l,(t:Int))=some (.next (r,(t:Int)+1)))
    (d1:∀ (l:List Fen),b1 (l,(x.length:Int))=some (.done l)):whileO b1 ([],0)=some (fens x):=by
  have hlen:=vld_len hv
  have w2:∀ (t:Nat) (l:List Fen),l.length≤900→whileO (b2 (l,(t:Int))) (l,0)=some (l++(List.range ((x.getD t []).length - 1)).flatMap fun (g:Nat)=>[((t:Int),(g:Int))]):=fun t l hl =>
    appN _ 1 _ (fun k hk=>by simp) l (fun k l' hk hl'=>h2 t k l l' hk (by have:=vld_row hv t; omega)) (fun l'=>d2 t l l')
  have:=appN x.length 3 (fun (t:Nat)=>(List.range ((x.getD t []).length - 1)).flatMap fun (g:Nat)=>[((t:Int),(g:Int))]) (fun k hk=>by
    have:=len_flat (List.range ((x.getD k []).length - 1)) 1 (fun (g:Nat)=>[((k:Int),(g:Int))]) fun y _=>by simp
    rw [List.length_range] at this
    have:=vld_row hv k
    omega) [] (body:=b1) (fun k l' hk hl'=>h1 k l' _ hk (w2 k l' (by simp at hl'; omega))) d1
  rw [this]; rfl
theorem fences_eq {x:Acs} (hv:vld x=true):delay_accesses_fences x=some (fens x):=by
  unfold delay_accesses_fences
  have hlen:=vld_len hv
  rw [fens_loop hv (b1:=delay_accesses_fences_b1 x) (b2:=delay_accesses_fences_b2 x)
    (fun t g l1 l hg hl=>by
      have:=vld_row hv t
      unfold delay_accesses_fences_b2
      dsimp only
      rw [Int.toNat_natCast,if_pos (decide_eq_true (by omega)),ck_pos (by omega),ck_pos (inK_nat20 (by omega))])
    (fun t l1 l=>by
      unfold delay_accesses_fences_b2
      dsimp only
      rw [Int.toNat_natCast,if_neg (by rw [decide_eq_true_eq]; omega)])
    (fun t l r ht h=>by
      have:=vld_row hv t
      unfold delay_accesses_fences_b1
      dsimp only
      rw [h,Int.toNat_natCast,if_pos (decide_eq_true (by omega)),ck_pos (by omega),ck_pos (by omega),ck_pos (by rw [inK_i64]; omega),Option.bind_some]
      unfold delay_accesses_fences_k2
      rw [ck_pos (inK_nat20 (by omega))])
    (fun l=>by unfold delay_accesses_fences_b1; rw [if_neg (by simp)]),Option.bind_some]
  rfl
theorem AllFences_eq {x:Acs} (hv:vld x=true):linealref09_AllFences x=some (fens x):=by
  unfold linealref09_AllFences
  have hlen:=vld_len hv
  rw [fens_loop hv (b1:=linealref09_AllFences_b1 x) (b2:=linealref09_AllFences_b2 x)
    (fun t g l1 l hg hl=>by
      have:=vld_row hv t
      unfold linealref09_AllFences_b2
      dsimp only
      rw [Int.toNat_natCast,if_pos (decide_eq_true (by omega)),ck_pos (by omega),ck_pos (inK_nat20 (by omega))])
    (fun t l1 l=>by
      unfold linealref09_AllFences_b2
      dsimp only
      rw [Int.toNat_natCast,if_neg (by rw [decide_eq_true_eq]; omega)])
    (fun t l r ht h=>by
      have:=vld_row hv t
      unfold linealref09_AllFences_b1
      dsimp only
      rw [h,Int.toNat_natCast,if_pos (decide_eq_true (by omega)),ck_pos (by omega),ck_pos (by omega),ck_pos (by rw [inK_i64]; omega),Option.bind_some]
      unfold linealref09_AllFences_k2
      rw [ck_pos (inK_nat20 (by omega))])
    (fun l=>by unfold linealref09_AllFences_b1; rw [if_neg (by simp)]),Option.bind_some]
  rfl
/-! ### Which lists are fences -/
theorem ltF_trans {a b c:Fen} (h:ltF a b) (k:ltF b c):ltF a c:=by unfold ltF at *; omega
theorem ltF_irr {a:Fen}:¬ ltF a a:=by unfold ltF; omega
def subB:List Fen→List Fen→Bool
  | [],_=>true
  | f::l,all=>match all.findIdx? (fun g=>decide (f=g)) with
    | some k=>subB l (all.drop (k+1))
    | none=>false
def areF (x:Acs) (l:List Fen):Bool:=subB l (fens x)
def hldB (f:Fen) (p:Sta):Bool:=decide (f.1=p.1)&&(decide (p.2.1≤f.2)&&decide (f.2<p.2.2))
def heldB (l:List Fen) (p:Sta):Bool:=l.any fun f=>hldB f p
def enB (l:List Fen) (ps:List Sta):Bool:=ps.all fun p=>heldB l p
theorem holds_eq (f:Fen) (p:Sta):delay_holds f p=some (hldB f p):=by
  unfold delay_holds hldB
  by_cases h1:f.1=p.1<;>by_cases h2:p.2.1≤f.2<;>simp [h1,h2]
theorem refholds_eq (f:Fen) (p:Sta):linealref09_holds f p=some (hldB f p):=by
  unfold linealref09_holds hldB
  by_cases h1:f.1=p.1<;>by_cases h2:p.2.1≤f.2<;>simp [h1,h2]
theorem isHeld_eq {l:List Fen} (hl:few l) (p:Sta):delay_isHeld l p=some (heldB l p):=by
  unfold delay_isHeld slices_ContainsFunc_5
  have hidx:slices_IndexFunc_8 l p=some (idxI (fun f=>hldB f p) l):=by
    unfold slices_IndexFunc_8
    rw [whileO_first l (fun f=>hldB f p) (fun k a hk=>by
      obtain ⟨hlt,hik⟩:=few_in hl hk
      unfold slices_IndexFunc_8_b1 delay_isHeld_1
      rw [Int.toNat_natCast,getD_of hk,if_pos (decide_eq_true (by omega)),ck_pos (by omega),ck_pos (by omega),holds_eq,Option.bind_some,Option.bind_some]
      cases hldB a p<;>simp [ck_pos hik]) (by unfold slices_IndexFunc_8_b1; rw [if_neg (by simp)]),Option.bind_some]
    unfold idxI slices_IndexFunc_8_k1
    cases l.findIdx? (fun f=>hldB f p)<;>rfl
  rw [hidx,Option.bind_some,Option.bind_some,idxI_any]; rfl
theorem refheld_eq {l:List Fen} (hl:few l) (p:Sta):linealref09_held l p=some (heldB l p):=by
  unfold linealref09_held
  rw [whileO_all l (fun f=>!hldB f p) (body:=linealref09_held_b1 l p) (fun k a hk=>by
    obtain ⟨hlt,hik⟩:=few_in hl hk
    unfold linealref09_held_b1
    rw [Int.toNat_natCast,getD_of hk,if_pos (decide_eq_true (by omega)),ck_pos (by omega),ck_pos (by omega),refholds_eq,Option.bind_some]
    cases hldB a p<;>simp [ck_pos hik]) (by unfold linealref09_held_b1; rw [if_neg (by simp)]),Option.bind_some]
  have e:l.all (fun f=>!hldB f p)=!heldB l p:=by unfold heldB; rw [List.not_any_eq_all_not]
  rw [e]
  cases heldB l p<;>rfl
theorem holdAll_eq {l:List Fen} (hl:few l) {ps:List Sta} (hp:few ps):delay_holdAll l ps=some (enB l ps):=by
  unfold delay_holdAll slices_ContainsFunc_6
  have hidx:slices_IndexFunc_9 ps l=some (idxI (fun p=>!heldB l p) ps):=by
    unfold slices_IndexFunc_9
    rw [whileO_first ps (fun p=>!heldB l p) (fun k a hk=>by
      obtain ⟨hlt,hik⟩:=few_in hp hk
      unfold slices_IndexFunc_9_b1 delay_holdAll_1
      rw [Int.toNat_natCast,getD_of hk,if_pos (decide_eq_true (by omega)),ck_pos (by omega),ck_pos (by omega),isHeld_eq hl,Option.bind_some,Option.bind_some]
      cases heldB l a<;>simp [ck_pos hik]) (by unfold slices_IndexFunc_9_b1; rw [if_neg (by simp)]),Option.bind_some]
    unfold idxI slices_IndexFunc_9_k1
    cases ps.findIdx? (fun p=>!heldB l p)<;>rfl
  rw [hidx,Option.bind_some,Option.bind_some,idxI_any,List.not_any_eq_all_not]
  unfold enB
  simp
theorem refenough_eq {l:List Fen} (hl:few l) {ps:List Sta} (hp:few ps):linealref09_enough l ps=some (enB l ps):=by
  unfold linealref09_enough
  rw [whileO_all ps (fun p=>heldB l p) (body:=linealref09_enough_b1 l ps) (fun k a hk=>by
    obtain ⟨hlt,hik⟩:=few_in hp hk
    unfold linealref09_enough_b1
    rw [Int.toNat_natCast,getD_of hk,if_pos (decide_eq_true (by omega)),ck_pos (by omega),ck_pos (by omega),refheld_eq hl,Option.bind_some]
    cases heldB l a<;>simp [ck_pos hik]) (by unfold linealref09_enough_b1; rw [if_neg (by simp)]),Option.bind_some]
  unfold enB
  cases ps.all fun p=>heldB l p<;>rfl
def errF (x:Acs) (l:List Fen):Int:=if vld x=true then (if areF x l=true then 0 else 2) else 90
/-! ### Costs -/
abbrev Cos:Type:=List (List Int)
def okC (c:Int):Bool:=decide (1≤c)&&decide (c≤9)
def areC (x:Acs) (cs:Cos):Bool:=decide (cs.length=x.length)&&(List.range x.length).all fun t=>decide ((cs.getD t []).length=(x.getD t []).length - 1)&&(cs.getD t []).all okC
def atC (cs:Cos) (f:Fen):Int:=(cs.getD f.1.toNat []).getD f.2.toNat 0
def cstF (cs:Cos) (l:List Fen):Int:=(l.map (atC cs)).sum
theorem areC_iff {x:Acs} {cs:Cos}:areC x cs=true↔cs.length=x.length∧∀ t,t<x.length→(cs.getD t []).length=(x.getD t []).length - 1∧∀ c∈cs.getD t [],1≤c∧c≤9:=by
  unfold areC okC
  simp only [Bool.and_eq_true,decide_eq_true_eq,List.all_eq_true,List.mem_range]
theorem contC_eq {l:List Int} (hl:few l):slices_ContainsFunc_7 l=some (!l.all okC):=by
  have hidx:slices_IndexFunc_10 l=some (idxI (fun c=>!okC c) l):=by
    unfold slices_IndexFunc_10
    rw [whileO_first l (fun c=>!okC c) (fun k a hk=>by
      obtain ⟨hlt,hik⟩:=few_in hl hk
      unfold slices_IndexFunc_10_b1
      have:delay_accesses_areCosts_1 a=some (!okC a):=by
        unfold delay_accesses_areCosts_1 okC
        by_cases h1:a<1
        · rw [if_pos (decide_eq_true h1)]; simp [show ¬ 1≤a by omega]
        · rw [if_neg (by rw [decide_eq_true_eq]; exact h1)]
          by_cases h2:9<a
          · simp [h2,show ¬ a≤9 by omega]
          · simp [h2,show a≤9 by omega,show 1≤a by omega]
      rw [Int.toNat_natCast,getD_of hk,if_pos (decide_eq_true (by omega)),ck_pos (by omega),ck_pos (by omega),this,Option.bind_some]
      cases okC a<;>simp [ck_pos hik]) (by unfold slices_IndexFunc_10_b1; rw [if_neg (by simp)]),Option.bind_some]
    unfold idxI slices_IndexFunc_10_k1
    cases l.findIdx? (fun c=>!okC c)<;>rfl
  unfold slices_ContainsFunc_7
  rw [hidx,Option.bind_some,idxI_any,List.not_all_eq_any_not]
theorem areCosts_eq {x:Acs} (hv:vld x=true) (cs:Cos):delay_accesses_areCosts x cs=some (areC x cs):=by
  unfold delay_accesses_areCosts areC
  have hlen:=vld_len hv
  by_cases h0:cs.length=x.length
  · rw [if_neg (by simp [h0])]
    rw [whileO_all (body:=delay_accesses_areCosts_b1 x cs) (List.range x.length) (fun t=>decide ((cs.getD t []).length=(x.getD t []).length - 1)&&(cs.getD t []).all okC) (fun k y hk=>by
      have hy:y=k:=by have:=(List.getElem?_eq_some_iff.1 hk).2; simpa using this.symm
      have hlt:k<x.length:=by have:=(List.getElem?_eq_some_iff.1 hk).1; simpa using this
      subst hy
      have h4:=vld_row hv y
      unfold delay_accesses_areCosts_b1
      rw [Int.toNat_natCast,if_pos (decide_eq_true (by omega)),ck_pos (by omega),ck_pos (by omega),ck_pos (by omega),ck_pos (by omega),ck_pos (by rw [inK_i64]; omega)]
      by_cases h1:(cs.getD y []).length=(x.getD y []).length - 1
      · rw [if_neg (by
          have:(((cs.getD y []).length:Int)=max 0 (((x.getD y []).length:Int) - 1)):=by omega
          rw [decide_eq_true this]; simp),ck_pos (by omega),ck_pos (by omega),contC_eq (few_of (n:=4) (by omega)),Option.bind_some]
        cases (cs.getD y []).all okC with
        | true=>rw [if_neg (by simp),ck_pos (inK_nat20 (by omega)),if_pos (by simp only [Bool.and_true,decide_eq_true_eq]; exact h1)]
        | false=>rw [if_pos (by simp),if_neg (by simp)]
      · rw [if_pos (by
          have:¬ (((cs.getD y []).length:Int)=max 0 (((x.getD y []).length:Int) - 1)):=by omega
          rw [decide_eq_false this]; rfl),if_neg (by rw [decide_eq_false h1]; simp)]) (by
        unfold delay_accesses_areCosts_b1
        rw [if_neg (by simp)]),Option.bind_some]
    simp only [h0,decide_true,Bool.true_and]
    cases (List.range x.length).all fun t=>decide ((cs.getD t []).length=(x.getD t []).length - 1)&&(cs.getD t []).all okC<;>rfl
  · rw [if_pos (by simp; omega)]; simp [h0]
theorem refAreCosts_eq {x:Acs} (hv:vld x=true) (cs:Cos):linealref09_AreCosts x cs=some (areC x cs):=by
  unfold linealref09_AreCosts areC
  have hlen:=vld_len hv
  by_cases h0:cs.length=x.length
  · rw [if_neg (by simp [h0])]
    rw [whileO_all (body:=linealref09_AreCosts_b1 x cs) (List.range x.length) (fun t=>decide ((cs.getD t []).length=(x.getD t []).length - 1)&&(cs.getD t []).all okC) (fun k y hk=>by
      have hy:y=k:=by have:=(List.getElem?_eq_some_iff.1 hk).2; simpa using this.symm
      have hlt:k<x.length:=by have:=(List.getElem?_eq_some_iff.1 hk).1; simpa using this
      subst hy
      have h4:=vld_row hv y
      unfold linealref09_AreCosts_b1
      rw [Int.toNat_natCast,if_pos (decide_eq_true (by omega)),ck_pos (by omega),ck_pos (by omega),ck_pos (by omega),ck_pos (by omega),ck_pos (by rw [inK_i64]; omega)]
      by_cases h1:(cs.getD y []).length=(x.getD y []).length - 1
      · rw [if_neg (by
          have:(((cs.getD y []).length:Int)=max (((x.getD y []).length:Int) - 1) 0):=by omega
          rw [decide_eq_true this]; simp)]
        have hfl:few (cs.getD y []):=few_of (n:=4) (by omega)
        rw [whileO_all (cs.getD y []) okC (body:=linealref09_AreCosts_b2 cs (y:Int)) (fun j c hj=>by
          obtain ⟨hlt2,hik2⟩:=few_in hfl hj
          unfold linealref09_AreCosts_b2 okC
          rw [Int.toNat_natCast,Int.toNat_natCast,getD_of hj,if_pos (decide_eq_true (by omega)),ck_pos (by omega),ck_pos (by omega)]
          by_cases g1:c<1
          · rw [if_pos (decide_eq_true g1)]; simp [show ¬ 1≤c by omega]
          · rw [if_neg (by rw [decide_eq_true_eq]; exact g1)]
            by_cases g2:9<c
            · rw [if_pos (decide_eq_true g2)]; simp [show ¬ c≤9 by omega]
            · rw [if_neg (by rw [decide_eq_true_eq]; exact g2),ck_pos hik2]; simp [show c≤9 by omega,show 1≤c by omega]) (by
            unfold linealref09_AreCosts_b2
            rw [Int.toNat_natCast,if_neg (by simp)]),Option.bind_some]
        cases (cs.getD y []).all okC with
        | true =>
          unfold linealref09_AreCosts_k2
          rw [if_pos rfl,if_pos (by simp only [Bool.and_true,decide_eq_true_eq]; exact h1)]
          simp only
          rw [ck_pos (inK_nat20 (by omega))]
        | false=>rw [if_neg (by simp),if_neg (by simp)]
      · rw [if_pos (by
          have:¬ (((cs.getD y []).length:Int)=max (((x.getD y []).length:Int) - 1) 0):=by omega
          rw [decide_eq_false this]; rfl),if_neg (by rw [decide_eq_false h1]; simp)]) (by
        unfold linealref09_AreCosts_b1
        rw [if_neg (by rw [h0]; simp)]),Option.bind_some]
    simp only [h0,decide_true,Bool.true_and]
    cases (List.range x.length).all fun t=>decide ((cs.getD t []).length=(x.getD t []).length - 1)&&(cs.getD t []).all okC<;>rfl
  · rw [if_pos (by simp; omega)]; simp [h0]
theorem atC_bnd {x:Acs} {cs:Cos} (hc:areC x cs=true) {f:Fen} (hf:f∈fens x):0≤f.1∧f.1<cs.length∧0≤f.2∧f.2<(cs.getD f.1.toNat []).length∧1≤atC cs f∧atC cs f≤9:=by
  obtain ⟨h1,h2,h3,h4⟩:=mem_fens.1 hf
  obtain ⟨g1,g2⟩:=areC_iff.1 hc
  obtain ⟨g3,g4⟩:=g2 f.1.toNat (by omega)
  have:=g4 _ (getD_in (d:=0) (show f.2.toNat<(cs.getD f.1.toNat []).length by omega))
  unfold atC
  exact ⟨h1,by omega,h3,by omega,this.1,this.2⟩
theorem sum_loop {cs:Cos} {l:List Fen} (hl:l.length≤1000) (hb:∀ f∈l,1≤atC cs f∧atC cs f≤9) {body:Int×Int→Option (Step (Int×Int) Int)} (h:∀ (k:Nat) (f:Fen) (a:Int),l[k]?=some f→0≤a→a≤9000→body (a,(k:Int))=some (.next (a+atC cs f,(k:Int)+1))) (hd:∀ a,body (a,(l.length:Int))=some (.done a)):whileO body (0,0)=some (cstF cs l):=by
  obtain ⟨r,e,hr⟩:=scan2 (S:=Int) (R:=Int) l (fun k a=>a=cstF cs (l.take k)∧0≤a∧a≤9*k) (fun a=>a=cstF cs l) (body:=body) (s0:=0) ⟨by simp [cstF],by omega,by omega⟩
    (fun k f a hk hI=>by
      have hlt:=(List.getElem?_eq_some_iff.1 hk).1
      have:=hb f (List.mem_of_getElem? hk)
      refine .inl ⟨_,h k f a hk hI.2.1 (by omega),?_,by omega,by omega⟩
      rw [take_one hk,hI.1]
      simp [cstF])
    (fun a hI=>⟨a,hd a,by rw [hI.1,List.take_length]⟩)
  rw [e,hr]
theorem costOf_eq {x:Acs} {cs:Cos} (hc:areC x cs=true) {l:List Fen} (hl:l.length≤1000) (hm:∀ f∈l,f∈fens x):delay_costOf l cs=some (cstF cs l):=by
  unfold delay_costOf
  rw [sum_loop hl (fun f hf=>(atC_bnd hc (hm f hf)).2.2.2.2) (body:=delay_costOf_b1 l cs) (fun k f a hk h1 h2=>by
    obtain ⟨hlt,hik⟩:=few_in (few_of hl) hk
    obtain ⟨g1,g2,g3,g4,g5,g6⟩:=atC_bnd hc (hm f (List.mem_of_getElem? hk))
    unfold atC at g5 g6
    unfold delay_costOf_b1 atC
    dsimp only
    rw [Int.toNat_natCast,getD_of hk,if_pos (decide_eq_true (by omega)),ck_pos (by omega),ck_pos (by omega),ck_pos g1,ck_pos g2,ck_pos g3,ck_pos g4,ck_pos (by rw [inK_i64]; omega),ck_pos hik]) (fun a=>by unfold delay_costOf_b1; rw [if_neg (by simp)]),Option.bind_some]
  rfl
theorem refcost_eq {x:Acs} {cs:Cos} (hc:areC x cs=true) {l:List Fen} (hl:l.length≤1000) (hm:∀ f∈l,f∈fens x):linealref09_cost cs l=some (cstF cs l):=by
  unfold linealref09_cost
  rw [sum_loop hl (fun f hf=>(atC_bnd hc (hm f hf)).2.2.2.2) (body:=linealref09_cost_b1 cs l) (fun k f a hk h1 h2=>by
    obtain ⟨hlt,hik⟩:=few_in (few_of hl) hk
    obtain ⟨g1,g2,g3,g4,g5,g6⟩:=atC_bnd hc (hm f (List.mem_of_getElem? hk))
    unfold atC at g5 g6
    unfold linealref09_cost_b1 atC
    dsimp only
    rw [Int.toNat_natCast,getD_of hk,if_pos (decide_eq_true (by omega)),ck_pos (by omega),ck_pos (by omega),ck_pos g1,ck_pos g2,ck_pos g3,ck_pos g4,ck_pos (by rw [inK_i64]; omega),ck_pos hik]) (fun a=>by unfold linealref09_cost_b1; rw [if_neg (by simp)]),Option.bind_some]
  rfl
def errC (x:Acs) (cs:Cos) (l:List Fen):Int:=if errF x l=0 then (if areC x cs=true then 0 else 2) else errF x l
/-! ### Too many costs -/
def wideB (cs:Cos):Bool:=cs.any (fun l=>decide (40<l.length)) || decide (40<cs.length)
theorem wide_eq {cs:Cos} (hx:few cs):lineallaw09_wide cs=some (wideB cs):=by
  unfold lineallaw09_wide
  rw [whileO_all cs (fun l=>!decide (40<l.length)) (body:=lineallaw09_wide_b1 cs) (fun k l hk=>by
    obtain ⟨hlt,hik⟩:=few_in hx hk
    unfold lineallaw09_wide_b1
    rw [if_pos (decide_eq_true (by omega)),ck_pos (by omega),ck_pos (by omega),Int.toNat_natCast,getD_of hk]
    by_cases e:40<l.length
    · rw [if_pos (decide_eq_true (by omega))]; simp [e]
    · rw [if_neg (by rw [decide_eq_true_eq]; omega),ck_pos hik]; simp [e]) (by unfold lineallaw09_wide_b1; rw [if_neg (by simp)]),Option.bind_some]
  unfold wideB lineallaw09_wide_k1
  have e:cs.all (fun l=>!decide (40<l.length))=!cs.any (fun l=>decide (40<l.length)):=by rw [List.not_any_eq_all_not]
  rw [e]
  cases cs.any (fun l=>decide (40<l.length)) with
  | true=>simp
  | false =>
    simp only [Bool.not_false,if_true,Bool.false_or]
    have:decide (40<(cs.length:Int))=decide (40<cs.length):=decide_eq_decide.2 (by omega)
    rw [this]
theorem okCs {cs:Cos} (h:okEl (.sl (.sl (.int .i64))) cs):few cs:=by
  have:=h.1
  simp only [Ty.bytes] at this
  unfold few; omega
end Go.Proofs.Ytdicomoggfhbfaa
