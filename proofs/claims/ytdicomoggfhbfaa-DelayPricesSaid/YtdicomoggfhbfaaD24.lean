import Derived.Test.YtdicomoggfhbfaaD22
namespace Go.Proofs.Ytdicomoggfhbfaa
open Go.RowKit
set_option linter.unusedVariables false
set_option linter.unusedSimpArgs false
set_option maxHeartbeats 4000000 in
theorem thread_core (n01 n02 n03 n12 n13 n23:Bool) (v01 v02 v03 v12 v13 v23 c0 c1 c2:Int)
    (p01:0≤v01) (p02:0≤v02) (p03:0≤v03) (p12:0≤v12) (p13:0≤v13) (p23:0≤v23) (q0:0≤c0) (q1:0≤c1) (q2:0≤c2)
    (h01:if n01=true then v01=c0 else v01=0)
    (h02:if n02=true then (v02≤c0 - v01∧v02≤c1∧(v02=c0 - v01∨v02=c1)) else v02=0)
    (h12:if n12=true then v12=c1 - v02 else v12=0)
    (h03:if n03=true then (v03≤c0 - v01 - v02∧v03≤c1 - v02 - v12∧v03≤c2∧(v03=c0 - v01 - v02∨v03=c1 - v02 - v12∨v03=c2)) else v03=0)
    (h13:if n13=true then (v13≤c1 - v02 - v12 - v03∧v13≤c2 - v03∧(v13=c1 - v02 - v12 - v03∨v13=c2 - v03)) else v13=0)
    (h23:if n23=true then v23=c2 - v03 - v13 else v23=0) :
    ∃ h0 h1 h2:Bool,((!n01 || h0)&&((!n02 || (h0 || h1))&&((!n03 || (h0 || (h1 || h2)))&&((!n12 || h1)&&((!n13 || (h1 || h2))&&(!n23 || h2))))))=true∧(if h0=true then c0 else 0)+(if h1=true then c1 else 0)+(if h2=true then c2 else 0)≤v01+v02+v03+v12+v13+v23:=by
  refine Classical.byContradiction fun hno=>?_
  have key:∀ h0 h1 h2:Bool,((!n01 || h0)&&((!n02 || (h0 || h1))&&((!n03 || (h0 || (h1 || h2)))&&((!n12 || h1)&&((!n13 || (h1 || h2))&&(!n23 || h2))))))=true→v01+v02+v03+v12+v13+v23<(if h0=true then c0 else 0)+(if h1=true then c1 else 0)+(if h2=true then c2 else 0):=fun h0 h1 h2 h=>by
    refine Int.not_le.1 fun c=>hno ⟨h0,h1,h2,h,c⟩
  have k0:=key false false false
  have k1:=key true false false
  have k2:=key false true false
  have k3:=key false false true
  have k4:=key true true false
  have k5:=key true false true
  have k6:=key false true true
  have k7:=key true true true
  clear hno key
  cases n01<;>cases n02<;>cases n03<;>cases n12<;>cases n13<;>cases n23 <;>
    simp only [Bool.not_true,Bool.not_false,Bool.false_or,Bool.true_or,Bool.or_true,Bool.or_false,Bool.and_true,Bool.true_and,Bool.and_false,Bool.false_and,if_true,Bool.false_eq_true,if_false,false_implies,true_implies] at k0 k1 k2 k3 k4 k5 k6 k7 h01 h02 h12 h03 h13 h23<;>omega
theorem sumZ_nz {α:Type} [DecidableEq α] (F:α→Int):∀ l:List α,sumZ l F=sumZ (l.filter fun a=>!decide (F a=0)) F
  | []=>rfl
  | a::l=>by
    rw [sumZ_cons,sumZ_nz F l]
    by_cases h:F a=0
    · rw [List.filter_cons_of_neg (by simp [h])]; omega
    · rw [List.filter_cons_of_pos (by simp [h]),sumZ_cons]
theorem sumZ_ext {α:Type} [DecidableEq α] {l m:List α} {F:α→Int} (hl:l.Nodup) (hm:m.Nodup) (h1:∀ q∈l,F q≠0→q∈m) (h2:∀ q∈m,F q≠0→q∈l):sumZ l F=sumZ m F:=by
  rw [sumZ_nz F l,sumZ_nz F m]
  have hln:=hl.filter fun a=>!decide (F a=0)
  have hmn:=hm.filter fun a=>!decide (F a=0)
  have i1:∀ q∈l.filter (fun a=>!decide (F a=0)),q∈m.filter fun a=>!decide (F a=0):=fun q hq=>by
    obtain ⟨a,b⟩:=List.mem_filter.1 hq
    exact List.mem_filter.2 ⟨h1 q a (by simpa using b),b⟩
  have i2:∀ q∈m.filter (fun a=>!decide (F a=0)),q∈l.filter fun a=>!decide (F a=0):=fun q hq=>by
    obtain ⟨a,b⟩:=List.mem_filter.1 hq
    exact List.mem_filter.2 ⟨h2 q a (by simpa using b),b⟩
  exact sum_permI ((perm_of hln i1 (nodup_le hmn i2)).map F)
theorem sumZ_filter {α:Type} (p:α→Bool) (F:α→Int):∀ l:List α,sumZ (l.filter p) F=sumZ l fun a=>if p a=true then F a else 0
  | []=>rfl
  | a::l=>by
    rw [sumZ_cons,← sumZ_filter p F l]
    by_cases h:p a=true
    · rw [List.filter_cons_of_pos h,sumZ_cons,if_pos h]
    · rw [List.filter_cons_of_neg h,if_neg h]; omega
def tri (t:Int):List Sta:=[(t,0,1),(t,0,2),(t,0,3),(t,1,2),(t,1,3),(t,2,3)]
theorem tri_nodup (t:Int):(tri t).Nodup:=by simp [tri,List.Nodup]
theorem tri_fst {t:Int} {p:Sta} (h:p∈tri t):p.1=t:=by
  simp only [tri,List.mem_cons,List.not_mem_nil,or_false] at h
  rcases h with rfl|rfl|rfl|rfl|rfl|rfl<;>rfl
theorem pr_bnd {x:Acs} {p:Sta} (h:isPr x p=true):0≤p.1∧p.1<x.length∧0≤p.2.1∧p.2.1<p.2.2∧p.2.2<(x.getD p.1.toNat []).length:=by
  unfold isPr at h
  simp only [Bool.and_eq_true,decide_eq_true_eq,hasA_iff] at h
  obtain ⟨⟨a1,a2,a3,a4⟩,⟨_,_,b3,b4⟩,h3,_⟩:=h
  exact ⟨a1,a2,a3,h3,b4⟩
theorem pr_tri {x:Acs} (hv:vld x=true) {p:Sta} (h:isPr x p=true):p∈tri p.1:=by
  obtain ⟨a1,a2,a3,a4,a5⟩:=pr_bnd h
  have hr:=vld_row hv p.1.toNat
  obtain ⟨t,a,b⟩:=p
  simp only at *
  have:(a=0∧b=1)∨(a=0∧b=2)∨(a=0∧b=3)∨(a=1∧b=2)∨(a=1∧b=3)∨(a=2∧b=3):=by omega
  rcases this with ⟨rfl,rfl⟩|⟨rfl,rfl⟩|⟨rfl,rfl⟩|⟨rfl,rfl⟩|⟨rfl,rfl⟩|⟨rfl,rfl⟩<;>simp [tri]
theorem atC_nonneg {x:Acs} {cs:Cos} (hc:areC x cs=true) {t:Nat} (ht:t<x.length) (g:Nat):0≤atC cs ((t:Int),(g:Int)):=by
  obtain ⟨h1,h2⟩:=areC_iff.1 hc
  obtain ⟨h3,h4⟩:=h2 t ht
  unfold atC
  simp only [Int.toNat_natCast]
  by_cases hg:g<(cs.getD t []).length
  · have:=h4 _ (getD_in (d:=0) hg); omega
  · rw [List.getD_eq_getElem?_getD (l:=cs.getD t []),List.getElem?_eq_none (by omega)]; simp
theorem bf_tri {x:Acs} (hv:vld x=true) {cs:Cos} {P:Sta→Int} (hP:prI x cs (need x) 4 0 P) (t g i j:Int):bfS (t,g) (need x) P (t,i,j)=sumZ (tri t) fun q=>if (hldB (t,g) q&&befB q (t,i,j))=true then P q else 0:=by
  unfold bfS
  refine sumZ_ext (need_nodup x) (tri_nodup t) (fun q hq hF=>?_) (fun q hq hF=>?_)
  · have hh:(hldB (t,g) q&&befB q (t,i,j))=true:=by
      cases h:(hldB (t,g) q&&befB q (t,i,j)) with
      | true=>rfl
      | false=>rw [h] at hF; simp at hF
    rw [Bool.and_eq_true] at hh
    have h1:=hh.1
    unfold hldB at h1
    simp only [Bool.and_eq_true,decide_eq_true_eq] at h1
    rw [h1.1]
    exact pr_tri hv (mem_need.1 hq).1
  · refine Classical.byContradiction fun hno=>hF ?_
    rw [hP.2.2.1 q fun c=>hno c.1]; simp
theorem eqn_at {x:Acs} {cs:Cos} {P:Sta→Int} (hP:prI x cs (need x) 4 0 P) (hv:vld x=true) {t i j:Int} (hp:(t,i,j)∈need x) :
    (∀ g,i≤g→g<j→P (t,i,j)≤atC cs (t,g) - bfS (t,g) (need x) P (t,i,j))∧∃ g,i≤g∧g<j∧P (t,i,j)=atC cs (t,g) - bfS (t,g) (need x) P (t,i,j):=by
  obtain ⟨a1,a2,a3,a4,a5⟩:=pr_bnd (mem_need.1 hp).1
  have hr:=vld_row hv t.toNat
  simp only at *
  obtain ⟨h1,f,hf,hh,h2⟩:=hP.2.2.2 (t,i,j) ⟨hp,.inl (by simp only; omega)⟩
  refine ⟨fun g g1 g2=>h1 (t,g) (mem_fens.2 ⟨a1,a2,by simp only; omega,by simp only; omega⟩) (by unfold hldB; simp only [Bool.and_eq_true,decide_eq_true_eq]; exact ⟨trivial,g1,g2⟩),?_⟩
  unfold hldB at hh
  simp only [Bool.and_eq_true,decide_eq_true_eq] at hh
  obtain ⟨e,g1,g2⟩:=hh
  obtain ⟨ft,fg⟩:=f
  simp only at e g1 g2
  subst e
  exact ⟨fg,g1,g2,h2⟩
theorem thread_ok {x:Acs} (hv:vld x=true) {cs:Cos} (hc:areC x cs=true) {P:Sta→Int} (hP:prI x cs (need x) 4 0 P) {t:Nat} (ht:t<x.length) :
    ∃ H:Nat→Bool,(∀ p∈need x,p.1=(t:Int)→∃ g:Nat,p.2.1≤g∧(g:Int)<p.2.2∧H g=true) ∧
      (if H 0=true then atC cs ((t:Int),((0:Nat):Int)) else 0)+(if H 1=true then atC cs ((t:Int),((1:Nat):Int)) else 0)+(if H 2=true then atC cs ((t:Int),((2:Nat):Int)) else 0)≤sumZ (tri (t:Int)) P:=by
  have bf:=fun g i j=>bf_tri hv hP (t:Int) g i j
  have b010:=bf 0 0 1
  have b020:=bf 0 0 2
  have b021:=bf 1 0 2
  have b121:=bf 1 1 2
  have b030:=bf 0 0 3
  have b031:=bf 1 0 3
  have b032:=bf 2 0 3
  have b131:=bf 1 1 3
  have b132:=bf 2 1 3
  have b232:=bf 2 2 3
  simp [sumZ,tri,hldB,befB,ltSB] at b010 b020 b021 b121 b030 b031 b032 b131 b132 b232
  have nz:=fun p (h:p ∉ need x)=>hP.2.2.1 p fun c=>h c.1
  obtain ⟨h0,h1,h2,hcov,hsum⟩:=thread_core (decide (((t:Int),(0:Int),(1:Int))∈need x)) (decide (((t:Int),(0:Int),(2:Int))∈need x)) (decide (((t:Int),(0:Int),(3:Int))∈need x)) (decide (((t:Int),(1:Int),(2:Int))∈need x)) (decide (((t:Int),(1:Int),(3:Int))∈need x)) (decide (((t:Int),(2:Int),(3:Int))∈need x))
    (P ((t:Int),0,1)) (P ((t:Int),0,2)) (P ((t:Int),0,3)) (P ((t:Int),1,2)) (P ((t:Int),1,3)) (P ((t:Int),2,3)) (atC cs ((t:Int),0)) (atC cs ((t:Int),1)) (atC cs ((t:Int),2))
    (hP.1 _).1 (hP.1 _).1 (hP.1 _).1 (hP.1 _).1 (hP.1 _).1 (hP.1 _).1 (atC_nonneg hc ht 0) (atC_nonneg hc ht 1) (atC_nonneg hc ht 2)
    (by
      by_cases h:((t:Int),(0:Int),(1:Int))∈need x
      · rw [if_pos (decide_eq_true h)]
        obtain ⟨g,g1,g2,g3⟩:=(eqn_at hP hv h).2
        obtain rfl:g=0:=by omega
        omega
      · rw [if_neg (by rw [decide_eq_true_eq]; exact h)]; exact nz _ h)
    (by
      by_cases h:((t:Int),(0:Int),(2:Int))∈need x
      · rw [if_pos (decide_eq_true h)]
        have e:=eqn_at hP hv h
        have e0:=e.1 0 (by omega) (by omega)
        have e1:=e.1 1 (by omega) (by omega)
        obtain ⟨g,g1,g2,g3⟩:=e.2
        have:g=0∨g=1:=by omega
        rcases this with rfl|rfl<;>omega
      · rw [if_neg (by rw [decide_eq_true_eq]; exact h)]; exact nz _ h)
    (by
      by_cases h:((t:Int),(1:Int),(2:Int))∈need x
      · rw [if_pos (decide_eq_true h)]
        obtain ⟨g,g1,g2,g3⟩:=(eqn_at hP hv h).2
        obtain rfl:g=1:=by omega
        omega
      · rw [if_neg (by rw [decide_eq_true_eq]; exact h)]; exact nz _ h)
    (by
      by_cases h:((t:Int),(0:Int),(3:Int))∈need x
      · rw [if_pos (decide_eq_true h)]
        have e:=eqn_at hP hv h
        have e0:=e.1 0 (by omega) (by omega)
        have e1:=e.1 1 (by omega) (by omega)
        have e2:=e.1 2 (by omega) (by omega)
        obtain ⟨g,g1,g2,g3⟩:=e.2
        have:g=0∨g=1∨g=2:=by omega
        rcases this with rfl|rfl|rfl<;>omega
      · rw [if_neg (by rw [decide_eq_true_eq]; exact h)]; exact nz _ h)
    (by
      by_cases h:((t:Int),(1:Int),(3:Int))∈need x
      · rw [if_pos (decide_eq_true h)]
        have e:=eqn_at hP hv h
        have e1:=e.1 1 (by omega) (by omega)
        have e2:=e.1 2 (by omega) (by omega)
        obtain ⟨g,g1,g2,g3⟩:=e.2
        have:g=1∨g=2:=by omega
        rcases this with rfl|rfl<;>omega
      · rw [if_neg (by rw [decide_eq_true_eq]; exact h)]; exact nz _ h)
    (by
      by_cases h:((t:Int),(2:Int),(3:Int))∈need x
      · rw [if_pos (decide_eq_true h)]
        obtain ⟨g,g1,g2,g3⟩:=(eqn_at hP hv h).2
        obtain rfl:g=2:=by omega
        omega
      · rw [if_neg (by rw [decide_eq_true_eq]; exact h)]; exact nz _ h)
  refine ⟨fun g=>if g=0 then h0 else if g=1 then h1 else h2,fun p hp e=>?_,?_⟩
  · have hm:=pr_tri hv (mem_need.1 hp).1
    rw [e] at hm
    simp only [Bool.and_eq_true,Bool.or_eq_true,Bool.not_eq_true',decide_eq_false_iff_not] at hcov
    obtain ⟨c1,c2,c3,c4,c5,c6⟩:=hcov
    simp only [tri,List.mem_cons,List.not_mem_nil,or_false] at hm
    rcases hm with rfl|rfl|rfl|rfl|rfl|rfl
    · rcases c1 with c|c
      · exact absurd hp c
      · exact ⟨0,by simp,by simp,c⟩
    · rcases c2 with c|c|c
      · exact absurd hp c
      · exact ⟨0,by simp,by simp,c⟩
      · exact ⟨1,by simp,by simp,c⟩
    · rcases c3 with c|c|c|c
      · exact absurd hp c
      · exact ⟨0,by simp,by simp,c⟩
      · exact ⟨1,by simp,by simp,c⟩
      · exact ⟨2,by simp,by simp,c⟩
    · rcases c4 with c|c
      · exact absurd hp c
      · exact ⟨1,by simp,by simp,c⟩
    · rcases c5 with c|c|c
      · exact absurd hp c
      · exact ⟨1,by simp,by simp,c⟩
      · exact ⟨2,by simp,by simp,c⟩
    · rcases c6 with c|c
      · exact absurd hp c
      · exact ⟨2,by simp,by simp,c⟩
  · have e:sumZ (tri (t:Int)) P=P ((t:Int),0,1)+P ((t:Int),0,2)+P ((t:Int),0,3)+P ((t:Int),1,2)+P ((t:Int),1,3)+P ((t:Int),2,3):=by
      simp [sumZ,tri]; omega
    rw [e]
    exact hsum
theorem range3 {k:Nat} (hk:k≤3) {G:Nat→Int} (h0:0≤G 0) (h1:0≤G 1) (h2:0≤G 2):sumZ (List.range k) G≤G 0+G 1+G 2:=by
  have:k=0∨k=1∨k=2∨k=3:=by omega
  rcases this with rfl|rfl|rfl|rfl<;>simp [sumZ,List.range_succ]<;>omega
theorem cheap_ex {x:Acs} (hv:vld x=true) {cs:Cos} (hc:areC x cs=true) {P:Sta→Int} (hP:prI x cs (need x) 4 0 P):∃ l:List Fen,l.Sublist (fens x)∧enB l (need x)=true∧cstF cs l≤sumZ (need x) P:=by
  obtain ⟨H,hH⟩:=Classical.axiomOfChoice (α:=Nat) (β:=fun _=>Nat→Bool) (r:=fun t H=>t<x.length→(∀ p∈need x,p.1=(t:Int)→∃ g:Nat,p.2.1≤g∧(g:Int)<p.2.2∧H g=true) ∧
      (if H 0=true then atC cs ((t:Int),((0:Nat):Int)) else 0)+(if H 1=true then atC cs ((t:Int),((1:Nat):Int)) else 0)+(if H 2=true then atC cs ((t:Int),((2:Nat):Int)) else 0)≤sumZ (tri (t:Int)) P) (fun t=>by
    by_cases ht:t<x.length
    · obtain ⟨H,h⟩:=thread_ok hv hc hP ht
      exact ⟨H,fun _=>h⟩
    · exact ⟨fun _=>false,fun c=>absurd c ht⟩)
  refine ⟨(fens x).filter fun f=>H f.1.toNat f.2.toNat,List.filter_sublist,?_,?_⟩
  · unfold enB
    rw [List.all_eq_true]
    intro p hp
    obtain ⟨a1,a2,a3,a4,a5⟩:=pr_bnd (mem_need.1 hp).1
    obtain ⟨g,g1,g2,g3⟩:=(hH p.1.toNat (by omega)).1 p hp (by omega)
    unfold heldB
    rw [List.any_eq_true]
    refine ⟨(p.1,(g:Int)),List.mem_filter.2 ⟨mem_fens.2 ⟨a1,a2,by simp only; omega,by simp only; omega⟩,by simp only; rw [Int.toNat_natCast]; exact g3⟩,?_⟩
    unfold hldB
    simp only [Bool.and_eq_true,decide_eq_true_eq]
    exact ⟨trivial,g1,g2⟩
  · have e:cstF cs ((fens x).filter fun f=>H f.1.toNat f.2.toNat)=sumZ (fens x) fun f=>if H f.1.toNat f.2.toNat=true then atC cs f else 0:=sumZ_filter _ _ _
    rw [e]
    unfold fens
    rw [sumZ_flat]
    have e2:sumZ (need x) P=sumZ ((List.range x.length).flatMap fun (t:Nat)=>tri (t:Int)) P:=by
      refine sumZ_ext (need_nodup x) ?_ (fun q hq _=>?_) (fun q hq hF=>Classical.byContradiction fun hno=>hF (hP.2.2.1 q fun c=>hno c.1))
      · unfold List.Nodup
        rw [List.pairwise_flatMap]
        refine ⟨fun t _=>tri_nodup _,List.pairwise_lt_range.imp fun {t t'} h u hu v hv e=>?_⟩
        have h1:=tri_fst hu
        have h2:=tri_fst hv
        rw [e] at h1
        omega
      · have hq:=(mem_need.1 hq).1
        obtain ⟨a1,a2,_⟩:=pr_bnd hq
        refine List.mem_flatMap.2 ⟨q.1.toNat,List.mem_range.2 (by omega),?_⟩
        rw [Int.toNat_of_nonneg a1]
        exact pr_tri hv hq
    rw [e2,sumZ_flat]
    refine sumZ_mono fun t ht=>?_
    have ht:=List.mem_range.1 ht
    have hr:=vld_row hv t
    rw [sumZ_flat]
    refine Int.le_trans ?_ (hH t ht).2
    have e3:sumZ (List.range ((x.getD t []).length - 1)) (fun (g:Nat)=>sumZ [((t:Int),(g:Int))] fun f=>if H f.1.toNat f.2.toNat=true then atC cs f else 0)=sumZ (List.range ((x.getD t []).length - 1)) fun (g:Nat)=>if H t g=true then atC cs ((t:Int),(g:Int)) else 0:=sumZ_congr fun g _=>by
      rw [sumZ_cons,sumZ_nil]
      simp only [Int.toNat_natCast,Int.add_zero]
    rw [e3]
    have nn:∀ g:Nat,0≤(if H t g=true then atC cs ((t:Int),(g:Int)) else 0):=fun g=>by
      split
      · exact atC_nonneg hc ht g
      · exact Int.le_refl _
    exact range3 (G:=fun g=>if H t g=true then atC cs ((t:Int),(g:Int)) else 0) (by omega) (nn 0) (nn 1) (nn 2)
/-! ### No prices prove more -/
def wT (l:List Fen) (nd:List Sta) (ps:List Int) (i:Nat):Int:=if heldB l (nd.getD i (0,0,0))=true then ps.getD i 0 else 0
theorem prices_ok {x:Acs} (hv:vld x=true) {cs:Cos} (hc:areC x cs=true):∃ ps,delay_offer_prices (x,need x,cs)=some ps∧ps.length=(need x).length∧ps.all okP=true∧(∀ f∈fens x,drw f (need x) ps≤atC cs f)∧∃ l:List Fen,l.Sublist (fens x)∧enB l (need x)=true∧cstF cs l≤ps.sum:=by
  obtain ⟨P,e,hP⟩:=prices_eq hv hc
  refine ⟨_,e,by simp,?_,fun f hf=>by rw [drw_map]; exact hP.2.1 f hf,cheap_ex hv hc hP⟩
  rw [List.all_eq_true]
  intro v hv'
  obtain ⟨p,_,rfl⟩:=List.mem_map.1 hv'
  have:=hP.1 p
  unfold okP
  simp only [Bool.and_eq_true,decide_eq_true_eq]
  omega
theorem best_bnd {x:Acs} (hv:vld x=true) {cs:Cos} (hc:areC x cs=true) {m:List Fen} (hm:m.Sublist (fens x)):(m.length:Int)≤cstF cs m∧cstF cs m≤81:=by
  have h1:=cstF_bnd hc (sub_fens hm)
  have h2:=hm.length_le
  have h3:=fens_len hv
  omega
theorem Prices_ex (x:Acs) (cs:Cos):∃ ps,delay_Prices x cs=some (if errO x cs=0 then ps else [],errO x cs)∧(errO x cs=0→ps.length=(need x).length∧ps.all okP=true∧(∀ f∈fens x,drw f (need x) ps≤atC cs f)∧∃ l:List Fen,l.Sublist (fens x)∧enB l (need x)=true∧cstF cs l≤ps.sum):=by
  unfold delay_Prices
  rw [offerOf_eq,Option.bind_some]
  unfold errO
  cases hv:vld x with
  | false=>exact ⟨[],rfl,by simp⟩
  | true =>
    cases hc:areC x cs with
    | false=>exact ⟨[],rfl,by simp⟩
    | true =>
      obtain ⟨ps,e,h⟩:=prices_ok hv hc
      refine ⟨ps,?_,fun _=>h⟩
      simp only [if_true]
      rw [if_neg (by simp),e]; rfl
theorem prv_least {x:Acs} {cs:Cos} {m:List Fen} (hm:isBest x cs m) {ps:List Int} (hf:∀ f∈fens x,drw f (need x) ps≤atC cs f) (hl:∃ l:List Fen,l.Sublist (fens x)∧enB l (need x)=true∧cstF cs l≤ps.sum):prvB x cs ps (cstF cs m)=true:=by
  obtain ⟨l,h1,h2,h3⟩:=hl
  have:=betr_le (hm.2 l h1 h2)
  unfold prvB
  rw [Bool.and_eq_true,decide_eq_true_eq,List.all_eq_true]
  exact ⟨by omega,fun f hf'=>decide_eq_true (hf f hf')⟩
theorem errP_zero {x:Acs} {cs:Cos} {ps:List Int} {c:Int} (h0:errO x cs=0) (hl:ps.length=(need x).length) (hp:ps.all okP=true) (h1:0≤c) (h2:c≤1000):errP x cs ps c=0:=by
  unfold errP
  rw [if_pos h0,if_pos ⟨by rw [decide_eq_true hl,hp]; rfl,h1,h2⟩]
theorem DelayPrices_eq (x:Acs) (hx:okEl (.sl (.sl (.pair (.int .i64) .bool))) x) (cs:Cos) (hcs:okEl (.sl (.sl (.int .i64))) cs) (ps:List Int) (c:Int):lineallaw09_DelayPrices x cs ps c=some true:=by
  unfold lineallaw09_DelayPrices
  rw [Long_eq (okX hx),Option.bind_some]
  cases hl:lngB x with
  | true=>rw [if_pos rfl,Awake_eq]; rfl
  | false =>
    have hx20:=(lng_len hl).1
    rw [if_neg (by simp),wide_eq (okCs hcs),Option.bind_some]
    cases hw:wideB cs with
    | true=>rw [if_pos rfl,Awake_eq]; rfl
    | false =>
      rw [if_neg (by simp)]
      by_cases hlen:100<ps.length
      · rw [if_pos (decide_eq_true (by omega)),Awake_eq]; rfl
      · rw [if_neg (by rw [decide_eq_true_eq]; omega)]
        obtain ⟨m,hm,hm1,hm2⟩:=best_ex x cs
        obtain ⟨n,hn,hn1,hn2⟩:=refbest_ex hx20 cs
        obtain ⟨qs,hq1,hq2⟩:=Prices_ex x cs
        have hsame:(if errO x cs=0 then n else [])=if errO x cs=0 then m else []:=by
          by_cases h:errO x cs=0
          · rw [if_pos h,if_pos h,best_uniq (hn h) (hm h)]
          · rw [if_neg h,if_neg h]
        have hsame2:(if errO x cs=0 then cstF cs n else 0)=if errO x cs=0 then cstF cs m else 0:=by
          by_cases h:errO x cs=0
          · rw [if_pos h,if_pos h,best_uniq (hn h) (hm h)]
          · rw [if_neg h,if_neg h]
        have hfew:few (if errO x cs=0 then m else [])∧∀ f∈(if errO x cs=0 then m else []),fitF f:=by
          by_cases h:errO x cs=0
          · obtain ⟨hv,_⟩:=errO_zero.1 h
            have:=(hm h).1.1.length_le
            have:=fens_len hv
            rw [if_pos h]
            exact ⟨few_of (n:=9) (by omega),fun f hf=>fens_fit hv f (sub_fens (hm h).1.1 f hf)⟩
          · rw [if_neg h]; exact ⟨few_of (n:=0) (by simp),by simp⟩
        rw [hm1,hn1,hm2,hn2,hsame,hsame2]
        simp only [Option.bind_some]
        rw [SameFences_eq hfew.1 hfew.2,Option.bind_some,if_neg (by simp),if_neg (by simp),if_neg (by simp),if_neg (by simp),Prove_eq,refProve_eq hx20,hq1]
        simp only [Option.bind_some]
        rw [if_neg (by simp),if_neg (by simp),if_neg (by simp)]
        by_cases h:errO x cs=0
        · obtain ⟨hv,hc⟩:=errO_zero.1 h
          obtain ⟨k1,k2,k3,k4⟩:=hq2 h
          have hb:=best_bnd hv hc (hm h).1.1
          rw [if_neg (by simp [h]),if_pos h,if_pos h,refProve_eq hx20,Option.bind_some,errP_zero h k1 k2 (by omega) (by omega),prv_least (hm h) k3 k4,if_pos (by simp),if_pos (by simp),Awake_eq]; rfl
        · rw [if_pos (by simp [h]),if_pos (by simp [h]),Awake_eq]; rfl
end Go.Proofs.Ytdicomoggfhbfaa
