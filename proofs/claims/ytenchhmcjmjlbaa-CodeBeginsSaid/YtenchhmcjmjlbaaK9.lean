import Derived.Test.YtenchhmcjmjlbaaK8
import Derived.Test.YtenchhmcjmjlbaaKs
namespace Go.Proofs.Ytenchhmcjmjlbaa
open Go.RowKit
set_option linter.unusedVariables false
set_option linter.unusedSimpArgs false
set_option maxRecDepth 10000
theorem beg_rl {p:Cd} {u:Us} (hp:vldC p=true) (hu:vldU p u=true) {st:St} {D:El T80} {W:El T85} {K:El T86} {bg:Int} {mk:List Int} (R:Rl p u st D W K bg mk) {t:Nat} (ht:t<u.length) (hL:hasA u st t=true) {n:Int} (hn:0≤n∧n≤100) :
    ∃ W' K' bg' mk',Inv p u W' K' bg' st.v (begA u st.hs st.hist t n).1 (begA u st.hs st.hist t n).2 mk'∧((begA u st.hs st.hist t n).1.getD t (0,0,false,0,0,0,0,0)).2.2.1=true:=by
  have I:=R.inv
  have r:=I.rh t ht
  rw [← hasL_eq R ht] at hL
  have hL:=of_decide_eq_true hL
  unfold begA
  cases hin:(st.hs.getD t (0,0,false,0,0,0,0,0)).2.2.1 with
  | true=>rw [if_pos rfl]; exact ⟨W,K,bg,mk,I,hin⟩
  | false =>
    rw [if_neg (by simp)]
    have B:=begin_inv hp hu I ht hin hL hn
    rw [← r.no hin] at B
    exact ⟨_,_,_,_,B.2,by dsimp only; rw [get_set (by rw [I.hl]; exact ht)]⟩
theorem lnA_ok {p:Cd} {u:Us} (hp:vldC p=true) {W:El T85} {K:El T86} {bg:Int} {v:C3} {hs:List Hd} {hist:ZH} {mk:List Int} (I:Inv p u W K bg v hs hist mk) {t:Nat} (ht:t<u.length) (hin:(hs.getD t (0,0,false,0,0,0,0,0)).2.2.1=true) :
    (∃ m,okL (lnA p hist (hs.getD t (0,0,false,0,0,0,0,0))) m=true)∧∀ a,rB a 4=true→0≤rgU (hs.getD t (0,0,false,0,0,0,0,0)) a∧rgU (hs.getD t (0,0,false,0,0,0,0,0)) a≤9:=by
  have r:=(I.rh t ht).op hin
  have hcall:=vldC_call hp (o:=(opC hist (hs.getD t (0,0,false,0,0,0,0,0))).toNat) (by have:=r.o0; have:=r.o1; omega)
  have hln:(hs.getD t (0,0,false,0,0,0,0,0)).2.1.toNat<(p.getD (opC hist (hs.getD t (0,0,false,0,0,0,0,0))).toNat []).length:=by have:=r.l0; have:=r.l1; omega
  unfold okCl at hcall
  simp only [Bool.and_eq_true,List.all_eq_true] at hcall
  exact ⟨⟨_,hcall.2.2 _ (getD_in hln)⟩,r.r9⟩
structure Good (p:Cd) (u:Us) (st:St):Prop where
  rl:∃ D W K bg mk,Rl p u st D W K bg mk
  hi:HI p u st.hs st.hist (2*(st.sc.length:Int) - 1) (2*(st.sc.length:Int))
theorem good0 {p:Cd} {u:Us} (hu:vldU p u=true):Good p u (st0 u):=⟨⟨_,_,_,_,_,dflt_rl hu⟩,st0_hi⟩
theorem good_step {p:Cd} {u:Us} (hp:vldC p=true) (hu:vldU p u=true) {st:St} (G:Good p u st) {t:Nat} (ht:t<u.length) (hL:hasA u st t=true) (h12:st.sc.length<12) :
    Good p u (stpA p u st t)∧∀ m:Int,0≤m→m≤st.sc.length→untilA (stpA p u st t).hist (2*m)=untilA st.hist (2*m):=by
  obtain ⟨D,W,K,bg,mk,R⟩:=G.rl
  obtain ⟨D',W',K',bg',a,b,c⟩:=step_both hp hu R ht hL h12 []
  obtain ⟨W2,K2,bg2,mk2,I2,hin⟩:=beg_rl hp hu R ht hL (n:=(st.sc.length:Int)) (by omega)
  have hr:(st.hs.getD t (0,0,false,0,0,0,0,0)).2.2.1=true∨(st.hs.getD t (0,0,false,0,0,0,0,0)).1<((u.getD t []).length:Int):=by
    unfold hasA at hL
    simp only [Bool.or_eq_true,decide_eq_true_eq] at hL
    exact hL
  obtain ⟨H1,_,u1⟩:=beg_hi hu G.hi (by omega) ht hr
  obtain ⟨⟨m,ok⟩,r9⟩:=lnA_ok hp I2 ht hin
  obtain ⟨H2,u2⟩:=fin_hi (v:=st.v) (n:=(st.sc.length:Int)) H1 (by omega) (by omega) ht hin ok r9
  have el:((stpA p u st t).sc.length:Int)=st.sc.length+1:=by rw [stpA_sc]; simp
  refine ⟨⟨⟨_,_,_,_,_,c⟩,?_⟩,fun m hm0 hm=>?_⟩
  · rw [el]
    exact H2.mono (by omega) (by omega)
  · exact (u2 m hm0 hm).trans (u1 m hm0 hm)
theorem good_go {p:Cd} {u:Us} (hp:vldC p=true) (hu:vldU p u=true):∀ {l:List Int} {st st':St},goA p u st l=some st'→Good p u st→st.sc.length+l.length≤12→Good p u st'∧∀ m:Int,0≤m→m≤st.sc.length→untilA st'.hist (2*m)=untilA st.hist (2*m)
  | [],st,st',h,G,_=>by injection h with h; subst h; exact ⟨G,fun m _ _=>rfl⟩
  | x::r,st,st',h,G,h12=>by
    unfold goA at h
    split at h
    · rename_i c
      have hx:=rB_iff.1 c.1
      rw [List.length_cons] at h12
      obtain ⟨G1,u1⟩:=good_step hp hu G (by omega) c.2 (by omega)
      have el:(stpA p u st x.toNat).sc.length=st.sc.length+1:=by rw [stpA_sc]; simp
      obtain ⟨G2,u2⟩:=good_go hp hu h G1 (by omega)
      exact ⟨G2,fun m hm0 hm=>(u2 m hm0 (by omega)).trans (u1 m hm0 hm)⟩
    · cases h
theorem goA_cons (p:Cd) (u:Us) (st:St) (x:Int) (r:List Int):goA p u st (x::r)=if rB x (u.length:Int)=true∧hasA u st x.toNat=true then goA p u (stpA p u st x.toNat) r else none:=rfl
theorem goA_app {p:Cd} {u:Us}:∀ (l r:List Int) (st:St),goA p u st (l++r)=(goA p u st l).bind fun s=>goA p u s r
  | [],r,st=>rfl
  | x::l,r,st=>by
    rw [List.cons_append,goA_cons,goA_cons]
    split
    · exact goA_app l r _
    · rfl
theorem until_all {p:Cd} {u:Us} {hs:List Hd} {hist:ZH} {n:Int} (H:HI p u hs hist (2*n - 1) (2*n)):untilA hist (2*n)=hist:=by
  have hm:∀ c∈hist,begun (2*n) c=true∧cut (2*n) c=c:=fun c hc=>by
    obtain ⟨k,hk,e⟩:=List.getElem_of_mem hc
    have:=H.ok k hk
    rw [getD_of (List.getElem?_eq_getElem hk),e] at this
    have f:=this.fr
    have t:=this.to
    refine ⟨decide_eq_true (by omega),?_⟩
    unfold cut
    rw [if_neg (by omega)]
  unfold untilA
  have:hist.filter (begun (2*n))=hist:=List.filter_eq_self.2 fun c hc=>(hm c hc).1
  rw [this]
  have e:hist.map (cut (2*n))=hist.map id:=List.map_congr_left fun c hc=>(hm c hc).2
  rw [e,List.map_id]
theorem begin_until {p:Cd} {u:Us} (hp:vldC p=true) (hu:vldU p u=true) {l:List Int} {st:St} (h:goA p u (st0 u) l=some st) (h12:l.length≤12) {k:Nat} (hk:k≤l.length) :
    ∃ st1,goA p u (st0 u) (l.take k)=some st1∧st1.hist=untilA st.hist (2*(k:Int)):=by
  rw [← List.take_append_drop k l,goA_app] at h
  cases h1:goA p u (st0 u) (l.take k) with
  | none=>rw [h1] at h; cases h
  | some st1 =>
    rw [h1,Option.bind_some] at h
    have e0:(st0 u).sc.length=0:=rfl
    obtain ⟨G1,_⟩:=good_go hp hu h1 (good0 hu) (by rw [e0,List.length_take]; omega)
    have el:st1.sc.length=k:=by rw [goA_len h1,List.length_take]; omega
    obtain ⟨G2,u2⟩:=good_go hp hu h G1 (by rw [el,List.length_drop]; omega)
    refine ⟨st1,rfl,?_⟩
    have:=u2 (k:Int) (by omega) (by omega)
    rw [this]
    have e:=until_all G1.hi
    rw [el] at e
    exact e.symm
theorem hi_ok {p:Cd} {u:Us} (hp:p.length≤4) (hu:u.length≤2) {hs:List Hd} {hist:ZH} {a b:Int} (H:HI p u hs hist a b) (h6:hist.length≤6) (ha:a≤100) (hb:b≤100):okH hist=true:=by
  unfold okH
  simp only [Bool.and_eq_true,decide_eq_true_eq]
  refine ⟨by omega,allB_iff.2 fun k hk=>?_⟩
  have O:=H.ok k hk
  unfold okAt
  simp only [Bool.and_eq_true]
  refine ⟨?_,allB_iff.2 fun j hj=>?_⟩
  · obtain ⟨o1,o2,o3,o4,o5,o6⟩:=O
    unfold okC inB
    simp only [Bool.and_eq_true,Bool.or_eq_true,decide_eq_true_eq]
    refine ⟨⟨⟨⟨⟨?_,?_⟩,?_⟩,?_⟩,?_⟩,?_⟩<;>omega
  · have J:=H.ok j (by omega)
    have f:=H.fr j k hj hk
    have t:=H.tt j k hj hk
    have s:=H.sm j k hj hk
    obtain ⟨o1,o2,o3,o4,o5,o6⟩:=O
    obtain ⟨q1,q2,q3,q4,q5,q6⟩:=J
    unfold apartC bef
    simp only [Bool.and_eq_true,Bool.or_eq_true,Bool.not_eq_true',Bool.not_eq_false',decide_eq_true_eq,decide_eq_false_iff_not,Bool.and_eq_false_iff]
    refine ⟨⟨⟨⟨?_,?_⟩,?_⟩,?_⟩,?_⟩
    · omega
    · omega
    · omega
    · omega
    · omega
end Go.Proofs.Ytenchhmcjmjlbaa
