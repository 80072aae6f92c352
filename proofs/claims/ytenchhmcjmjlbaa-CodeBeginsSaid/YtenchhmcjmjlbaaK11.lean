import Derived.Test.YtenchhmcjmjlbaaK10
namespace Go.Proofs.Ytenchhmcjmjlbaa
open Go.RowKit
set_option linter.unusedVariables false
set_option linter.unusedSimpArgs false
set_option maxRecDepth 10000
abbrev KTy:Ty:=.pair (.pair (.int .i64) (.pair (.int .i64) (.pair (.sl (.sl (.int .i64))) (.sl (.sl (.int .i64)))))) (.pair (.sl (.sl (.pair (.int .i64) (.pair (.int .i64) (.pair (.int .i64) (.int .i64)))))) (.sl (.sl (.int .i64))))
theorem case_fit {x:Sp×Cd×Us} (hx:okEl KTy x):few x.2.1∧few x.2.2∧fitCd x.2.1∧okS x.1:=by
  obtain ⟨hs,hc,hu⟩:=hx
  have e8:Ty.bytes (.sl (.pair (.int .i64) (.pair (.int .i64) (.pair (.int .i64) (.int .i64)))))=24:=rfl
  have e9:Ty.bytes (.sl (.int .i64))=24:=rfl
  have e1:Ty.bytes (.int .i64)=8:=rfl
  have tb:∀ {l:List (List Int)},okEl (.sl (.sl (.int .i64))) l→okT l:=fun {l} h=>by
    refine ⟨?_,fun r hr=>?_⟩
    · have:=h.1; rw [e9] at this; omega
    · have:=(h.2.2 r hr).1; rw [e1] at this; omega
  refine ⟨?_,?_,fun ls hls l hl=>?_,tb hs.2.2.1,tb hs.2.2.2⟩
  · have:=hc.1; rw [e8] at this; unfold few; omega
  · have:=hu.1; rw [e9] at this; unfold few; omega
  · have:=(hc.2.2 ls hls).2.2 l hl
    exact ⟨this.1,this.2.1,this.2.2.1,this.2.2.2⟩
theorem own_calls {p:Cd} {u:Us} {hs:List Hd} {hist:ZH} {a b:Int} (H:HI p u hs hist a b) {t:Nat} (ht:t<u.length) :
    ((hist.filter (isThr (t:Int))).length:Int)=(hs.getD t (0,0,false,0,0,0,0,0)).1 ∧
    (∀ i,i<(hist.filter (isThr (t:Int))).length→((hist.filter (isThr (t:Int))).getD i (0,0,0,0,0,0)).2.2.1=(u.getD t []).getD i 0) ∧
    (∀ i,i<(hist.filter (isThr (t:Int))).length→((hist.filter (isThr (t:Int))).getD i (0,0,0,0,0,0)).2.2.2.2.2=0→(hs.getD t (0,0,false,0,0,0,0,0)).2.2.1=true∧i+1=(hist.filter (isThr (t:Int))).length):=by
  have h0:=H.h0 t ht
  have ow:=H.ow t ht
  have hlen:((hist.filter (isThr (t:Int))).length:Int)=(hs.getD t (0,0,false,0,0,0,0,0)).1:=by
    have:=congrArg List.length ow
    rw [List.length_map,List.length_take] at this
    omega
  have hpw:hist.Pairwise fun c d=>c.1=d.1→c.2.2.2.2.2≠0:=by
    rw [List.pairwise_iff_getElem]
    intro i j hi hj hij e
    have:=H.sm i j hij hj
    rw [getD_of (List.getElem?_eq_getElem hi),getD_of (List.getElem?_eq_getElem hj)] at this
    exact (this e).1
  have hfp:=hpw.filter (isThr (t:Int))
  refine ⟨hlen,fun i hi=>?_,fun i hi z=>?_⟩
  · have e1:=congrArg (fun l=>l.getD i 0) ow
    rw [getD_of (x:=(hist.filter (isThr (t:Int)))[i].2.2.1) (by rw [List.getElem?_map,List.getElem?_eq_getElem hi]; rfl),getD_take (by omega)] at e1
    rw [getD_of (List.getElem?_eq_getElem hi)]
    exact e1
  · have hm:=List.getElem_mem hi
    rw [getD_of (List.getElem?_eq_getElem hi)] at z
    have hm2:=List.mem_filter.1 hm
    obtain ⟨k,hk,e⟩:=List.getElem_of_mem hm2.1
    have:=H.nt t ht k hk (by rw [getD_of (List.getElem?_eq_getElem hk),e]; exact of_decide_eq_true hm2.2) (by rw [getD_of (List.getElem?_eq_getElem hk),e]; exact z)
    refine ⟨this.1,?_⟩
    by_cases c:i+1=(hist.filter (isThr (t:Int))).length
    · exact c
    · exfalso
      have hj:i+1<(hist.filter (isThr (t:Int))).length:=by omega
      have hm3:=(List.mem_filter.1 (List.getElem_mem hj)).2
      have a1:=List.pairwise_iff_getElem.1 hfp i (i+1) hi hj (by omega) (by rw [of_decide_eq_true hm2.2,of_decide_eq_true hm3])
      exact a1 z
theorem begins_inner {x:Sp×Cd×Us} {t:Nat} {W:ZH} {e:Int} {over:Bool} (ht:t<x.2.2.length) (h6:W.length≤6) (hl:W.length≤(x.2.2.getD t []).length) (ho:∀ i,i<W.length→(W.getD i (0,0,0,0,0,0)).2.2.1=(x.2.2.getD t []).getD i 0) (hz:∀ i,i<W.length→(W.getD i (0,0,0,0,0,0)).2.2.2.2.2=0→over=false∧i+1=W.length) :
    whileO (lineallaw08_CodeBegins_b2 x (over,(t:Int)) (W,e)) (over,0)=some (.inr over):=by
  obtain ⟨r,er,hr⟩:=scan2 (S:=Bool) (R:=Sum Unit Bool) W (fun _ s=>s=over) (fun r=>r=.inr over) (body:=lineallaw08_CodeBegins_b2 x (over,(t:Int)) (W,e)) (s0:=over) rfl (fun k c s hk hs=>by
    subst hs
    obtain ⟨hlt,hin⟩:=few_in (few_of (n:=6) h6) hk
    have o:=ho k hlt
    have z:=hz k hlt
    refine .inl ⟨s,?_,rfl⟩
    unfold lineallaw08_CodeBegins_b2
    dsimp only
    rw [Int.toNat_natCast,Int.toNat_natCast,o,if_pos (decide_eq_true (by omega)),ck_pos (by omega),ck_pos (by omega),ck_pos (by omega),ck_pos (by omega),ck_pos (by omega),ck_pos (by omega),if_neg (by simp),ck_pos (by omega),ck_pos (by omega)]
    by_cases q:(W.getD k (0,0,0,0,0,0)).2.2.2.2.2=0
    · obtain ⟨z1,z2⟩:=z q
      rw [if_pos (decide_eq_true q),z1,if_neg (by simp),ck_pos (by rw [inK_i64]; omega),if_neg (by simp; omega),ck_pos hin]
    · rw [if_neg (by rw [decide_eq_true_eq]; exact q),ck_pos hin]) (fun s hs=>by
    subst hs
    refine ⟨_,?_,rfl⟩
    unfold lineallaw08_CodeBegins_b2
    rw [if_neg (by simp)])
  rw [er,hr]
theorem CodeBegins_eq (x:Sp×Cd×Us) (hx:okEl KTy x) (picks:List Int) (hpk:okEl (.sl (.int .u8)) picks) (part:Int) (hpt:InK .u8 part):lineallaw08_CodeBegins x picks part=some true:=by
  obtain ⟨fc,fu,hf,hs⟩:=case_fit hx
  have hp:∀ q∈picks,0≤q∧q≤255:=fun q hq=>(inK_u8 q).1 (hpk.2.2 q hq)
  have hpt:=(inK_u8 part).1 hpt
  unfold lineallaw08_CodeBegins
  obtain ⟨b,eb,hb⟩:=case_eq fc fu hs
  rw [eb,Option.bind_some,lineallaw08_Sane_run]
  cases b with
  | false=>rw [if_pos (by simp)]; rfl
  | true =>
    obtain ⟨hc,hu,_,_⟩:=hb rfl
    have hul:=vldU_len hu
    have hcl:=vldC_len hc
    rw [if_neg (by simp)]
    by_cases h60:60<(picks.length:Int)
    · rw [if_pos (decide_eq_true h60)]; rfl
    · rw [if_neg (by rw [decide_eq_true_eq]; exact h60)]
      obtain ⟨l,st,es,hg,hl⟩:=sched_eq hf hc hu picks hp (n:=12) (Nat.le_refl _)
      have es':lineallaw08_schedule x picks 12=some (l,decide (leftA x.2.2 st=[]),true):=es
      obtain ⟨G,_⟩:=good_go hc hu hg (good0 hu) (by show 0+l.length≤12; omega)
      have hsl:=goA_len hg
      have H:=G.hi
      rw [hsl] at H
      have h6:st.hist.length≤6:=by obtain ⟨_,_,_,_,_,R⟩:=G.rl; exact inv_len hu R.inv
      have hok:=hi_ok hcl.2 hul.2.1 H h6 (by omega) (by omega)
      have eR:code_Run x.2.1 x.2.2 l=some (st.hist,0):=by
        have:=(Run_eq hf x.2.2 l).1
        rw [outA_ok hc hu hg hl] at this
        exact this
      rw [es',Option.bind_some]
      dsimp only
      rw [if_neg (by simp),eR,Option.bind_some]
      have hk0:0≤part % ((l.length:Int)+1):=Int.emod_nonneg _ (by omega)
      have hk1:part % ((l.length:Int)+1)<(l.length:Int)+1:=Int.emod_lt_of_pos _ (by omega)
      rw [ck_pos (by rw [inK_i64]; omega),ck_pos (by rw [inK_i64]; omega),ck_pos hpt.1,ck_pos (by omega),ck_pos hk0,ck_pos (by omega)]
      generalize part % ((l.length:Int)+1)=k at hk0 hk1 ⊢
      obtain ⟨k,rfl⟩:∃ j:Nat,k=(j:Int):=⟨k.toNat,by omega⟩
      obtain ⟨st1,g1,e1⟩:=begin_until hc hu hg hl (k:=k) (by omega)
      have eR1:code_Run x.2.1 x.2.2 (l.take k)=some (st1.hist,0):=by
        have:=(Run_eq hf x.2.2 (l.take k)).1
        rw [outA_ok hc hu g1 (by rw [List.length_take]; omega)] at this
        exact this
      obtain ⟨f1,f2⟩:=out_fit hf (outA_ok hc hu g1 (by rw [List.length_take]; omega))
      rw [Int.toNat_natCast,eR1,Option.bind_some,ck_pos (by rw [inK_i64]; omega),Until_eq st.hist _ (by omega),if_pos hok,if_pos (show inB 0 (2*(k:Int)) 100=true by unfold inB; simp only [Bool.and_eq_true,decide_eq_true_eq]; omega),← e1,Option.bind_some]
      dsimp only
      rw [if_neg (by simp),if_neg (by simp),if_neg (by simp),Same_eq f1 f2,Option.bind_some,if_neg (by simp)]
      obtain ⟨r,er,hr⟩:=scan2 (S:=Bool) (R:=Sum Unit Unit) x.2.2 (fun _ s=>s=decide (leftA x.2.2 st=[])) (fun r=>r=.inr ()) (body:=lineallaw08_CodeBegins_b1 x (st.hist,0)) (s0:=decide (leftA x.2.2 st=[])) rfl (fun t ul s hk hs=>by
        have htl:t<x.2.2.length:=(List.getElem?_eq_some_iff.1 hk).1
        obtain ⟨oc1,oc2,oc3⟩:=own_calls H htl
        have h0:=H.h0 t htl
        have hW6:(st.hist.filter (isThr (t:Int))).length≤6:=Nat.le_trans (List.length_filter_le _ _) h6
        refine .inl ⟨s,?_,hs⟩
        unfold lineallaw08_CodeBegins_b1
        dsimp only
        rw [if_pos (decide_eq_true (by omega)),By_eq st.hist _ (by omega),if_pos hok,if_pos (show inB 0 (t:Int) 3=true by unfold inB; simp only [Bool.and_eq_true,decide_eq_true_eq]; omega),Option.bind_some]
        dsimp only
        rw [if_neg (by simp),ck_pos (by omega),ck_pos (by omega),Int.toNat_natCast,if_neg (by rw [decide_eq_true_eq]; omega)]
        have fin:∀ o:Bool,(o=true→hasA x.2.2 st t=false)→lineallaw08_CodeBegins_k3 x (o,(t:Int)) (st.hist.filter (isThr (t:Int)),0) o=some (.next (o,(t:Int)+1)):=fun o h=>by
          unfold lineallaw08_CodeBegins_k3
          rw [begins_inner htl hW6 (by omega) oc2 (fun i hi z=>?_),Option.bind_some]
          · simp only
            unfold lineallaw08_CodeBegins_k2
            rw [ck_pos (by rw [inK_i64]; omega)]
          · obtain ⟨z1,z2⟩:=oc3 i hi z
            refine ⟨?_,z2⟩
            cases o with
            | false=>rfl
            | true=>have:=h rfl; unfold hasA at this; rw [z1] at this; simp at this
        cases s with
        | true =>
          have hn:hasA x.2.2 st t=false:=leftA_nil (of_decide_eq_true hs.symm) htl
          have hn2:=hn
          unfold hasA at hn2
          simp only [Bool.or_eq_false_iff,decide_eq_false_iff_not] at hn2
          rw [if_pos rfl,ck_pos (by omega),ck_pos (by omega),if_neg (by rw [decide_eq_true (by omega)]; simp)]
          exact fin true (fun _=>hn)
        | false =>
          rw [if_neg (by simp)]
          exact fin false (fun h=>by cases h)) (fun s hs=>by
        refine ⟨_,?_,rfl⟩
        unfold lineallaw08_CodeBegins_b1
        rw [if_neg (by simp)])
      rw [er,hr]
      simp only [Option.bind_some]
      unfold lineallaw08_CodeBegins_k1
      rw [lineallaw08_Sane_run]; rfl
end Go.Proofs.Ytenchhmcjmjlbaa
