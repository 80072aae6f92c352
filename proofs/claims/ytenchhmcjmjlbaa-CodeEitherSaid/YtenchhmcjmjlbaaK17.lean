import Derived.Test.YtenchhmcjmjlbaaK16
namespace Go.Proofs.Ytenchhmcjmjlbaa
open Go.RowKit
set_option linter.unusedVariables false
set_option linter.unusedSimpArgs false
set_option maxRecDepth 10000
theorem b13 {s:SpT} {c:Cd} {u:Us} (hc:L5 c=true) (hu:I9 c u=true) (hk:(a0r s).ok=true) (ho:s.2.1=(c.length:Int)) {n:Nat} (hn:n≤12):a70 s c u (n:Int)=0:=by
  unfold a70
  rw [if_pos hc,if_pos ⟨hk,ho⟩,if_pos hu,if_pos (m5.2 (by omega))]
theorem a9L {p:Cd} {u:Us} (hp:L5 p=true) (hu:I9 p u=true) {s:SpT} (hk:(a0r s).ok=true) (ho:s.2.1=(p.length:Int)) {n:Nat} (hn:n≤12) (hs:(a0z p u n (st0 u)).find? (fun st=>!a3p s st.hist)=none) {l:List Int} {st:St} (h:goA p u (st0 u) l=some st) (hl:l.length≤n):a3p s st.hist=true:=by
  obtain ⟨st2,h2,r,h3⟩:=b1Z l n _ _ h hl
  obtain ⟨G2,l2,g2⟩:=a7y hp hu hn h2
  have G:=(a3W hp hu h (b0l hu) (by show 0+l.length≤12; omega)).1
  have:=List.find?_eq_none.1 hs st2 h2
  have hsc:=a9a h3
  refine b71 hp hu hk ho G h3 ?_ (by simpa using this)
  have:=congrArg List.length hsc
  rw [List.length_append] at this
  omega
theorem a59 {x:Sp×Cd×Us} (hf:a1g x.2.1) (hs:okS x.1) (hc:L5 x.2.1=true) (hu:I9 x.2.1 x.2.2=true) (hk:(a0r x.1).ok=true) (ho:x.1.2.1=(x.2.1.length:Int)) (steps:Int×Int) (picks:List Int) (hp:∀ q∈picks,0≤q∧q≤255) {n:Nat} (hn:n≤12) (en:max (steps.1 % 13) (steps.2 % 13)=(n:Int)) (b:Bool) (hb:b=true→∀ (l:List Int) (st:St),goA x.2.1 x.2.2 (st0 x.2.2) l=some st→l.length≤n→a3p x.1 st.hist=true):s5 x steps picks b=some true:=by
  obtain ⟨l,st,es,hg,hl⟩:=b4c hf hc hu picks hp hn
  have G:=(a3W hc hu hg (b0l hu) (by show 0+l.length≤12; omega)).1
  have hsc:=a9b hg
  have eB:Q3 x.1 x.2.1 x.2.2 l=some (!a3p x.1 st.hist,0):=by
    rw [a8J hs hf,if_pos hc,if_pos ⟨hk,ho⟩,a4R hc hu hg (by omega)]; rfl
  have eR:a1k x.2.1 x.2.2 l=some (st.hist,0):=by
    rw [(b2a hf x.2.2 l),a4R hc hu hg (by omega)]; rfl
  unfold s5
  rw [en,es,Option.bind_some]
  dsimp only
  rw [if_neg (by simp),eB,Option.bind_some,eR,Option.bind_some]
  dsimp only
  rw [if_neg (by simp),if_neg (by simp),b1f hc hu hs hk ho G (by rw [hsc]; omega),Option.bind_some,a0w]
  dsimp only
  rw [if_pos (show decide ((0:Int)=0)=true from rfl),if_pos (show (((!a3p x.1 st.hist)==!a3p x.1 st.hist) != false)=true by simp)]
  cases b with
  | false=>rw [if_pos (by simp)]; rfl
  | true=>rw [if_neg (by simp),hb rfl l st hg hl,if_pos (by simp)]; rfl
theorem a72 (x:Sp×Cd×Us) (hx:a4W KTy x) (steps:Int×Int) (hst:a4W (.pair (.int .u8) (.int .u8)) steps) (picks:List Int) (hpk:a4W (.sl (.int .u8)) picks):I3 x steps picks=some true:=by
  obtain ⟨fc,fu,hf,hs⟩:=b4T hx
  have hp:∀ q∈picks,0≤q∧q≤255:=fun q hq=>(b1l q).1 (hpk.2.2 q hq)
  have s1:=(b1l _).1 hst.1
  have s2:=(b1l _).1 hst.2
  unfold I3
  obtain ⟨b,eb,hb⟩:=b6M fc fu hs
  rw [eb,Option.bind_some,a0w]
  cases b with
  | false=>rw [if_pos (by simp)]; rfl
  | true =>
    obtain ⟨hc,hu,hk,ho⟩:=hb rfl
    rw [if_neg (by simp)]
    by_cases h60:60<(picks.length:Int)
    · rw [if_pos (decide_eq_true h60)]; rfl
    · rw [if_neg (by rw [decide_eq_true_eq]; exact h60),b4 (by rw [l4]; omega),b4 s1.1,b4 (by rw [l4]; omega),b4 s2.1]
      have m1:0≤steps.1 % 13∧steps.1 % 13<13:=⟨Int.emod_nonneg _ (by omega),Int.emod_lt_of_pos _ (by omega)⟩
      have m2:0≤steps.2 % 13∧steps.2 % 13<13:=⟨Int.emod_nonneg _ (by omega),Int.emod_lt_of_pos _ (by omega)⟩
      obtain ⟨n,en⟩:∃ n:Nat,max (steps.1 % 13) (steps.2 % 13)=(n:Int):=⟨(max (steps.1 % 13) (steps.2 % 13)).toNat,by omega⟩
      obtain ⟨k,ek⟩:∃ k:Nat,min (steps.1 % 13) (steps.2 % 13)=(k:Int):=⟨(min (steps.1 % 13) (steps.2 % 13)).toNat,by omega⟩
      have hn:n≤12:=by omega
      have hkn:k≤n:=by omega
      have e1:=b13 hc hu hk ho hn
      have e2:=b13 hc hu hk ho (n:=k) (by omega)
      have K2:=a59 hf hs hc hu hk ho steps picks hp hn en
      rw [en,ek,b0J hs hf,b0J hs hf,b0M hs hf,e1,e2,if_pos rfl,if_pos rfl,if_pos rfl,Int.toNat_natCast,Int.toNat_natCast,Option.bind_some,Option.bind_some,Option.bind_some]
      dsimp only
      rw [if_neg (by simp),if_neg (by simp),if_neg (by simp)]
      cases hfd:(a0z x.2.1 x.2.2 n (st0 x.2.2)).find? (fun st=>!a3p x.1 st.hist) with
      | none =>
        have ebr:a6D x.1 x.2.1 x.2.2 n=([],5):=by unfold a6D; rw [hfd]
        have less:(a0z x.2.1 x.2.2 k (st0 x.2.2)).find? (fun st=>!a3p x.1 st.hist)=none:=List.find?_eq_none.2 fun st hm=>by
          obtain ⟨G,l2,g2⟩:=a7y hc hu (by omega) hm
          rw [a9L hc hu hk ho hn hfd g2 (by omega)]
          simp
        have ebr2:a6D x.1 x.2.1 x.2.2 k=([],5):=by unfold a6D; rw [less]
        rw [ebr,ebr2,if_pos (by simp),if_neg (by simp),if_pos (by simp),if_neg (by simp)]
        unfold m9
        rw [if_neg (by simp)]
        exact K2 true fun _ l st hg hl=>a9L hc hu hk ho hn hfd hg hl
      | some st =>
        have ebr:a6D x.1 x.2.1 x.2.2 n=(st.sc,0):=by unfold a6D; rw [hfd]
        have hm:=List.mem_of_find?_eq_some hfd
        have hl:=List.find?_some hfd
        obtain ⟨G,l2,g2⟩:=a7y hc hu hn hm
        rw [ebr,if_neg (by simp),if_neg (by simp)]
        unfold m9
        dsimp only
        have eB:Q3 x.1 x.2.1 x.2.2 st.sc=some (true,0):=by
          rw [a8J hs hf,if_pos hc,if_pos ⟨hk,ho⟩,a4R hc hu g2 (by omega),← hl]; rfl
        rw [if_pos (by simp),eB,Option.bind_some]
        dsimp only
        rw [if_neg (by simp),if_neg (by simp),en,if_neg (by rw [decide_eq_true_eq]; omega)]
        exact K2 false fun h=>by cases h
end Go.Proofs.Ytenchhmcjmjlbaa
