import Derived.Test.YtenchhmcjmjlbaaK6
import Derived.Test.YtenchhmcjmjlbaaRdr
namespace Go.Proofs.Ytenchhmcjmjlbaa
open Go.RowKit
set_option linter.unusedVariables false
set_option linter.unusedSimpArgs false
theorem exL {α R:Type} (xs:List α) {body:Int→Option (Step Int R)} (h:∀ (k:Nat) (x:α),xs[k]?=some x→body k=some (.next ((k:Int)+1))∨∃ r,body k=some (.done r)) (hd:∃ r,body xs.length=some (.done r)):∃ r,i7 body 0=some r:=by
  obtain ⟨r,e,_⟩:=b58 (R:=R) xs (fun _=>True) (fun _=>True) (body:=body) trivial (fun k x hk _=>by
    rcases h k x hk with h|⟨r,h⟩
    · exact .inl ⟨h,trivial⟩
    · exact .inr ⟨r,h,trivial⟩) (fun _=>by obtain ⟨r,h⟩:=hd; exact ⟨r,h,trivial⟩)
  exact ⟨r,e⟩
abbrev Sp:Type:=Int×Int×(List (List Int))×(List (List Int))
theorem b5G (z:Sp):∃ b,L2 [z]=some b:=by
  have key:∃ r,i7 (z5 [z]) 0=some r:=by
    refine exL [z] (fun k x hk=>?_) ⟨_,by unfold z5; rw [if_neg (by simp)]⟩
    have hk0:k=0:=by
      have:=(List.getElem?_eq_some_iff.1 hk).1
      simp at this; exact this
    subst hk0
    have hz:x=z:=by simpa using hk.symm
    subst hz
    unfold z5
    rw [if_pos (by simp),b6 (by simp),b6 (by simp)]
    simp only [Int.toNat_natCast,List.getD_cons_zero]
    by_cases h1:20<(x.2.2.1.length:Int)
    · rw [if_pos (decide_eq_true h1)]; exact .inr ⟨_,rfl⟩
    · rw [if_neg (by rw [decide_eq_true_eq]; exact h1)]
      by_cases h2:20<(x.2.2.2.length:Int)
      · rw [if_pos (decide_eq_true h2)]; exact .inr ⟨_,rfl⟩
      · rw [if_neg (by rw [decide_eq_true_eq]; exact h2)]
        have hx0:([x].getD ((0:Nat):Int).toNat (0,0,[],[]))=x:=rfl
        obtain ⟨r2,e2⟩:=exL x.2.2.1 (body:=y9 [x] ((0:Nat):Int)) (fun j y hj=>by
          obtain ⟨hlt,hik⟩:=O9 (G4 (n:=20) (by omega)) hj
          unfold y9
          rw [hx0,if_pos (decide_eq_true (by omega)),b6 (by omega),b6 (by omega)]
          split
          · exact .inr ⟨_,rfl⟩
          · rw [b6 hik]; exact .inl rfl) ⟨_,by unfold y9; rw [hx0,if_neg (by simp)]⟩
        rw [e2,Option.bind_some]
        cases r2 with
        | inl _=>exact .inr ⟨_,rfl⟩
        | inr _ =>
          obtain ⟨r3,e3⟩:=exL x.2.2.2 (body:=y8 [x] ((0:Nat):Int)) (fun j y hj=>by
            obtain ⟨hlt,hik⟩:=O9 (G4 (n:=20) (by omega)) hj
            unfold y8
            rw [hx0,if_pos (decide_eq_true (by omega)),b6 (by omega),b6 (by omega)]
            split
            · exact .inr ⟨_,rfl⟩
            · rw [b6 hik]; exact .inl rfl) ⟨_,by unfold y8; rw [hx0,if_neg (by simp)]⟩
          simp only
          unfold K9
          rw [e3,Option.bind_some]
          cases r3 with
          | inl _=>exact .inr ⟨_,rfl⟩
          | inr _ =>
            simp only
            unfold L1
            rw [b6 (by rw [l3]; omega)]
            exact .inl rfl
  obtain ⟨r,e⟩:=key
  unfold L2
  rw [e,Option.bind_some]
  cases r with
  | inl _=>exact ⟨_,rfl⟩
  | inr _=>exact ⟨_,rfl⟩
theorem b2q (x:Sp×Cd×Us) (hc:few x.2.1) (hu:few x.2.2):∃ b,K8 x=some b:=by
  obtain ⟨r,e⟩:=exL x.2.1 (body:=y7 x) (fun j y hj=>by
    obtain ⟨hlt,hik⟩:=O9 hc hj
    unfold y7
    rw [if_pos (decide_eq_true (by omega)),b6 (by omega),b6 (by omega)]
    split
    · exact .inr ⟨_,rfl⟩
    · rw [b6 hik]; exact .inl rfl) ⟨_,by unfold y7; rw [if_neg (by simp)]⟩
  unfold K8
  rw [e,Option.bind_some]
  cases r with
  | inl _=>exact ⟨_,rfl⟩
  | inr _ =>
    simp only
    unfold K7
    obtain ⟨r2,e2⟩:=exL x.2.2 (body:=y6 x) (fun j y hj=>by
      obtain ⟨hlt,hik⟩:=O9 hu hj
      unfold y6
      rw [if_pos (decide_eq_true (by omega)),b6 (by omega),b6 (by omega)]
      split
      · exact .inr ⟨_,rfl⟩
      · rw [b6 hik]; exact .inl rfl) ⟨_,by unfold y6; rw [if_neg (by simp)]⟩
    rw [e2,Option.bind_some]
    cases r2 with
    | inl _=>exact ⟨_,rfl⟩
    | inr _ =>
      simp only
      unfold K6
      obtain ⟨b,e3⟩:=b5G x.1
      rw [e3,Option.bind_some]
      split
      · exact ⟨_,rfl⟩
      · split
        · exact ⟨_,rfl⟩
        · exact ⟨_,rfl⟩
/-! ### What both sides play -/
def a3B (c:Cd) (u:Us) (sc:List Int):Sum Int St :=
  if a4O c u=0 then (if sc.length≤12 then (match goA c u (st0 u) sc with|some st=>.inr st|none=>.inl 2) else .inl 2) else .inl (a4O c u)
theorem b5T {c:Cd} {u:Us} (h0:a4O c u=0):J7 c=true∧M4 c u=true:=by
  unfold a4O at h0
  cases hc:J7 c with
  | false=>rw [hc] at h0; simp at h0
  | true =>
    cases hu:M4 c u with
    | false=>rw [hc,hu] at h0; simp at h0
    | true=>exact ⟨rfl,rfl⟩
theorem a8D {c:Cd} {u:Us} (hv:J7 c=true∧M4 c u=true) (sc:List Int) (h12:sc.length≤12) (n5:List Int) :
    (goA c u (st0 u) sc=none∧A7 (c,u) sc=some ([],[],[],(Ty.dflt T80),0,0,0,(Ty.dflt T85),(Ty.dflt T86),0,false)∧H6 c u sc n5=some (.inl ())) ∨
    ∃ st D W K bg mk,goA c u (st0 u) sc=some st∧Rl c u st D W K bg mk∧A7 (c,u) sc=some (c,u,st.sc,D,st.v.1,st.v.2.1,st.v.2.2,W,K,bg,true)∧H6 c u sc n5=some (.inr (st.hs,(st.sc.length:Int),st.v.1,st.v.2.1,st.v.2.2,st.hist,mk)):=by
  have hul:=J6 hv.2
  unfold A7 H6
  rw [if_neg (by rw [decide_eq_true_eq]; omega),if_neg (by rw [decide_eq_true_eq]; omega)]
  unfold E7
  rw [b6 (by omega)]
  simp only [Option.bind_some]
  have B:=a61 hv.1 hv.2 sc h12 n5 sc.length (st0 u) (by simp [st0]) (by simp [st0]) (by simp [st0]) (Ty.dflt T80) _ _ 0 _ (a5H hv.2)
  have e0:sc.drop (st0 u).sc.length=sc:=rfl
  rw [e0] at B
  rcases B with ⟨g,a,b⟩|⟨st,D,W,K,bg,mk,g,R,a,b⟩
  · left
    have a':i7 (m4 (c,u) sc) ([],Ty.dflt T80,0,0,0,Ty.dflt T85,Ty.dflt T86,0,0)=some (.inl ()):=a
    have b':i7 (n4 c u sc n5) (List.replicate u.length (0,0,false,0,0,0,0,0),0,0,0,0,[],[],0)=some (.inl ()):=b
    rw [a',b']
    exact ⟨g,rfl,rfl⟩
  · right
    have a':i7 (m4 (c,u) sc) ([],Ty.dflt T80,0,0,0,Ty.dflt T85,Ty.dflt T86,0,0)=some (.inr (st.sc,D,st.v.1,st.v.2.1,st.v.2.2,W,K,bg)):=a
    have b':i7 (n4 c u sc n5) (List.replicate u.length (0,0,false,0,0,0,0,0),0,0,0,0,[],[],0)=some (.inr (st.hs,(st.sc.length:Int),st.v.1,st.v.2.1,st.v.2.2,st.hist,mk)):=b
    rw [a',b']
    exact ⟨st,D,W,K,bg,mk,g,R,rfl,rfl⟩
theorem a8t {c:Cd} (hf:a1y c) (u:Us) (sc:List Int) :
    (∃ e:Int,e≠0∧a3B c u sc=.inl e∧Q7 c u sc=some ([],[],[],(Ty.dflt T80),0,0,0,(Ty.dflt T85),(Ty.dflt T86),0,e)∧O0 c u sc=some (.inl e)) ∨
    (J7 c=true∧M4 c u=true∧∃ st D W K bg mk,a3B c u sc=.inr st∧Rl c u st D W K bg mk∧Q7 c u sc=some (c,u,st.sc,D,st.v.1,st.v.2.1,st.v.2.2,W,K,bg,0)∧O0 c u sc=some (.inr (st.hs,(st.sc.length:Int),st.v.1,st.v.2.1,st.v.2.2,st.hist,mk))):=by
  unfold Q7 O0
  rw [a87 hf,b2W,Option.bind_some,Option.bind_some]
  by_cases h0:a4O c u=0
  · rw [if_neg (by simp [h0]),if_neg (by simp [h0])]
    have hv:=b5T h0
    by_cases h12:sc.length≤12
    · have oE:a3B c u sc=(match goA c u (st0 u) sc with|some st=>.inr st|none=>.inl 2):=by unfold a3B; rw [if_pos h0,if_pos h12]
      rw [oE]
      rcases a8D hv sc h12 [] with ⟨g,a,b⟩|⟨st,D,W,K,bg,mk,g,R,a,b⟩
      · left
        rw [a,b,g]
        exact ⟨2,by decide,rfl,rfl,rfl⟩
      · right
        rw [a,b,g]
        exact ⟨hv.1,hv.2,st,D,W,K,bg,mk,rfl,R,rfl,rfl⟩
    · left
      rw [show a3B c u sc=.inl 2 by unfold a3B; rw [if_pos h0,if_neg h12]]
      unfold A7 H6
      rw [if_pos (decide_eq_true (by omega)),if_pos (decide_eq_true (by omega))]
      exact ⟨2,by decide,rfl,rfl,rfl⟩
  · left
    rw [if_pos (by simp [h0]),if_pos (by simp [h0]),show a3B c u sc=.inl (a4O c u) by unfold a3B; rw [if_neg h0]]
    exact ⟨a4O c u,h0,rfl,rfl,rfl⟩
def a3o (u:Us) (W:El T85) (n:Nat):List Int:=(List.range n).flatMap fun t=>if hasL u W t=true then [(t:Int)] else []
theorem a6d (u:Us) (W:El T85) (n:Nat):a3o u W (n+1)=a3o u W n++(if hasL u W n=true then [(n:Int)] else []):=by
  unfold a3o
  rw [List.range_succ,List.flatMap_append]
  simp
theorem b01 (u:Us) (W:El T85) (n:Nat):(a3o u W n).length≤n:=by
  induction n with
  | zero=>simp [a3o]
  | succ n ih=>rw [a6d,List.length_append]; split<;>simp<;>omega
theorem a64 {u:Us} (hu:u.length≤2) {W:El T85} {body:List Int×Int→Option (Step (List Int×Int) (List Int))}
    (h:∀ (t:Nat) (l:List Int),t<u.length→l.length≤2→body (l,(t:Int))=some (.next (l++(if hasL u W t=true then [(t:Int)] else []),(t:Int)+1))) (hd:∀ l,body (l,(u.length:Int))=some (.done l)):i7 body ([],0)=some (a3o u W u.length):=by
  obtain ⟨r,e,hr⟩:=b2e (S:=List Int) (R:=List Int) u (fun k l=>l=a3o u W k) (fun l=>l=a3o u W u.length) (body:=body) (s0:=[]) rfl
    (fun k x l hk hI=>by
      have hlt:=(List.getElem?_eq_some_iff.1 hk).1
      subst hI
      have:=b01 u W k
      exact .inl ⟨_,h k _ hlt (by omega),(a6d u W k).symm⟩)
    (fun l hI=>⟨l,hd l,hI⟩)
  rw [e,hr]
theorem a2O {α β:Type} {f g:α→List β}:∀ {l:List α},(∀ a∈l,f a=g a)→l.flatMap f=l.flatMap g
  | [],_=>rfl
  | a::r,h=>by rw [List.flatMap_cons,List.flatMap_cons,h a (List.mem_cons_self),a2O fun b hb=>h b (List.mem_cons_of_mem _ hb)]
def E9 (u:Us) (st:St):List Int:=(List.range u.length).flatMap fun t=>if S2 u st t=true then [(t:Int)] else []
theorem a8L {p:Cd} {u:Us} {st:St} {D:El T80} {W:El T85} {K:El T86} {bg:Int} {mk:List Int} (R:Rl p u st D W K bg mk):a3o u W u.length=E9 u st:=by
  unfold a3o E9
  refine a2O fun t ht=>?_
  rw [a38 R (List.mem_range.1 ht)]
theorem a3b {p:Cd} {u:Us} (hu:M4 p u=true) {st:St} {D:El T80} {W:El T85} {K:El T86} {bg:Int} {mk:List Int} (R:Rl p u st D W K bg mk) (s:List Int) (D':El T80) (v:C3):z7 ((p,u),s,D',v,W,K,bg)=some (E9 u st):=by
  have hul:=J6 hu
  unfold z7
  rw [a64 hul.2.1 (W:=W) (fun t l ht hl=>by
    unfold N3
    dsimp only
    have:=a3F (p:=p) hul.2.1 s D' v W K bg ht
    rw [if_pos (decide_eq_true (by omega)),this,Option.bind_some]
    cases hasL u W t with
    | true=>rw [if_pos rfl,if_pos rfl,b6 (by omega),b6 (by rw [l3]; omega)]
    | false=>rw [if_neg (by simp),if_neg (by simp),b6 (by rw [l3]; omega),List.append_nil]) (fun l=>by unfold N3; rw [if_neg (by simp)]),Option.bind_some,a8L R]
  rfl
theorem a7l {p:Cd} {u:Us} (hu:M4 p u=true) {st:St} {D:El T80} {W:El T85} {K:El T86} {bg:Int} {mk:List Int} (R:Rl p u st D W K bg mk) (s:List Int) (D':El T80) (v:C3):G8 ((p,u),s,D',v,W,K,bg)=some st.hist:=by
  have h6:=a1W hu R.inv
  have hbg:=R.inv.bg
  unfold G8 a0q
  dsimp only
  rw [b6 (by omega),b6 (by omega),b08 hu R.inv,b6 (by omega)]
  rfl
def b2g {α:Type} (z:α) (f:St→α) (o:Sum Int St):α×Int:=match o with|.inl e=>(z,e)|.inr st=>(f st,0)
theorem b51 {c:Cd} (hf:a1y c) (u:Us) (sc:List Int):a2Q c u sc=some (b2g [] St.hist (a3B c u sc))∧a2g c u sc=some (b2g [] St.hist (a3B c u sc)):=by
  unfold a2Q a2g
  rcases a8t hf u sc with ⟨e,he,o,a,b⟩|⟨hc,hu,st,D,W,K,bg,mk,o,R,a,b⟩
  · rw [a,b,o]
    simp only [Option.bind_some]
    exact ⟨by rw [if_pos (by simp [he])]; rfl,by rw [if_pos (by simp [he])]; rfl⟩
  · rw [a,b,o]
    simp only [Option.bind_some]
    refine ⟨?_,rfl⟩
    rw [if_neg (by simp),a7l hu R _ _ (st.v.1,st.v.2.1,st.v.2.2)]
    rfl
theorem b6i {c:Cd} (hf:a1y c) (u:Us) (sc:List Int):a4R c u sc=some (b2g [] (E9 u) (a3B c u sc))∧a1q c u sc=some (b2g [] (E9 u) (a3B c u sc)):=by
  unfold a4R a1q
  rcases a8t hf u sc with ⟨e,he,o,a,b⟩|⟨hc,hu,st,D,W,K,bg,mk,o,R,a,b⟩
  · rw [a,b,o]
    simp only [Option.bind_some]
    exact ⟨by rw [if_pos (by simp [he])]; rfl,by rw [if_pos (by simp [he])]; rfl⟩
  · rw [a,b,o]
    simp only [Option.bind_some]
    have hul:=J6 hu
    refine ⟨by rw [if_neg (by simp),a3b hu R _ _ (st.v.1,st.v.2.1,st.v.2.2)]; rfl,?_⟩
    rw [a64 hul.2.1 (W:=W) (fun t l ht hl=>by
      unfold R8
      dsimp only
      rw [if_pos (decide_eq_true (by omega)),a0Z R.inv ht,Option.bind_some]
      cases hasL u W t with
      | true=>rw [if_pos rfl,if_pos rfl,b6 (by omega),b6 (by rw [l3]; omega)]
      | false=>rw [if_neg (by simp),if_neg (by simp),b6 (by rw [l3]; omega),List.append_nil]) (fun l=>by unfold R8; rw [if_neg (by simp)]),Option.bind_some,a8L R]
    rfl
theorem b02 (u:Us) (hu:u.length≤2) (st:St):(E9 u st).length≤2:=by
  unfold E9
  have:∀ n,((List.range n).flatMap fun t=>if S2 u st t=true then [(t:Int)] else []).length≤n:=fun n=>by
    induction n with
    | zero=>simp
    | succ n ih =>
      rw [List.range_succ,List.flatMap_append,List.length_append]
      simp only [List.flatMap_cons,List.flatMap_nil,List.append_nil]
      generalize ((List.range n).flatMap fun t=>if S2 u st t=true then [(t:Int)] else []).length=q at ih ⊢
      split
      · rw [List.length_singleton]; omega
      · rw [List.length_nil]; omega
  exact Nat.le_trans (this _) hu
theorem a2C:C8=some true:=by
  have hf:a1y [[(1,0,0,0),(5,2,0,1),(2,0,2,0),(7,0,0,0)]]:=fun ls hls l hl=>by
    rw [List.mem_singleton] at hls
    subst hls
    simp only [List.mem_cons,List.not_mem_nil,or_false] at hl
    rcases hl with rfl|rfl|rfl|rfl<;>(unfold a7h; simp only [l3]; omega)
  have hr:(b2g [] St.hist (a3B [[(1,0,0,0),(5,2,0,1),(2,0,2,0),(7,0,0,0)]] [[0],[0]] [0,0,1,1,0,0,1,1]):List (Int×Int×Int×Int×Int×Int)×Int)=([(0,0,0,0,1,12),(1,0,0,0,5,16)],0):=by kernel_rfl
  unfold C8
  rw [(b51 hf _ _).1,hr,Option.bind_some]
  first|rfl|(simp [ck]; done)|decide +kernel
end Go.Proofs.Ytenchhmcjmjlbaa
