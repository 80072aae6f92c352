import Derived.Test.YtenchhmcjmjlbaaK6
import Derived.Test.YtenchhmcjmjlbaaRdr
namespace Go.Proofs.Ytenchhmcjmjlbaa
open Go.RowKit
set_option linter.unusedVariables false
set_option linter.unusedSimpArgs false
theorem exL {α R:Type} (xs:List α) {body:Int→Option (Step Int R)} (h:∀ (k:Nat) (x:α),xs[k]?=some x→body k=some (.next ((k:Int)+1))∨∃ r,body k=some (.done r)) (hd:∃ r,body xs.length=some (.done r)):∃ r,j7 body 0=some r:=by
  obtain ⟨r,e,_⟩:=b8w (R:=R) xs (fun _=>True) (fun _=>True) (body:=body) trivial (fun k x hk _=>by
    rcases h k x hk with h|⟨r,h⟩
    · exact .inl ⟨h,trivial⟩
    · exact .inr ⟨r,h,trivial⟩) (fun _=>by obtain ⟨r,h⟩:=hd; exact ⟨r,h,trivial⟩)
  exact ⟨r,e⟩
abbrev Sp:Type:=Int×Int×(List (List Int))×(List (List Int))
theorem b73 (z:Sp):∃ b,N3 [z]=some b:=by
  have key:∃ r,j7 (B5 [z]) 0=some r:=by
    refine exL [z] (fun k x hk=>?_) ⟨_,by unfold B5; rw [if_neg (by simp)]⟩
    have hk0:k=0:=by
      have:=(List.getElem?_eq_some_iff.1 hk).1
      simp at this; exact this
    subst hk0
    have hz:x=z:=by simpa using hk.symm
    subst hz
    unfold B5
    rw [if_pos (by simp),b4 (by simp),b4 (by simp)]
    simp only [Int.toNat_natCast,List.getD_cons_zero]
    by_cases h1:20<(x.2.2.1.length:Int)
    · rw [if_pos (decide_eq_true h1)]; exact .inr ⟨_,rfl⟩
    · rw [if_neg (by rw [decide_eq_true_eq]; exact h1)]
      by_cases h2:20<(x.2.2.2.length:Int)
      · rw [if_pos (decide_eq_true h2)]; exact .inr ⟨_,rfl⟩
      · rw [if_neg (by rw [decide_eq_true_eq]; exact h2)]
        have hx0:([x].getD ((0:Nat):Int).toNat (0,0,[],[]))=x:=rfl
        obtain ⟨r2,e2⟩:=exL x.2.2.1 (body:=A9 [x] ((0:Nat):Int)) (fun j y hj=>by
          obtain ⟨hlt,hik⟩:=a0O (Z2 (n:=20) (by omega)) hj
          unfold A9
          rw [hx0,if_pos (decide_eq_true (by omega)),b4 (by omega),b4 (by omega)]
          split
          · exact .inr ⟨_,rfl⟩
          · rw [b4 hik]; exact .inl rfl) ⟨_,by unfold A9; rw [hx0,if_neg (by simp)]⟩
        rw [e2,Option.bind_some]
        cases r2 with
        | inl _=>exact .inr ⟨_,rfl⟩
        | inr _ =>
          obtain ⟨r3,e3⟩:=exL x.2.2.2 (body:=A8 [x] ((0:Nat):Int)) (fun j y hj=>by
            obtain ⟨hlt,hik⟩:=a0O (Z2 (n:=20) (by omega)) hj
            unfold A8
            rw [hx0,if_pos (decide_eq_true (by omega)),b4 (by omega),b4 (by omega)]
            split
            · exact .inr ⟨_,rfl⟩
            · rw [b4 hik]; exact .inl rfl) ⟨_,by unfold A8; rw [hx0,if_neg (by simp)]⟩
          simp only
          unfold N1
          rw [e3,Option.bind_some]
          cases r3 with
          | inl _=>exact .inr ⟨_,rfl⟩
          | inr _ =>
            simp only
            unfold N2
            rw [b4 (by rw [l4]; omega)]
            exact .inl rfl
  obtain ⟨r,e⟩:=key
  unfold N3
  rw [e,Option.bind_some]
  cases r with
  | inl _=>exact ⟨_,rfl⟩
  | inr _=>exact ⟨_,rfl⟩
theorem b4r (x:Sp×Cd×Us) (hc:few x.2.1) (hu:few x.2.2):∃ b,N0 x=some b:=by
  obtain ⟨r,e⟩:=exL x.2.1 (body:=A7 x) (fun j y hj=>by
    obtain ⟨hlt,hik⟩:=a0O hc hj
    unfold A7
    rw [if_pos (decide_eq_true (by omega)),b4 (by omega),b4 (by omega)]
    split
    · exact .inr ⟨_,rfl⟩
    · rw [b4 hik]; exact .inl rfl) ⟨_,by unfold A7; rw [if_neg (by simp)]⟩
  unfold N0
  rw [e,Option.bind_some]
  cases r with
  | inl _=>exact ⟨_,rfl⟩
  | inr _ =>
    simp only
    unfold M9
    obtain ⟨r2,e2⟩:=exL x.2.2 (body:=A6 x) (fun j y hj=>by
      obtain ⟨hlt,hik⟩:=a0O hu hj
      unfold A6
      rw [if_pos (decide_eq_true (by omega)),b4 (by omega),b4 (by omega)]
      split
      · exact .inr ⟨_,rfl⟩
      · rw [b4 hik]; exact .inl rfl) ⟨_,by unfold A6; rw [if_neg (by simp)]⟩
    rw [e2,Option.bind_some]
    cases r2 with
    | inl _=>exact ⟨_,rfl⟩
    | inr _ =>
      simp only
      unfold M8
      obtain ⟨b,e3⟩:=b73 x.1
      rw [e3,Option.bind_some]
      split
      · exact ⟨_,rfl⟩
      · split
        · exact ⟨_,rfl⟩
        · exact ⟨_,rfl⟩
/-! ### What both sides play -/
def a4u (c:Cd) (u:Us) (sc:List Int):Sum Int St :=
  if a5g c u=0 then (if sc.length≤12 then (match goA c u (st0 u) sc with|some st=>.inr st|none=>.inl 2) else .inl 2) else .inl (a5g c u)
theorem b8g {c:Cd} {u:Us} (h0:a5g c u=0):L5 c=true∧I9 c u=true:=by
  unfold a5g at h0
  cases hc:L5 c with
  | false=>rw [hc] at h0; simp at h0
  | true =>
    cases hu:I9 c u with
    | false=>rw [hc,hu] at h0; simp at h0
    | true=>exact ⟨rfl,rfl⟩
theorem a9b {c:Cd} {u:Us} {sc:List Int} {st:St} (h:goA c u (st0 u) sc=some st):st.sc=sc:=by
  have:=a9a h
  rw [this]; rfl
theorem a9V {c:Cd} {u:Us} (hv:L5 c=true∧I9 c u=true) (sc:List Int) (h12:sc.length≤12) (o9:List Int) :
    (goA c u (st0 u) sc=none∧C6 (c,u) sc=some ([],[],[],(Ty.dflt T80),0,0,0,(Ty.dflt T85),(Ty.dflt T86),0,false)∧K1 c u sc o9=some (.inl ())) ∨
    ∃ st D W K bg mk,goA c u (st0 u) sc=some st∧Rl c u st D W K bg mk∧C6 (c,u) sc=some (c,u,st.sc,D,st.v.1,st.v.2.1,st.v.2.2,W,K,bg,true)∧K1 c u sc o9=some (.inr (st.hs,(st.sc.length:Int),st.v.1,st.v.2.1,st.v.2.2,st.hist,mk)):=by
  have hul:=O5 hv.2
  unfold C6 K1
  rw [if_neg (by rw [decide_eq_true_eq]; omega),if_neg (by rw [decide_eq_true_eq]; omega)]
  unfold a1B
  rw [b4 (by omega)]
  simp only [Option.bind_some]
  have B:=a8e hv.1 hv.2 sc h12 o9 sc.length (st0 u) (by simp [st0]) (by simp [st0]) (by simp [st0]) (Ty.dflt T80) _ _ 0 _ (a9h hv.2)
  have e0:sc.drop (st0 u).sc.length=sc:=rfl
  rw [e0] at B
  rcases B with ⟨g,a,b⟩|⟨st,D,W,K,bg,mk,g,R,a,b⟩
  · left
    have a':j7 (l8 (c,u) sc) ([],Ty.dflt T80,0,0,0,Ty.dflt T85,Ty.dflt T86,0,0)=some (.inl ()):=a
    have b':j7 (m8 c u sc o9) (List.replicate u.length (0,0,false,0,0,0,0,0),0,0,0,0,[],[],0)=some (.inl ()):=b
    rw [a',b']
    exact ⟨g,rfl,rfl⟩
  · right
    have a':j7 (l8 (c,u) sc) ([],Ty.dflt T80,0,0,0,Ty.dflt T85,Ty.dflt T86,0,0)=some (.inr (st.sc,D,st.v.1,st.v.2.1,st.v.2.2,W,K,bg)):=a
    have b':j7 (m8 c u sc o9) (List.replicate u.length (0,0,false,0,0,0,0,0),0,0,0,0,[],[],0)=some (.inr (st.hs,(st.sc.length:Int),st.v.1,st.v.2.1,st.v.2.2,st.hist,mk)):=b
    rw [a',b']
    exact ⟨st,D,W,K,bg,mk,g,R,rfl,rfl⟩
theorem a7c {c:Cd} (hf:a1g c) (u:Us) (sc:List Int) :
    (∃ e:Int,e≠0∧a4u c u sc=.inl e∧Q2 c u sc=some ([],[],[],(Ty.dflt T80),0,0,0,(Ty.dflt T85),(Ty.dflt T86),0,e)∧a0M c u sc=some (.inl e)) ∨
    (L5 c=true∧I9 c u=true∧∃ st D W K bg mk,a4u c u sc=.inr st∧Rl c u st D W K bg mk∧Q2 c u sc=some (c,u,st.sc,D,st.v.1,st.v.2.1,st.v.2.2,W,K,bg,0)∧a0M c u sc=some (.inr (st.hs,(st.sc.length:Int),st.v.1,st.v.2.1,st.v.2.2,st.hist,mk))):=by
  unfold Q2 a0M
  rw [a6p hf,b4Y,Option.bind_some,Option.bind_some]
  by_cases h0:a5g c u=0
  · rw [if_neg (by simp [h0]),if_neg (by simp [h0])]
    have hv:=b8g h0
    by_cases h12:sc.length≤12
    · have oE:a4u c u sc=(match goA c u (st0 u) sc with|some st=>.inr st|none=>.inl 2):=by unfold a4u; rw [if_pos h0,if_pos h12]
      rw [oE]
      rcases a9V hv sc h12 [] with ⟨g,a,b⟩|⟨st,D,W,K,bg,mk,g,R,a,b⟩
      · left
        rw [a,b,g]
        exact ⟨2,by decide,rfl,rfl,rfl⟩
      · right
        rw [a,b,g]
        exact ⟨hv.1,hv.2,st,D,W,K,bg,mk,rfl,R,rfl,rfl⟩
    · left
      rw [show a4u c u sc=.inl 2 by unfold a4u; rw [if_pos h0,if_neg h12]]
      unfold C6 K1
      rw [if_pos (decide_eq_true (by omega)),if_pos (decide_eq_true (by omega))]
      exact ⟨2,by decide,rfl,rfl,rfl⟩
  · left
    rw [if_pos (by simp [h0]),if_pos (by simp [h0]),show a4u c u sc=.inl (a5g c u) by unfold a4u; rw [if_neg h0]]
    exact ⟨a5g c u,h0,rfl,rfl,rfl⟩
def a4b (u:Us) (W:El T85) (n:Nat):List Int:=(List.range n).flatMap fun t=>if hasL u W t=true then [(t:Int)] else []
theorem a7r (u:Us) (W:El T85) (n:Nat):a4b u W (n+1)=a4b u W n++(if hasL u W n=true then [(n:Int)] else []):=by
  unfold a4b
  rw [List.range_succ,List.flatMap_append]
  simp
theorem b2R (u:Us) (W:El T85) (n:Nat):(a4b u W n).length≤n:=by
  induction n with
  | zero=>simp [a4b]
  | succ n ih=>rw [a7r,List.length_append]; split<;>simp<;>omega
theorem b2Q {u:Us} (hu:u.length≤2) {W:El T85} {body:List Int×Int→Option (Step (List Int×Int) (List Int))}
    (h:∀ (t:Nat) (l:List Int),t<u.length→l.length≤2→body (l,(t:Int))=some (.next (l++(if hasL u W t=true then [(t:Int)] else []),(t:Int)+1))) (hd:∀ l,body (l,(u.length:Int))=some (.done l)):j7 body ([],0)=some (a4b u W u.length):=by
  obtain ⟨r,e,hr⟩:=b8v (S:=List Int) (R:=List Int) u (fun k l=>l=a4b u W k) (fun l=>l=a4b u W u.length) (body:=body) (s0:=[]) rfl
    (fun k x l hk hI=>by
      have hlt:=(List.getElem?_eq_some_iff.1 hk).1
      subst hI
      have:=b2R u W k
      exact .inl ⟨_,h k _ hlt (by omega),(a7r u W k).symm⟩)
    (fun l hI=>⟨l,hd l,hI⟩)
  rw [e,hr]
theorem a3D {α β:Type} {f g:α→List β}:∀ {l:List α},(∀ a∈l,f a=g a)→l.flatMap f=l.flatMap g
  | [],_=>rfl
  | a::r,h=>by rw [List.flatMap_cons,List.flatMap_cons,h a (List.mem_cons_self),a3D fun b hb=>h b (List.mem_cons_of_mem _ hb)]
def D1 (u:Us) (st:St):List Int:=(List.range u.length).flatMap fun t=>if a1V u st t=true then [(t:Int)] else []
theorem b4p {p:Cd} {u:Us} {st:St} {D:El T80} {W:El T85} {K:El T86} {bg:Int} {mk:List Int} (R:Rl p u st D W K bg mk):a4b u W u.length=D1 u st:=by
  unfold a4b D1
  refine a3D fun t ht=>?_
  rw [a6N R (List.mem_range.1 ht)]
theorem a5Z {p:Cd} {u:Us} (hu:I9 p u=true) {st:St} {D:El T80} {W:El T85} {K:El T86} {bg:Int} {mk:List Int} (R:Rl p u st D W K bg mk) (s:List Int) (D':El T80) (v:C3):E7 ((p,u),s,D',v,W,K,bg)=some (D1 u st):=by
  have hul:=O5 hu
  unfold E7
  rw [b2Q hul.2.1 (W:=W) (fun t l ht hl=>by
    unfold P8
    dsimp only
    have:=a4x (p:=p) hul.2.1 s D' v W K bg ht
    rw [if_pos (decide_eq_true (by omega)),this,Option.bind_some]
    cases hasL u W t with
    | true=>rw [if_pos rfl,if_pos rfl,b4 (by omega),b4 (by rw [l4]; omega)]
    | false=>rw [if_neg (by simp),if_neg (by simp),b4 (by rw [l4]; omega),List.append_nil]) (fun l=>by unfold P8; rw [if_neg (by simp)]),Option.bind_some,b4p R]
  rfl
theorem a50 {p:Cd} {u:Us} (hu:I9 p u=true) {st:St} {D:El T80} {W:El T85} {K:El T86} {bg:Int} {mk:List Int} (R:Rl p u st D W K bg mk) (s:List Int) (D':El T80) (v:C3):J3 ((p,u),s,D',v,W,K,bg)=some st.hist:=by
  have h6:=a3R hu R.inv
  have hbg:=R.inv.bg
  unfold J3 a0W
  dsimp only
  rw [b4 (by omega),b4 (by omega),b2W hu R.inv,b4 (by omega)]
  rfl
def b6k {α:Type} (z:α) (f:St→α) (o:Sum Int St):α×Int:=match o with|.inl e=>(z,e)|.inr st=>(f st,0)
theorem b2a {c:Cd} (hf:a1g c) (u:Us) (sc:List Int):a1k c u sc=some (b6k [] St.hist (a4u c u sc)):=by
  unfold a1k
  rcases a7c hf u sc with ⟨e,he,o,a,b⟩|⟨hc,hu,st,D,W,K,bg,mk,o,R,a,b⟩
  · rw [a,o]
    simp only [Option.bind_some]
    rw [if_pos (by simp [he])]; rfl
  · rw [a,o]
    simp only [Option.bind_some]
    rw [if_neg (by simp),a50 hu R _ _ (st.v.1,st.v.2.1,st.v.2.2)]
    rfl
theorem b0w {c:Cd} (hf:a1g c) (u:Us) (sc:List Int):X3 c u sc=some (b6k [] (D1 u) (a4u c u sc)):=by
  unfold X3
  rcases a7c hf u sc with ⟨e,he,o,a,b⟩|⟨hc,hu,st,D,W,K,bg,mk,o,R,a,b⟩
  · rw [a,o]
    simp only [Option.bind_some]
    rw [if_pos (by simp [he])]; rfl
  · rw [a,o]
    simp only [Option.bind_some]
    rw [if_neg (by simp),a5Z hu R _ _ (st.v.1,st.v.2.1,st.v.2.2)]; rfl
theorem a8l (u:Us) (hu:u.length≤2) (st:St):(D1 u st).length≤2:=by
  unfold D1
  have:∀ n,((List.range n).flatMap fun t=>if a1V u st t=true then [(t:Int)] else []).length≤n:=fun n=>by
    induction n with
    | zero=>simp
    | succ n ih =>
      rw [List.range_succ,List.flatMap_append,List.length_append]
      simp only [List.flatMap_cons,List.flatMap_nil,List.append_nil]
      generalize ((List.range n).flatMap fun t=>if a1V u st t=true then [(t:Int)] else []).length=q at ih ⊢
      split
      · rw [List.length_singleton]; omega
      · rw [List.length_nil]; omega
  exact Nat.le_trans (this _) hu
theorem a0w:A5=some true:=by
  have hf:a1g [[(1,0,0,0),(5,2,0,1),(2,0,2,0),(7,0,0,0)]]:=fun ls hls l hl=>by
    rw [List.mem_singleton] at hls
    subst hls
    simp only [List.mem_cons,List.not_mem_nil,or_false] at hl
    rcases hl with rfl|rfl|rfl|rfl<;>(unfold b12; simp only [l4]; omega)
  have hr:(b6k [] St.hist (a4u [[(1,0,0,0),(5,2,0,1),(2,0,2,0),(7,0,0,0)]] [[0],[0]] [0,0,1,1,0,0,1,1]):List (Int×Int×Int×Int×Int×Int)×Int)=([(0,0,0,0,1,12),(1,0,0,0,5,16)],0):=by kernel_rfl
  unfold A5
  rw [(b2a hf _ _),hr,Option.bind_some]
  first|rfl|(simp [ck]; done)|decide +kernel
end Go.Proofs.Ytenchhmcjmjlbaa
