import Derived.Test.YtanaeefeggokkaaGreatK6
import Derived.Test.YtanaeefeggokkaaGreatRdr
namespace Go.Proofs.YtanaeefeggokkaaGreat
open Go.RowKit
set_option linter.unusedVariables false
set_option linter.unusedSimpArgs false
theorem exL {α R:Type} (xs:List α) {body:Int→Option (Step Int R)} (h:∀ (k:Nat) (x:α),xs[k]?=some x→body k=some (.next ((k:Int)+1))∨∃ r,body k=some (.done r)) (hd:∃ r,body xs.length=some (.done r)):∃ r,g9 body 0=some r:=by
  obtain ⟨r,e,_⟩:=b9F (R:=R) xs (fun _=>True) (fun _=>True) (body:=body) trivial (fun k x hk _=>by
    rcases h k x hk with h|⟨r,h⟩
    · exact .inl ⟨h,trivial⟩
    · exact .inr ⟨r,h,trivial⟩) (fun _=>by obtain ⟨r,h⟩:=hd; exact ⟨r,h,trivial⟩)
  exact ⟨r,e⟩
abbrev Sp:Type:=Int×Int×(List (List Int))×(List (List Int))
theorem b9h (z:Sp):∃ b,P0 [z]=some b:=by
  have key:∃ r,g9 (C0 [z]) 0=some r:=by
    refine exL [z] (fun k x hk=>?_) ⟨_,by unfold C0; rw [if_neg (by simp)]⟩;have hk0:k=0:=by
      have:=(List.getElem?_eq_some_iff.1 hk).1;simp at this; exact this
    subst hk0;have hz:x=z:=by simpa using hk.symm
    subst hz;unfold C0;rw [if_pos (by simp),b5 (by simp),b5 (by simp)];simp only [Int.toNat_natCast,List.getD_cons_zero]
    by_cases h1:20<(x.2.2.1.length:Int)
    · rw [if_pos (decide_eq_true h1)]; exact .inr ⟨_,rfl⟩
    · rw [if_neg (by rw [decide_eq_true_eq]; exact h1)]
      by_cases h2:20<(x.2.2.2.length:Int)
      · rw [if_pos (decide_eq_true h2)]; exact .inr ⟨_,rfl⟩
      · rw [if_neg (by rw [decide_eq_true_eq]; exact h2)];have hx0:([x].getD ((0:Nat):Int).toNat (0,0,[],[]))=x:=rfl
        obtain ⟨r2,e2⟩:=exL x.2.2.1 (body:=B8 [x] ((0:Nat):Int)) (fun j y hj=>by
          obtain ⟨hlt,hik⟩:=a0j (V3 (n:=20) (by omega)) hj;unfold B8;rw [hx0,if_pos (decide_eq_true (by omega)),b5 (by omega),b5 (by omega)]
          split
          · exact .inr ⟨_,rfl⟩
          · rw [b5 hik]; exact .inl rfl) ⟨_,by unfold B8; rw [hx0,if_neg (by simp)]⟩
        rw [e2,Option.bind_some]
        cases r2 with
        | inl _=>exact .inr ⟨_,rfl⟩
        | inr _ =>
          obtain ⟨r3,e3⟩:=exL x.2.2.2 (body:=B7 [x] ((0:Nat):Int)) (fun j y hj=>by
            obtain ⟨hlt,hik⟩:=a0j (V3 (n:=20) (by omega)) hj;unfold B7;rw [hx0,if_pos (decide_eq_true (by omega)),b5 (by omega),b5 (by omega)]
            split
            · exact .inr ⟨_,rfl⟩
            · rw [b5 hik]; exact .inl rfl) ⟨_,by unfold B7; rw [hx0,if_neg (by simp)]⟩
          simp only;unfold O8;rw [e3,Option.bind_some]
          cases r3 with
          | inl _=>exact .inr ⟨_,rfl⟩
          | inr _ =>
            simp only;unfold O9;rw [b5 (by rw [m5]; omega)];exact .inl rfl
  obtain ⟨r,e⟩:=key;unfold P0;rw [e,Option.bind_some]
  cases r with
  | inl _=>exact ⟨_,rfl⟩
  | inr _=>exact ⟨_,rfl⟩
theorem b5N (x:Sp×Cd×Us) (hc:few x.2.1) (hu:few x.2.2):∃ b,O7 x=some b:=by
  obtain ⟨r,e⟩:=exL x.2.1 (body:=B6 x) (fun j y hj=>by
    obtain ⟨hlt,hik⟩:=a0j hc hj;unfold B6;rw [if_pos (decide_eq_true (by omega)),b5 (by omega),b5 (by omega)]
    split
    · exact .inr ⟨_,rfl⟩
    · rw [b5 hik]; exact .inl rfl) ⟨_,by unfold B6; rw [if_neg (by simp)]⟩
  unfold O7;rw [e,Option.bind_some]
  cases r with
  | inl _=>exact ⟨_,rfl⟩
  | inr _ =>
    simp only;unfold O6
    obtain ⟨r2,e2⟩:=exL x.2.2 (body:=B5 x) (fun j y hj=>by
      obtain ⟨hlt,hik⟩:=a0j hu hj;unfold B5;rw [if_pos (decide_eq_true (by omega)),b5 (by omega),b5 (by omega)]
      split
      · exact .inr ⟨_,rfl⟩
      · rw [b5 hik]; exact .inl rfl) ⟨_,by unfold B5; rw [if_neg (by simp)]⟩
    rw [e2,Option.bind_some]
    cases r2 with
    | inl _=>exact ⟨_,rfl⟩
    | inr _ =>
      simp only;unfold O5;obtain ⟨b,e3⟩:=b9h x.1;rw [e3,Option.bind_some]
      split
      · exact ⟨_,rfl⟩
      · split
        · exact ⟨_,rfl⟩
        · exact ⟨_,rfl⟩
/-! ### What both sides play -/
def a5f (c:Cd) (u:Us) (sc:List Int):Sum Int St :=
  if a6M c u=0 then (if sc.length≤12 then (match goA c u (st0 u) sc with|some st=>.inr st|none=>.inl 2) else .inl 2) else .inl (a6M c u)
theorem b9t {c:Cd} {u:Us} (h0:a6M c u=0):K1 c=true∧J9 c u=true:=by
  unfold a6M at h0
  cases hc:K1 c with
  | false=>rw [hc] at h0; simp at h0
  | true =>
    cases hu:J9 c u with
    | false=>rw [hc,hu] at h0; simp at h0
    | true=>exact ⟨rfl,rfl⟩
theorem b0b {c:Cd} {u:Us} {sc:List Int} {st:St} (h:goA c u (st0 u) sc=some st):st.sc=sc:=by
  have:=b5Y h;rw [this]; rfl
theorem b5B {c:Cd} {u:Us} (hv:K1 c=true∧J9 c u=true) (sc:List Int) (h12:sc.length≤12) :
    (goA c u (st0 u) sc=none∧D3 (c,u) sc=some ([],[],[],(Ty.dflt T72),0,0,0,(Ty.dflt T77),(Ty.dflt T78),0,false)) ∨
    ∃ st D W K bg mk,goA c u (st0 u) sc=some st∧Rl c u st D W K bg mk∧D3 (c,u) sc=some (c,u,st.sc,D,st.v.1,st.v.2.1,st.v.2.2,W,K,bg,true):=by
  unfold D3;rw [if_neg (by rw [decide_eq_true_eq]; omega)];have B:=b5C hv.1 hv.2 sc h12 sc.length (st0 u) (by simp [st0]) (by simp [st0]) (by simp [st0]) (Ty.dflt T72) _ _ 0 _ (b0h hv.2);have e0:sc.drop (st0 u).sc.length=sc:=rfl;rw [e0] at B;rcases B with ⟨g,a⟩|⟨st,D,W,K,bg,mk,g,R,a⟩
  · left
    have a':g9 (l4 (c,u) sc) ([],Ty.dflt T72,0,0,0,Ty.dflt T77,Ty.dflt T78,0,0)=some (.inl ()):=a;rw [a'];exact ⟨g,rfl⟩
  · right
    have a':g9 (l4 (c,u) sc) ([],Ty.dflt T72,0,0,0,Ty.dflt T77,Ty.dflt T78,0,0)=some (.inr (st.sc,D,st.v.1,st.v.2.1,st.v.2.2,W,K,bg)):=a;rw [a'];exact ⟨st,D,W,K,bg,mk,g,R,rfl⟩
theorem b7M {c:Cd} {u:Us} {sc:List Int} (h0:a6M c u=0) (h12:sc.length≤12):a5f c u sc=(match goA c u (st0 u) sc with|some st=>.inr st|none=>.inl 2):=by unfold a5f; rw [if_pos h0,if_pos h12]
theorem b21 {c:Cd} (hf:a2t c) (u:Us) (sc:List Int) :
    (∃ e:Int,e≠0∧a5f c u sc=.inl e∧P4 c u sc=some ([],[],[],(Ty.dflt T72),0,0,0,(Ty.dflt T77),(Ty.dflt T78),0,e)) ∨
    (K1 c=true∧J9 c u=true∧∃ st D W K bg mk,a5f c u sc=.inr st∧Rl c u st D W K bg mk∧P4 c u sc=some (c,u,st.sc,D,st.v.1,st.v.2.1,st.v.2.2,W,K,bg,0)):=by
  unfold P4;rw [a7d hf,Option.bind_some]
  by_cases h0:a6M c u=0
  · rw [if_neg (by simp [h0])];have hv:=b9t h0
    by_cases h12:sc.length≤12
    · rw [b7M h0 h12];rcases b5B hv sc h12 with ⟨g,a⟩|⟨st,D,W,K,bg,mk,g,R,a⟩
      · left
        rw [a,g];exact ⟨2,by decide,rfl,rfl⟩
      · right
        rw [a,g];exact ⟨hv.1,hv.2,st,D,W,K,bg,mk,rfl,R,rfl⟩
    · left
      rw [show a5f c u sc=.inl 2 by unfold a5f; rw [if_pos h0,if_neg h12]];unfold D3;rw [if_pos (decide_eq_true (by omega))];exact ⟨2,by decide,rfl,rfl⟩
  · left
    rw [if_pos (by simp [h0]),show a5f c u sc=.inl (a6M c u) by unfold a5f; rw [if_neg h0]];exact ⟨a6M c u,h0,rfl,rfl⟩
def a4Z (u:Us) (W:El T77) (n:Nat):List Int:=(List.range n).flatMap fun t=>if hasL u W t=true then [(t:Int)] else []
theorem a8h (u:Us) (W:El T77) (n:Nat):a4Z u W (n+1)=a4Z u W n++(if hasL u W n=true then [(n:Int)] else []):=by
  unfold a4Z;rw [List.range_succ,List.flatMap_append];simp
theorem b4c (u:Us) (W:El T77) (n:Nat):(a4Z u W n).length≤n:=by
  induction n with
  | zero=>simp [a4Z]
  | succ n ih=>rw [a8h,List.length_append]; split<;>simp<;>omega
theorem b4b {u:Us} (hu:u.length≤2) {W:El T77} {body:List Int×Int→Option (Step (List Int×Int) (List Int))}
    (h:∀ (t:Nat) (l:List Int),t<u.length→l.length≤2→body (l,(t:Int))=some (.next (l++(if hasL u W t=true then [(t:Int)] else []),(t:Int)+1))) (hd:∀ l,body (l,(u.length:Int))=some (.done l)):g9 body ([],0)=some (a4Z u W u.length):=by
  obtain ⟨r,e,hr⟩:=b5v (S:=List Int) (R:=List Int) u (fun k l=>l=a4Z u W k) (fun l=>l=a4Z u W u.length) (body:=body) (s0:=[]) rfl
    (fun k x l hk hI=>by
      have hlt:=(List.getElem?_eq_some_iff.1 hk).1;subst hI;have:=b4c u W k
      exact .inl ⟨_,h k _ hlt (by omega),(a8h u W k).symm⟩)
    (fun l hI=>⟨l,hd l,hI⟩)
  rw [e,hr]
theorem a4q {α β:Type} {f g:α→List β}:∀ {l:List α},(∀ a∈l,f a=g a)→l.flatMap f=l.flatMap g
  | [],_=>rfl
  | a::r,h=>by rw [List.flatMap_cons,List.flatMap_cons,h a (List.mem_cons_self),a4q fun b hb=>h b (List.mem_cons_of_mem _ hb)]
def v5 (u:Us) (st:St):List Int:=(List.range u.length).flatMap fun t=>if a2J u st t=true then [(t:Int)] else []
theorem b5L {p:Cd} {u:Us} {st:St} {D:El T72} {W:El T77} {K:El T78} {bg:Int} {mk:List Int} (R:Rl p u st D W K bg mk):a4Z u W u.length=v5 u st:=by
  unfold a4Z v5;refine a4q fun t ht=>?_;rw [a7C R (List.mem_range.1 ht)]
theorem a3d {p:Cd} {u:Us} (hu:J9 p u=true) {st:St} {D:El T72} {W:El T77} {K:El T78} {bg:Int} {mk:List Int} (R:Rl p u st D W K bg mk) (s:List Int) (D':El T72) (v:C3):C5 ((p,u),s,D',v,W,K,bg)=some (v5 u st):=by
  have hul:=Q2 hu;unfold C5
  rw [b4b hul.2.1 (W:=W) (fun t l ht hl=>by
    unfold R4;dsimp only;have:=a8q (p:=p) hul.2.1 s D' v W K bg ht;rw [if_pos (decide_eq_true (by omega)),this,Option.bind_some]
    cases hasL u W t with
    | true=>rw [if_pos rfl,if_pos rfl,b5 (by omega),b5 (by rw [m5]; omega)]
    | false=>rw [if_neg (by simp),if_neg (by simp),b5 (by rw [m5]; omega),List.append_nil]) (fun l=>by unfold R4; rw [if_neg (by simp)]),Option.bind_some,b5L R]
  rfl
theorem a6P {p:Cd} {u:Us} (hu:J9 p u=true) {st:St} {D:El T72} {W:El T77} {K:El T78} {bg:Int} {mk:List Int} (R:Rl p u st D W K bg mk) (s:List Int) (D':El T72) (v:C3):F4 ((p,u),s,D',v,W,K,bg)=some st.hist:=by
  have h6:=a2p hu R.inv;have hbg:=R.inv.bg;unfold F4 a1x;dsimp only;rw [b5 (by omega),b5 (by omega),b4h hu R.inv,b5 (by omega)];rfl
def b7F {α:Type} (z:α) (f:St→α) (o:Sum Int St):α×Int:=match o with|.inl e=>(z,e)|.inr st=>(f st,0)
theorem b3t {c:Cd} (hf:a2t c) (u:Us) (sc:List Int):a1Z c u sc=some (b7F [] St.hist (a5f c u sc)):=by
  unfold a1Z;rcases b21 hf u sc with ⟨e,he,o,a⟩|⟨hc,hu,st,D,W,K,bg,mk,o,R,a⟩
  · rw [a,o];simp only [Option.bind_some];rw [if_pos (by simp [he])]; rfl
  · rw [a,o];simp only [Option.bind_some];rw [if_neg (by simp),a6P hu R _ _ (st.v.1,st.v.2.1,st.v.2.2)];rfl
theorem b1E {c:Cd} (hf:a2t c) (u:Us) (sc:List Int):a0n c u sc=some (b7F [] (v5 u) (a5f c u sc)):=by
  unfold a0n;rcases b21 hf u sc with ⟨e,he,o,a⟩|⟨hc,hu,st,D,W,K,bg,mk,o,R,a⟩
  · rw [a,o];simp only [Option.bind_some];rw [if_pos (by simp [he])]; rfl
  · rw [a,o];simp only [Option.bind_some];rw [if_neg (by simp),a3d hu R _ _ (st.v.1,st.v.2.1,st.v.2.2)]; rfl
theorem a9g (u:Us) (hu:u.length≤2) (st:St):(v5 u st).length≤2:=by
  unfold v5;have:∀ n,((List.range n).flatMap fun t=>if a2J u st t=true then [(t:Int)] else []).length≤n:=fun n=>by
    induction n with
    | zero=>simp
    | succ n ih =>
      rw [List.range_succ,List.flatMap_append,List.length_append];simp only [List.flatMap_cons,List.flatMap_nil,List.append_nil];generalize ((List.range n).flatMap fun t=>if a2J u st t=true then [(t:Int)] else []).length=q at ih ⊢
      split
      · rw [List.length_singleton]; omega
      · rw [List.length_nil]; omega
  exact Nat.le_trans (this _) hu
theorem a05:q9=some true:=by
  have hf:a2t [[(1,0,0,0),(5,2,0,1),(2,0,2,0),(7,0,0,0)]]:=fun ls hls l hl=>by
    rw [List.mem_singleton] at hls;subst hls;simp only [List.mem_cons,List.not_mem_nil,or_false] at hl;rcases hl with rfl|rfl|rfl|rfl<;>(unfold b3k; simp only [m5]; omega)
  have hr:(b7F [] St.hist (a5f [[(1,0,0,0),(5,2,0,1),(2,0,2,0),(7,0,0,0)]] [[0],[0]] [0,0,1,1,0,0,1,1]):List (Int×Int×Int×Int×Int×Int)×Int)=([(0,0,0,0,1,12),(1,0,0,0,5,16)],0):=by kernel_rfl
  unfold q9;rw [(b3t hf _ _),hr,Option.bind_some]
  first|rfl|(simp [ck]; done)|decide +kernel
end Go.Proofs.YtanaeefeggokkaaGreat
