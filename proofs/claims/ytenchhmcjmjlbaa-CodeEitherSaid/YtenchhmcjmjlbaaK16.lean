import Derived.Test.YtenchhmcjmjlbaaK14
import Derived.Test.YtenchhmcjmjlbaaKl
namespace Go.Proofs.Ytenchhmcjmjlbaa
open Go.RowKit
set_option linter.unusedVariables false
set_option linter.unusedSimpArgs false
set_option maxRecDepth 10000
/-! ### Places that are reached -/
theorem b2S {u:Us} {st:St} {x:Int} (h:rB x (u.length:Int)=true∧a1V u st x.toNat=true):x∈D1 u st:=by
  have hb:=m5.1 h.1
  exact List.mem_flatMap.2 ⟨x.toNat,List.mem_range.2 (by omega),by rw [if_pos h.2,show (x.toNat:Int)=x by omega]; exact List.mem_singleton.2 rfl⟩
theorem a9f {p:Cd} {u:Us}:∀ (k:Nat) (st st':St),st'∈a0z p u k st→∃ l,goA p u st l=some st'∧l.length≤k∧(D1 u st'=[]∨l.length=k)
  | 0,st,st',h=>⟨[],by rw [List.mem_singleton.1 h]; rfl,Nat.le_refl _,.inr rfl⟩
  | k+1,st,st',h=>by
    unfold a0z at h
    split at h
    · rename_i c
      exact ⟨[],by rw [List.mem_singleton.1 h]; rfl,by simp,.inl (by rw [List.mem_singleton.1 h]; exact c)⟩
    · obtain ⟨x,hx,hm⟩:=List.mem_flatMap.1 h
      obtain ⟨l,h1,h2,h3⟩:=a9f k _ st' hm
      exact ⟨x::l,by rw [a2p,if_pos (a5J hx)]; exact h1,by simp; omega,by rcases h3 with q|q; exact .inl q; exact .inr (by simp; omega)⟩
theorem b15 (p:Cd) (u:Us):∀ (k:Nat) (st:St),∃ st',st'∈a0z p u k st
  | 0,st=>⟨st,List.mem_singleton.2 rfl⟩
  | k+1,st=>by
    unfold a0z
    split
    · exact ⟨st,List.mem_singleton.2 rfl⟩
    · rename_i c
      cases hL:D1 u st with
      | nil=>exact absurd hL c
      | cons x r =>
        obtain ⟨st',h⟩:=b15 p u k (M2 p u st x.toNat)
        exact ⟨st',List.mem_flatMap.2 ⟨x,List.mem_cons_self,h⟩⟩
theorem b1Z {p:Cd} {u:Us}:∀ (l:List Int) (k:Nat) (st st':St),goA p u st l=some st'→l.length≤k→∃ st2∈a0z p u k st,∃ r,goA p u st' r=some st2
  | [],k,st,st',h,_=>by
    injection h with h
    subst h
    obtain ⟨st2,h2⟩:=b15 p u k st
    obtain ⟨r,h3,_⟩:=a9f k st st2 h2
    exact ⟨st2,h2,r,h3⟩
  | x::l,0,st,st',h,hk=>by simp at hk
  | x::l,k+1,st,st',h,hk=>by
    rw [a2p] at h
    split at h
    · rename_i c
      obtain ⟨st2,h2,r,h3⟩:=b1Z l k _ st' h (by simp at hk; omega)
      have hx:=b2S c
      refine ⟨st2,?_,r,h3⟩
      unfold a0z
      rw [if_neg (fun e=>by rw [e] at hx; cases hx)]
      exact List.mem_flatMap.2 ⟨x,hx,h2⟩
    · cases h
/-! ### Linearisable histories -/
def a3p (s:SpT) (h:ZH):Bool:=decide (0<b25 [s] h)
theorem b7g {s:SpT} (h:(a0r s).ok=true):a0X [s]=true:=by
  unfold a0X
  have:a35 1 (fun k=>(a0r (([s]:List SpT).getD k (0,0,[],[]))).ok)=true:=C8.2 fun k hk=>by
    have:k=0:=by omega
    subst this; exact h
  simp only [List.length_singleton]
  rw [this]; rfl
theorem b1W {p:Cd} {u:Us} {s:SpT} (ho:s.2.1=(p.length:Int)) {hs:List Hd} {hist:ZH} {a b:Int} (H:HI p u hs hist a b):a2q [s] hist=true:=by
  unfold a2q
  refine C8.2 fun k hk=>?_
  have O:=H.ok k hk
  unfold b0q
  rw [O.ob]
  have:=O.op
  simp only [Bool.and_eq_true,decide_eq_true_eq]
  exact ⟨by simp,by rw [← ho] at this; exact this.2⟩
theorem b1Y {p:Cd} {u:Us} (hp:L5 p=true) (hu:I9 p u=true) {st:St} (G:Good p u st) (h12:st.sc.length≤12):okH st.hist=true:=by
  obtain ⟨_,_,_,_,_,R⟩:=G.rl
  exact b8z (a3d hp).2 (O5 hu).2.1 G.hi (a3R hu R.inv) (by omega) (by omega)
theorem b1f {p:Cd} {u:Us} (hp:L5 p=true) (hu:I9 p u=true) {s:SpT} (hs:okS s) (hk:(a0r s).ok=true) (ho:s.2.1=(p.length:Int)) {st:St} (G:Good p u st) (h12:st.sc.length≤12):K8 [s] st.hist=some (a3p s st.hist,0) :=
  b3G (fun z hz=>by rw [List.mem_singleton.1 hz]; exact hs) (by simp) (b7g hk) (b1Y hp hu G h12) (b1W ho G.hi)
theorem b71 {p:Cd} {u:Us} (hp:L5 p=true) (hu:I9 p u=true) {s:SpT} (hk:(a0r s).ok=true) (ho:s.2.1=(p.length:Int)) {st st':St} {l:List Int} (G:Good p u st) (h:goA p u st l=some st') (h12:st.sc.length+l.length≤12) (hl:a3p s st'.hist=true):a3p s st.hist=true:=by
  obtain ⟨G',hu'⟩:=a3W hp hu h G h12
  have e:=hu' (st.sc.length:Int) (by omega) (Int.le_refl _)
  rw [b2n G.hi] at e
  have hsc:=a9a h
  have:=b5C (m:=2*(st.sc.length:Int)) (b7g hk) (b1Y hp hu G' (by rw [hsc,List.length_append]; exact h12)) (b1W ho G'.hi) (of_decide_eq_true hl)
  rw [e] at this
  exact decide_eq_true this
/-! ### The first schedule that breaks -/
def a70 (s:SpT) (c:Cd) (u:Us) (n:Int):Int :=
  if L5 c=true then (if (a0r s).ok=true∧s.2.1=(c.length:Int) then (if I9 c u=true then (if rB n 13=true then 0 else 2) else 81) else 10) else 80
def a6D (s:SpT) (c:Cd) (u:Us) (n:Nat):List Int×Int :=
  match (a0z c u n (st0 u)).find? (fun st=>!a3p s st.hist) with
  | some st=>(st.sc,0)
  | none=>([],5)
theorem a8u {S R:Type} (p:S→Bool) (f:S→R):∀ (L:List S),a2Z (S:=Unit) (R:=R) (fun st _=>some (if p st=true then .done (f st) else .next ())) L ()=some (match L.find? p with|some st=>.inr (f st)|none=>.inl ())
  | []=>rfl
  | a::L=>by
    unfold a2Z
    rw [List.find?_cons]
    cases h:p a with
    | true=>rfl
    | false=>simp only [Bool.false_eq_true,if_false,Option.bind_some]; exact a8u p f L
theorem a7y {p:Cd} {u:Us} (hp:L5 p=true) (hu:I9 p u=true) {n:Nat} (hn:n≤12) {st:St} (h:st∈a0z p u n (st0 u)):Good p u st∧st.sc.length≤n∧goA p u (st0 u) st.sc=some st:=by
  obtain ⟨l,h1,h2,_⟩:=a9f n _ _ h
  have hsc:=a9b h1
  refine ⟨(a3W hp hu h1 (b0l hu) (by show 0+l.length≤12; omega)).1,by rw [hsc]; exact h2,by rw [hsc]; exact h1⟩
theorem b2B {c:Cd} (hf:a1g c) (hc:L5 c=true) (u:Us) (n:Int):T1 c u n=some (if I9 c u=true then (if rB n 13=true then .inr () else .inl 2) else .inl 81):=by
  unfold T1
  rw [a6p hf,Option.bind_some]
  unfold a5g
  rw [hc,if_pos rfl]
  cases hu:I9 c u with
  | false=>rfl
  | true =>
    rw [if_pos rfl,if_pos rfl,if_neg (by simp),W9,Option.bind_some]
    cases hb:rB n 13 with
    | false=>rfl
    | true=>rfl
theorem b0M {s:SpT} (hs:okS s) {c:Cd} (hf:a1g c) (u:Us) (n:Int):a0g s c u n=some (if a70 s c u n=0 then a6D s c u n.toNat else ([],a70 s c u n)):=by
  unfold a0g a70
  rw [a5l hs hf,Option.bind_some]
  cases hc:L5 c with
  | false=>rfl
  | true =>
    rw [if_pos rfl,if_pos rfl]
    by_cases hsp:(a0r s).ok=true∧s.2.1=(c.length:Int)
    · rw [if_pos hsp,if_pos hsp,if_neg (by simp),b2B hf hc,Option.bind_some]
      cases hu:I9 c u with
      | false=>rfl
      | true =>
        rw [if_pos rfl,if_pos rfl]
        cases hb:rB n 13 with
        | false=>rfl
        | true =>
          have hn:=m5.1 hb
          obtain ⟨k,rfl⟩:∃ k:Nat,n=(k:Int):=⟨n.toNat,by omega⟩
          rw [if_pos rfl,if_pos rfl,if_pos rfl,Int.toNat_natCast]
          dsimp only
          have R:=fun (x:Sum Unit (List Int))=>b6j (x:=x) hc hu (S:=Unit) (R:=List Int) (O1 s) (fun st _=>some (if (!a3p s st.hist)=true then .done st.sc else .next ())) k (by omega) (fun y st z hy G _ hle=>by
            obtain ⟨D,W,K,bg,mk,rfl,Rr⟩:=hy
            unfold O1 M1
            rw [a50 hu Rr,Option.bind_some,b1f hc hu hs hsp.1 hsp.2 G (by omega),Option.bind_some,Option.bind_some]
            dsimp only
            cases a3p s st.hist<;>rfl) ()
          have e:=R _ (a8u (fun st=>!a3p s st.hist) St.sc _)
          rw [e]
          unfold a6D
          cases (a0z c u k (st0 u)).find? (fun st=>!a3p s st.hist)<;>rfl
    · rw [if_neg hsp,if_neg hsp,if_pos (by simp),if_neg (by simp)]
theorem b4V (s:SpT) (c:Cd) (u:Us) (n:Nat):(a6D s c u n).2=0∨(a6D s c u n).2=5:=by
  unfold a6D
  split
  · exact .inl rfl
  · exact .inr rfl
theorem b0J {s:SpT} (hs:okS s) {c:Cd} (hf:a1g c) (u:Us) (n:Int):a0f s c u n=some (if a70 s c u n=0 then (decide ((a6D s c u n.toNat).2=5),0) else (false,a70 s c u n)):=by
  unfold a0f
  rw [b0M hs hf,Option.bind_some]
  by_cases h:a70 s c u n=0
  · rw [if_pos h,if_pos h]
    rcases b4V s c u n.toNat with q|q
    · rw [q,if_neg (by simp)]; simp
    · rw [q,if_pos (by simp)]; simp
  · rw [if_neg h,if_neg h]
    dsimp only
    have:a70 s c u n≠5:=by unfold a70; split<;>(try split)<;>(try split)<;>(try split)<;>omega
    rw [if_neg (by rw [decide_eq_true_eq]; exact this)]
theorem a8J {s:SpT} (hs:okS s) {c:Cd} (hf:a1g c) (u:Us) (sc:List Int):Q3 s c u sc=some (if L5 c=true then (if (a0r s).ok=true∧s.2.1=(c.length:Int) then b6k false (fun st=>!a3p s st.hist) (a4u c u sc) else (false,10)) else (false,80)):=by
  unfold Q3
  rw [a5l hs hf,Option.bind_some]
  cases hc:L5 c with
  | false=>rfl
  | true =>
    rw [if_pos rfl,if_pos rfl]
    by_cases hsp:(a0r s).ok=true∧s.2.1=(c.length:Int)
    · rw [if_pos hsp,if_pos hsp,if_neg (by simp)]
      rcases a7c hf u sc with ⟨e,he,o,a,b⟩|⟨hc',hu,st,D,W,K,bg,mk,o,R,a,b⟩
      · rw [a,o,Option.bind_some,if_pos (by simp [he])]
        rfl
      · have hg:goA c u (st0 u) sc=some st∧sc.length≤12:=by
          unfold a4u at o
          split at o
          · split at o
            · rename_i h12
              split at o
              · rename_i st' e; injection o with o; subst o; exact ⟨e,h12⟩
              · cases o
            · cases o
          · cases o
        have G:=(a3W hc hu hg.1 (b0l hu) (by show 0+sc.length≤12; omega)).1
        rw [a,o,Option.bind_some]
        dsimp only
        rw [if_neg (by simp)]
        unfold M1
        rw [a50 hu R _ _ (st.v.1,st.v.2.1,st.v.2.2),Option.bind_some,b1f hc hu hs hsp.1 hsp.2 G (by rw [a9b hg.1]; exact hg.2),Option.bind_some,Option.bind_some]
        rfl
    · rw [if_neg hsp,if_neg hsp,if_pos (by simp)]
end Go.Proofs.Ytenchhmcjmjlbaa
