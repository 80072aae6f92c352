import Derived.Test.YtenchhmcjmjlbaaK14
import Derived.Test.YtenchhmcjmjlbaaKl
namespace Go.Proofs.Ytenchhmcjmjlbaa
open Go.RowKit
set_option linter.unusedVariables false
set_option linter.unusedSimpArgs false
set_option maxRecDepth 10000
/-! ### Places that are reached -/
theorem b2Z {u:Us} {st:St} {x:Int} (h:rB x (u.length:Int)=true∧a1W u st x.toNat=true):x∈C5 u st:=by
  have hb:=m7.1 h.1
  exact List.mem_flatMap.2 ⟨x.toNat,List.mem_range.2 (by omega),by rw [if_pos h.2,show (x.toNat:Int)=x by omega]; exact List.mem_singleton.2 rfl⟩
theorem a9l {p:Cd} {u:Us}:∀ (k:Nat) (st st':St),st'∈a0B p u k st→∃ l,goA p u st l=some st'∧l.length≤k∧(C5 u st'=[]∨l.length=k)
  | 0,st,st',h=>⟨[],by rw [List.mem_singleton.1 h]; rfl,Nat.le_refl _,.inr rfl⟩
  | k+1,st,st',h=>by
    unfold a0B at h
    split at h
    · rename_i c
      exact ⟨[],by rw [List.mem_singleton.1 h]; rfl,by simp,.inl (by rw [List.mem_singleton.1 h]; exact c)⟩
    · obtain ⟨x,hx,hm⟩:=List.mem_flatMap.1 h
      obtain ⟨l,h1,h2,h3⟩:=a9l k _ st' hm
      exact ⟨x::l,by rw [a3G,if_pos (a5Q hx)]; exact h1,by simp; omega,by rcases h3 with q|q; exact .inl q; exact .inr (by simp; omega)⟩
theorem b2c (p:Cd) (u:Us):∀ (k:Nat) (st:St),∃ st',st'∈a0B p u k st
  | 0,st=>⟨st,List.mem_singleton.2 rfl⟩
  | k+1,st=>by
    unfold a0B
    split
    · exact ⟨st,List.mem_singleton.2 rfl⟩
    · rename_i c
      cases hL:C5 u st with
      | nil=>exact absurd hL c
      | cons x r =>
        obtain ⟨st',h⟩:=b2c p u k (M3 p u st x.toNat)
        exact ⟨st',List.mem_flatMap.2 ⟨x,List.mem_cons_self,h⟩⟩
theorem b15 {p:Cd} {u:Us}:∀ (l:List Int) (k:Nat) (st st':St),goA p u st l=some st'→l.length≤k→∃ st2∈a0B p u k st,∃ r,goA p u st' r=some st2
  | [],k,st,st',h,_=>by
    injection h with h
    subst h
    obtain ⟨st2,h2⟩:=b2c p u k st
    obtain ⟨r,h3,_⟩:=a9l k st st2 h2
    exact ⟨st2,h2,r,h3⟩
  | x::l,0,st,st',h,hk=>by simp at hk
  | x::l,k+1,st,st',h,hk=>by
    rw [a3G] at h
    split at h
    · rename_i c
      obtain ⟨st2,h2,r,h3⟩:=b15 l k _ st' h (by simp at hk; omega)
      have hx:=b2Z c
      refine ⟨st2,?_,r,h3⟩
      unfold a0B
      rw [if_neg (fun e=>by rw [e] at hx; cases hx)]
      exact List.mem_flatMap.2 ⟨x,hx,h2⟩
    · cases h
/-! ### Linearisable histories -/
def a3s (s:SpT) (h:ZH):Bool:=decide (0<b3c [s] h)
theorem b7m {s:SpT} (h:(a0t s).ok=true):a0Y [s]=true:=by
  unfold a0Y
  have:a4d 1 (fun k=>(a0t (([s]:List SpT).getD k (0,0,[],[]))).ok)=true:=D0.2 fun k hk=>by
    have:k=0:=by omega
    subst this; exact h
  simp only [List.length_singleton]
  rw [this]; rfl
theorem b12 {p:Cd} {u:Us} {s:SpT} (ho:s.2.1=(p.length:Int)) {hs:List Hd} {hist:ZH} {a b:Int} (H:HI p u hs hist a b):a2r [s] hist=true:=by
  unfold a2r
  refine D0.2 fun k hk=>?_
  have O:=H.ok k hk
  unfold b0x
  rw [O.ob]
  have:=O.op
  simp only [Bool.and_eq_true,decide_eq_true_eq]
  exact ⟨by simp,by rw [← ho] at this; exact this.2⟩
theorem b14 {p:Cd} {u:Us} (hp:L5 p=true) (hu:J0 p u=true) {st:St} (G:Good p u st) (h12:st.sc.length≤12):okH st.hist=true:=by
  obtain ⟨_,_,_,_,_,R⟩:=G.rl
  exact b8F (a3e hp).2 (M2 hu).2.1 G.hi (a3W hu R.inv) (by omega) (by omega)
theorem b1l {p:Cd} {u:Us} (hp:L5 p=true) (hu:J0 p u=true) {s:SpT} (hs:okS s) (hk:(a0t s).ok=true) (ho:s.2.1=(p.length:Int)) {st:St} (G:Good p u st) (h12:st.sc.length≤12):K8 [s] st.hist=some (a3s s st.hist,0) :=
  b3N (fun z hz=>by rw [List.mem_singleton.1 hz]; exact hs) (by simp) (b7m hk) (b14 hp hu G h12) (b12 ho G.hi)
theorem b77 {p:Cd} {u:Us} (hp:L5 p=true) (hu:J0 p u=true) {s:SpT} (hk:(a0t s).ok=true) (ho:s.2.1=(p.length:Int)) {st st':St} {l:List Int} (G:Good p u st) (h:goA p u st l=some st') (h12:st.sc.length+l.length≤12) (hl:a3s s st'.hist=true):a3s s st.hist=true:=by
  obtain ⟨G',hu'⟩:=a31 hp hu h G h12
  have e:=hu' (st.sc.length:Int) (by omega) (Int.le_refl _)
  rw [b2u G.hi] at e
  have hsc:=a9h h
  have:=b5J (m:=2*(st.sc.length:Int)) (b7m hk) (b14 hp hu G' (by rw [hsc,List.length_append]; exact h12)) (b12 ho G'.hi) (of_decide_eq_true hl)
  rw [e] at this
  exact decide_eq_true this
/-! ### The first schedule that breaks -/
def a76 (s:SpT) (c:Cd) (u:Us) (n:Int):Int :=
  if L5 c=true then (if (a0t s).ok=true∧s.2.1=(c.length:Int) then (if J0 c u=true then (if rB n 13=true then 0 else 2) else 81) else 10) else 80
def a6J (s:SpT) (c:Cd) (u:Us) (n:Nat):List Int×Int :=
  match (a0B c u n (st0 u)).find? (fun st=>!a3s s st.hist) with
  | some st=>(st.sc,0)
  | none=>([],5)
theorem a8B {S R:Type} (p:S→Bool) (f:S→R):∀ (L:List S),a20 (S:=Unit) (R:=R) (fun st _=>some (if p st=true then .done (f st) else .next ())) L ()=some (match L.find? p with|some st=>.inr (f st)|none=>.inl ())
  | []=>rfl
  | a::L=>by
    unfold a20
    rw [List.find?_cons]
    cases h:p a with
    | true=>rfl
    | false=>simp only [Bool.false_eq_true,if_false,Option.bind_some]; exact a8B p f L
theorem a7E {p:Cd} {u:Us} (hp:L5 p=true) (hu:J0 p u=true) {n:Nat} (hn:n≤12) {st:St} (h:st∈a0B p u n (st0 u)):Good p u st∧st.sc.length≤n∧goA p u (st0 u) st.sc=some st:=by
  obtain ⟨l,h1,h2,_⟩:=a9l n _ _ h
  have hsc:=a9i h1
  refine ⟨(a31 hp hu h1 (b0s hu) (by show 0+l.length≤12; omega)).1,by rw [hsc]; exact h2,by rw [hsc]; exact h1⟩
theorem b2I {c:Cd} (hf:a1h c) (hc:L5 c=true) (u:Us) (n:Int):T2 c u n=some (if J0 c u=true then (if rB n 13=true then .inr () else .inl 2) else .inl 81):=by
  unfold T2
  rw [a6v hf,Option.bind_some]
  unfold a5n
  rw [hc,if_pos rfl]
  cases hu:J0 c u with
  | false=>rfl
  | true =>
    rw [if_pos rfl,if_pos rfl,if_neg (by simp),X1,Option.bind_some]
    cases hb:rB n 13 with
    | false=>rfl
    | true=>rfl
theorem b0S {s:SpT} (hs:okS s) {c:Cd} (hf:a1h c) (u:Us) (n:Int):a0i s c u n=some (if a76 s c u n=0 then a6J s c u n.toNat else ([],a76 s c u n)):=by
  unfold a0i a76
  rw [a5s hs hf,Option.bind_some]
  cases hc:L5 c with
  | false=>rfl
  | true =>
    rw [if_pos rfl,if_pos rfl]
    by_cases hsp:(a0t s).ok=true∧s.2.1=(c.length:Int)
    · rw [if_pos hsp,if_pos hsp,if_neg (by simp),b2I hf hc,Option.bind_some]
      cases hu:J0 c u with
      | false=>rfl
      | true =>
        rw [if_pos rfl,if_pos rfl]
        cases hb:rB n 13 with
        | false=>rfl
        | true =>
          have hn:=m7.1 hb
          obtain ⟨k,rfl⟩:∃ k:Nat,n=(k:Int):=⟨n.toNat,by omega⟩
          rw [if_pos rfl,if_pos rfl,if_pos rfl,Int.toNat_natCast]
          dsimp only
          have R:=fun (x:Sum Unit (List Int))=>b6q (x:=x) hc hu (S:=Unit) (R:=List Int) (O2 s) (fun st _=>some (if (!a3s s st.hist)=true then .done st.sc else .next ())) k (by omega) (fun y st z hy G _ hle=>by
            obtain ⟨D,W,K,bg,mk,rfl,Rr⟩:=hy
            unfold O2 M1
            rw [a57 hu Rr,Option.bind_some,b1l hc hu hs hsp.1 hsp.2 G (by omega),Option.bind_some,Option.bind_some]
            dsimp only
            cases a3s s st.hist<;>rfl) ()
          have e:=R _ (a8B (fun st=>!a3s s st.hist) St.sc _)
          rw [e]
          unfold a6J
          cases (a0B c u k (st0 u)).find? (fun st=>!a3s s st.hist)<;>rfl
    · rw [if_neg hsp,if_neg hsp,if_pos (by simp),if_neg (by simp)]
theorem b41 (s:SpT) (c:Cd) (u:Us) (n:Nat):(a6J s c u n).2=0∨(a6J s c u n).2=5:=by
  unfold a6J
  split
  · exact .inl rfl
  · exact .inr rfl
theorem b0P {s:SpT} (hs:okS s) {c:Cd} (hf:a1h c) (u:Us) (n:Int):a0h s c u n=some (if a76 s c u n=0 then (decide ((a6J s c u n.toNat).2=5),0) else (false,a76 s c u n)):=by
  unfold a0h
  rw [b0S hs hf,Option.bind_some]
  by_cases h:a76 s c u n=0
  · rw [if_pos h,if_pos h]
    rcases b41 s c u n.toNat with q|q
    · rw [q,if_neg (by simp)]; simp
    · rw [q,if_pos (by simp)]; simp
  · rw [if_neg h,if_neg h]
    dsimp only
    have:a76 s c u n≠5:=by unfold a76; split<;>(try split)<;>(try split)<;>(try split)<;>omega
    rw [if_neg (by rw [decide_eq_true_eq]; exact this)]
theorem a8Q {s:SpT} (hs:okS s) {c:Cd} (hf:a1h c) (u:Us) (sc:List Int):Q3 s c u sc=some (if L5 c=true then (if (a0t s).ok=true∧s.2.1=(c.length:Int) then b2K false (fun st=>!a3s s st.hist) (a3q c u sc) else (false,10)) else (false,80)):=by
  unfold Q3
  rw [a5s hs hf,Option.bind_some]
  cases hc:L5 c with
  | false=>rfl
  | true =>
    rw [if_pos rfl,if_pos rfl]
    by_cases hsp:(a0t s).ok=true∧s.2.1=(c.length:Int)
    · rw [if_pos hsp,if_pos hsp,if_neg (by simp)]
      rcases a7i hf u sc with ⟨e,he,o,a,b⟩|⟨hc',hu,st,D,W,K,bg,mk,o,R,a,b⟩
      · rw [a,o,Option.bind_some,if_pos (by simp [he])]
        rfl
      · have hg:goA c u (st0 u) sc=some st∧sc.length≤12:=by
          unfold a3q at o
          split at o
          · split at o
            · rename_i h12
              split at o
              · rename_i st' e; injection o with o; subst o; exact ⟨e,h12⟩
              · cases o
            · cases o
          · cases o
        have G:=(a31 hc hu hg.1 (b0s hu) (by show 0+sc.length≤12; omega)).1
        rw [a,o,Option.bind_some]
        dsimp only
        rw [if_neg (by simp)]
        unfold M1
        rw [a57 hu R _ _ (st.v.1,st.v.2.1,st.v.2.2),Option.bind_some,b1l hc hu hs hsp.1 hsp.2 G (by rw [a9i hg.1]; exact hg.2),Option.bind_some,Option.bind_some]
        rfl
    · rw [if_neg hsp,if_neg hsp,if_pos (by simp)]
end Go.Proofs.Ytenchhmcjmjlbaa
