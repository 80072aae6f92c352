import Derived.Test.YtenchhmcjmjlbaaK8
import Derived.Test.YtenchhmcjmjlbaaKs
namespace Go.Proofs.Ytenchhmcjmjlbaa
open Go.RowKit
set_option linter.unusedVariables false
set_option linter.unusedSimpArgs false
set_option maxRecDepth 10000
theorem b5Y {p:Cd} {u:Us} (hp:J7 p=true) (hu:M4 p u=true) {st:St} {D:El T80} {W:El T85} {K:El T86} {bg:Int} {mk:List Int} (R:Rl p u st D W K bg mk) {t:Nat} (ht:t<u.length) (hL:S2 u st t=true) {n:Int} (hn:0≤n∧n≤100) :
    ∃ W' K' bg' mk',Inv p u W' K' bg' st.v (a3J u st.hs st.hist t n).1 (a3J u st.hs st.hist t n).2 mk'∧((a3J u st.hs st.hist t n).1.getD t (0,0,false,0,0,0,0,0)).2.2.1=true:=by
  have I:=R.inv
  have r:=I.rh t ht
  rw [← a38 R ht] at hL
  have hL:=of_decide_eq_true hL
  unfold a3J
  cases hin:(st.hs.getD t (0,0,false,0,0,0,0,0)).2.2.1 with
  | true=>rw [if_pos rfl]; exact ⟨W,K,bg,mk,I,hin⟩
  | false =>
    rw [if_neg (by simp)]
    have B:=a7o hp hu I ht hin hL hn
    rw [← r.no hin] at B
    exact ⟨_,_,_,_,B.2,by dsimp only; rw [a29 (by rw [I.hl]; exact ht)]⟩
theorem b5E {p:Cd} {u:Us} (hp:J7 p=true) {W:El T85} {K:El T86} {bg:Int} {v:C3} {hs:List Hd} {hist:ZH} {mk:List Int} (I:Inv p u W K bg v hs hist mk) {t:Nat} (ht:t<u.length) (hin:(hs.getD t (0,0,false,0,0,0,0,0)).2.2.1=true) :
    (∃ m,okL (lnA p hist (hs.getD t (0,0,false,0,0,0,0,0))) m=true)∧∀ a,rB a 4=true→0≤rgU (hs.getD t (0,0,false,0,0,0,0,0)) a∧rgU (hs.getD t (0,0,false,0,0,0,0,0)) a≤9:=by
  have r:=(I.rh t ht).op hin
  have hcall:=a4l hp (o:=(opC hist (hs.getD t (0,0,false,0,0,0,0,0))).toNat) (by have:=r.o0; have:=r.o1; omega)
  have hln:(hs.getD t (0,0,false,0,0,0,0,0)).2.1.toNat<(p.getD (opC hist (hs.getD t (0,0,false,0,0,0,0,0))).toNat []).length:=by have:=r.l0; have:=r.l1; omega
  unfold a2B at hcall
  simp only [Bool.and_eq_true,List.all_eq_true] at hcall
  exact ⟨⟨_,hcall.2.2 _ (a04 hln)⟩,r.r9⟩
structure Good (p:Cd) (u:Us) (st:St):Prop where
  rl:∃ D W K bg mk,Rl p u st D W K bg mk
  hi:HI p u st.hs st.hist (2*(st.sc.length:Int) - 1) (2*(st.sc.length:Int))
theorem b2y {p:Cd} {u:Us} (hu:M4 p u=true):Good p u (st0 u):=⟨⟨_,_,_,_,_,a5H hu⟩,b5y⟩
theorem a7c {p:Cd} {u:Us} (hp:J7 p=true) (hu:M4 p u=true) {st:St} (G:Good p u st) {t:Nat} (ht:t<u.length) (hL:S2 u st t=true) (h12:st.sc.length<12) :
    Good p u (D1 p u st t)∧∀ m:Int,0≤m→m≤st.sc.length→a08 (D1 p u st t).hist (2*m)=a08 st.hist (2*m):=by
  obtain ⟨D,W,K,bg,mk,R⟩:=G.rl
  obtain ⟨D',W',K',bg',a,b,c⟩:=a2Z hp hu R ht hL h12 []
  obtain ⟨W2,K2,bg2,mk2,I2,hin⟩:=b5Y hp hu R ht hL (n:=(st.sc.length:Int)) (by omega)
  have hr:(st.hs.getD t (0,0,false,0,0,0,0,0)).2.2.1=true∨(st.hs.getD t (0,0,false,0,0,0,0,0)).1<((u.getD t []).length:Int):=by
    unfold S2 at hL
    simp only [Bool.or_eq_true,decide_eq_true_eq] at hL
    exact hL
  obtain ⟨H1,_,u1⟩:=b5Z hu G.hi (by omega) ht hr
  obtain ⟨⟨m,ok⟩,r9⟩:=b5E hp I2 ht hin
  obtain ⟨H2,u2⟩:=b5S (v:=st.v) (n:=(st.sc.length:Int)) H1 (by omega) (by omega) ht hin ok r9
  have el:((D1 p u st t).sc.length:Int)=st.sc.length+1:=by rw [a1K]; simp
  refine ⟨⟨⟨_,_,_,_,_,c⟩,?_⟩,fun m hm0 hm=>?_⟩
  · rw [el]
    exact H2.mono (by omega) (by omega)
  · exact (u2 m hm0 hm).trans (u1 m hm0 hm)
theorem a8X (p:Cd) (u:Us) (st:St) (x:Int) (r:List Int):goA p u st (x::r)=if rB x (u.length:Int)=true∧S2 u st x.toNat=true then goA p u (D1 p u st x.toNat) r else none:=rfl
theorem b4o {p:Cd} {u:Us}:∀ (l r:List Int) (st:St),goA p u st (l++r)=(goA p u st l).bind fun s=>goA p u s r
  | [],r,st=>rfl
  | x::l,r,st=>by
    rw [List.cons_append,a8X,a8X]
    split
    · exact b4o l r _
    · rfl
theorem a66 {u:Us} {st:St} {x:Int} (h:x∈E9 u st):rB x (u.length:Int)=true∧S2 u st x.toNat=true:=by
  unfold E9 at h
  obtain ⟨t,ht,hx⟩:=List.mem_flatMap.1 h
  split at hx
  · rename_i c
    rw [List.mem_singleton] at hx
    subst hx
    rw [List.mem_range] at ht
    exact ⟨n8.2 (by omega),by rw [Int.toNat_natCast]; exact c⟩
  · cases hx
theorem a65 {u:Us} {st:St} (h:E9 u st=[]) {t:Nat} (ht:t<u.length):S2 u st t=false:=by
  cases hb:S2 u st t with
  | false=>rfl
  | true =>
    exfalso
    have:(t:Int)∈E9 u st:=List.mem_flatMap.2 ⟨t,List.mem_range.2 ht,by rw [if_pos hb]; exact List.mem_singleton.2 rfl⟩
    rw [h] at this; cases this
theorem b4s {c:Cd} {u:Us} (hc:J7 c=true) (hu:M4 c u=true):a4O c u=0:=by unfold a4O; rw [hc,hu]; rfl
theorem b6h {c:Cd} {u:Us} (hc:J7 c=true) (hu:M4 c u=true) {l:List Int} {st:St} (h:goA c u (st0 u) l=some st) (h12:l.length≤12):a3B c u l=.inr st:=by
  unfold a3B
  rw [if_pos (b4s hc hu),if_pos h12,h]
abbrev KTy:Ty:=.pair Y3 (.pair (.sl (.sl Y4)) (.sl (.sl .i)))
theorem b2S {x:Sp×Cd×Us} (hx:a5m KTy x):few x.2.1∧few x.2.2∧a1y x.2.1∧okS x.1:=by
  obtain ⟨hs,hc,hu⟩:=hx
  have e8:Ty.bytes (.sl Y4)=24:=rfl
  have e9:Ty.bytes (.sl .i)=24:=rfl
  have e1:Ty.bytes .i=8:=rfl
  have tb:∀ {l:List (List Int)},a5m (.sl (.sl .i)) l→okT l:=fun {l} h=>by
    refine ⟨?_,fun r hr=>?_⟩
    · have:=h.1; rw [e9] at this; omega
    · have:=(h.2.2 r hr).1; rw [e1] at this; omega
  refine ⟨?_,?_,fun ls hls l hl=>?_,tb hs.2.2.1,tb hs.2.2.2⟩
  · have:=hc.1; rw [e8] at this; unfold few; omega
  · have:=hu.1; rw [e9] at this; unfold few; omega
  · have:=(hc.2.2 ls hls).2.2 l hl
    exact ⟨this.1,this.2.1,this.2.2.1,this.2.2.2⟩
def a6m (p:Cd) (u:Us):Nat→St→List St
  | 0,st=>[st]
  | k+1,st=>if E9 u st=[] then [st] else (E9 u st).flatMap fun x=>a6m p u k (D1 p u st x.toNat)
def RnR (p:Cd) (u:Us) (y:Rn) (st:St):Prop:=∃ D W K bg mk,y=((p,u),st.sc,D,st.v,W,K,bg)∧Rl p u st D W K bg mk
theorem b2V {S R:Type} (n:Int) (yl:Rn→S→Option (Step S R)) (rest:List Rn) (hr:rest.length≤100) (y:Rn) (s:S) {l:List Int} (hl:z7 y=some l) :
    j8 S R n yl (rest++[y],s) =
      if l.length=0∨(y.2.1.length:Int)=n then (yl y s).bind fun x=>match x with|.next s'=>some (.next (rest,s'))|.done e=>some (.done (.inl e))
      else (t8 (List Rn) Empty l (i8 S R (rest++[y],s)) rest).bind fun x=>match x with|.inl st2=>some (.next (st2,s))|.inr r=>r.elim:=by
  have e1:((rest++[y]).length:Int)=(rest.length:Int)+1:=by simp
  have e2:∀ d,(rest++[y]).getD rest.length d=y:=fun d=>a4K
  have e3:(rest++[y]).take rest.length=rest:=by simp
  unfold j8 s7
  dsimp only
  rw [e1,Int.add_sub_cancel,Int.toNat_natCast,e2,e3,if_pos (decide_eq_true (by omega)),b6 (by rw [l3]; omega),b6 (by omega),b6 (by omega),b6 (by rw [l3]; omega),b6 (by omega),b6 (by omega),hl,Option.bind_some]
  by_cases c:l.length=0
  · rw [if_pos (decide_eq_true (by omega)),if_pos (.inl c)]
    congr 1
  · rw [if_neg (by rw [decide_eq_true_eq]; omega)]
    by_cases c2:(y.2.1.length:Int)=n
    · rw [if_pos (decide_eq_true c2),if_pos (.inr c2)]
      congr 1
    · rw [if_neg (by rw [decide_eq_true_eq]; exact c2),if_neg (by rintro (q|q); exact c q; exact c2 q)]
      unfold T3
      rw [Option.bind_some]
      congr 1
theorem b1V {p:Cd} {u:Us} (hp:J7 p=true) (hu:M4 p u=true) {S R:Type} {rest:List Rn} {y:Rn} {st:St} (hy:RnR p u y st) (s:S) {i x:Int} (hx:rB x (u.length:Int)=true∧S2 u st x.toNat=true) (h12:st.sc.length<12) {acc:List Rn} (ha:acc.length≤100) :
    ∃ c,i8 S R (rest++[y],s) (i,x) acc=some (.next (acc++[c]))∧RnR p u c (D1 p u st x.toNat):=by
  have e1:((rest++[y]).length:Int)=(rest.length:Int)+1:=by simp
  have e2:∀ d,(rest++[y]).getD rest.length d=y:=fun d=>a4K
  obtain ⟨D,W,K,bg,mk,rfl,Rr⟩:=hy
  have hb:=n8.1 hx.1
  obtain ⟨t,rfl⟩:∃ t:Nat,x=(t:Int):=⟨x.toNat,by omega⟩
  rw [Int.toNat_natCast] at hx ⊢
  obtain ⟨D',W',K',bg',a,b,c⟩:=a2Z hp hu Rr (by omega) hx.2 h12 []
  refine ⟨_,?_,⟨D',W',K',bg',_,rfl,c⟩⟩
  unfold i8
  dsimp only
  rw [e1,Int.add_sub_cancel,Int.toNat_natCast,e2,a,Option.bind_some,b6 (by omega),List.take_length]
  rfl
theorem b2f {p:Cd} {u:Us} (hp:J7 p=true) (hu:M4 p u=true) {S R:Type} (yl:Rn→S→Option (Step S R)) (F:St→S→Option (Step S R)) (n:Nat) (hn:n≤12)
    (hF:∀ y st s,RnR p u y st→Good p u st→(E9 u st=[]∨st.sc.length=n)→st.sc.length≤n→yl y s=F st s) :
    ∀ (k:Nat) (st:St) (y:Rn) (rest:List Rn) (s:S) (x:Sum S R),RnR p u y st→Good p u st→st.sc.length+k=n→rest.length+2*k≤30→a2h F (a6m p u k st) s=some x →
      (∀ e,x=.inr e→i7 (j8 S R (n:Int) yl) (rest++[y],s)=some (.inl e))∧(∀ s',x=.inl s'→∀ r,i7 (j8 S R (n:Int) yl) (rest,s')=some r→i7 (j8 S R (n:Int) yl) (rest++[y],s)=some r):=by
  have hul:=J6 hu
  have leaf:∀ (st:St) (y:Rn) (rest:List Rn) (s:S) (x:Sum S R),RnR p u y st→Good p u st→(E9 u st=[]∨st.sc.length=n)→st.sc.length≤n→rest.length≤30→a2h F [st] s=some x →
      (∀ e,x=.inr e→i7 (j8 S R (n:Int) yl) (rest++[y],s)=some (.inl e))∧(∀ s',x=.inl s'→∀ r,i7 (j8 S R (n:Int) yl) (rest,s')=some r→i7 (j8 S R (n:Int) yl) (rest++[y],s)=some r):=fun st y rest s x hy G he hle hr h=>by
    have hy':=hy
    obtain ⟨D,W,K,bg,mk,e,Rr⟩:=hy'
    have hl:z7 y=some (E9 u st):=by rw [e]; exact a3b hu Rr _ _ _
    have hp1:=b2V (n:Int) yl rest (by omega) y s hl
    have e21:y.2.1=st.sc:=by rw [e]
    rw [if_pos (by rw [e21]; rcases he with q|q; exact .inl (by rw [q]; rfl); exact .inr (by rw [q])),hF y st s hy G he hle] at hp1
    simp only [a2h] at h
    cases hf:F st s with
    | none=>rw [hf] at h; cases h
    | some z =>
      rw [hf,Option.bind_some] at h hp1
      cases z with
      | next s' =>
        simp only at h hp1
        injection h with h
        subst h
        exact ⟨fun e q=>(by cases q),fun s'' q r hr=>(by injection q with q; subst q; exact A8 hp1 hr)⟩
      | done e =>
        simp only at h hp1
        injection h with h
        subst h
        exact ⟨fun e q=>(by injection q with q; subst q; exact v9 hp1),fun s'' q=>(by cases q)⟩
  intro k
  induction k with
  | zero=>exact fun st y rest s x hy G hk hr h=>leaf st y rest s x hy G (.inr (by omega)) (by omega) (by omega) h
  | succ k ih =>
    intro st y rest s x hy G hk hr h
    unfold a6m at h
    by_cases c:E9 u st=[]
    · rw [if_pos c] at h
      exact leaf st y rest s x hy G (.inl c) (by omega) (by omega) h
    · rw [if_neg c] at h
      have hy':=hy
      obtain ⟨D,W,K,bg,mk,e,Rr⟩:=hy'
      have hl:z7 y=some (E9 u st):=by rw [e]; exact a3b hu Rr _ _ _
      have hp1:=b2V (n:Int) yl rest (by omega) y s hl
      have e21:y.2.1=st.sc:=by rw [e]
      have hlen:(E9 u st).length≠0:=fun q=>c (List.length_eq_zero_iff.1 q)
      rw [if_neg (by rw [e21]; rintro (q|q); exact hlen q; omega)] at hp1
      have h2:=b02 u hul.2.1 st
      have hm:∀ a∈E9 u st,rB a (u.length:Int)=true∧S2 u st a.toNat=true:=fun a ha=>a66 ha
      have gs:∀ a,rB a (u.length:Int)=true∧S2 u st a.toNat=true→Good p u (D1 p u st a.toNat)∧(D1 p u st a.toNat).sc.length=st.sc.length+1:=fun a ha=>by
        have:=n8.1 ha.1
        exact ⟨(a7c hp hu G (by omega) ha.2 (by omega)).1,by rw [a1K]; simp⟩
      have bend:∀ (l:List Int) (acc:List Rn),i7 (p4 (List Rn) Empty l (i8 S R (rest++[y],s))) (-1,acc)=some (.inr acc):=fun l acc=>by
        refine v9 ?_
        unfold p4
        rw [if_neg (by simp)]
      have bnx:∀ (l:List Int) (j:Nat) (acc acc':List Rn),j<l.length→j≤10→i8 S R (rest++[y],s) ((j:Int),l.getD j 0) acc=some (.next acc')→p4 (List Rn) Empty l (i8 S R (rest++[y],s)) ((j:Int),acc)=some (.next ((j:Int) - 1,acc')):=fun l j acc acc' hj hj2 q=>by
        unfold p4
        rw [if_pos (decide_eq_true (by omega)),b6 (by omega),b6 (by omega),Int.toNat_natCast,q,Option.bind_some]
        simp only
        rw [b6 (by rw [l3]; omega)]
      match hL:E9 u st with
      | []=>exact absurd hL c
      | [a] =>
        rw [hL] at hm hp1 h
        obtain ⟨G1,l1⟩:=gs a (hm a (by simp))
        obtain ⟨c1,q1,r1⟩:=b1V hp hu (R:=R) (rest:=rest) hy s (i:=0) (hm a (by simp)) (by omega) (acc:=rest) (by omega)
        have eb:t8 (List Rn) Empty [a] (i8 S R (rest++[y],s)) rest=some (.inl (rest++[c1])):=by
          have w:=A8 (bnx [a] 0 rest _ (by simp) (by omega) q1) (bend [a] _)
          have w':i7 (p4 (List Rn) Empty [a] (i8 S R (rest++[y],s))) ((([a]:List Int).length:Int) - 1,rest)=some (.inr (rest++[c1])):=w
          unfold t8
          rw [w',b6 (by rw [l3]; simp)]; rfl
        rw [eb,Option.bind_some] at hp1
        simp only at hp1
        simp only [List.flatMap_cons,List.flatMap_nil,List.append_nil] at h
        obtain ⟨i1,i2⟩:=ih _ c1 rest s x r1 G1 (by omega) (by omega) h
        exact ⟨fun e q=>A8 hp1 (i1 e q),fun s' q r w=>A8 hp1 (i2 s' q r w)⟩
      | [a,b] =>
        rw [hL] at hm hp1 h
        obtain ⟨G1,l1⟩:=gs a (hm a (by simp))
        obtain ⟨G2,l2⟩:=gs b (hm b (by simp))
        obtain ⟨c2,q2,r2⟩:=b1V hp hu (R:=R) (rest:=rest) hy s (i:=1) (hm b (by simp)) (by omega) (acc:=rest) (by omega)
        obtain ⟨c1,q1,r1⟩:=b1V hp hu (R:=R) (rest:=rest) hy s (i:=0) (hm a (by simp)) (by omega) (acc:=rest++[c2]) (by simp; omega)
        have eb:t8 (List Rn) Empty [a,b] (i8 S R (rest++[y],s)) rest=some (.inl ((rest++[c2])++[c1])):=by
          have w:=A8 (bnx [a,b] 1 rest _ (by simp) (by omega) q2) (A8 (bnx [a,b] 0 _ _ (by simp) (by omega) q1) (bend [a,b] _))
          have w':i7 (p4 (List Rn) Empty [a,b] (i8 S R (rest++[y],s))) ((([a,b]:List Int).length:Int) - 1,rest)=some (.inr ((rest++[c2])++[c1])):=w
          unfold t8
          rw [w',b6 (by rw [l3]; simp)]; rfl
        rw [eb,Option.bind_some] at hp1
        simp only at hp1
        simp only [List.flatMap_cons,List.flatMap_nil,List.append_nil] at h
        rw [a4b] at h
        cases h1:a2h F (a6m p u k (D1 p u st a.toNat)) s with
        | none=>rw [h1] at h; cases h
        | some x1 =>
          rw [h1,Option.bind_some] at h
          obtain ⟨i1,i2⟩:=ih _ c1 (rest++[c2]) s x1 r1 G1 (by omega) (by simp; omega) h1
          cases x1 with
          | inr e1 =>
            simp only at h
            injection h with h
            subst h
            exact ⟨fun e q=>(by injection q with q; subst q; exact A8 hp1 (i1 _ rfl)),fun s' q=>(by cases q)⟩
          | inl s1 =>
            simp only at h
            obtain ⟨j1,j2⟩:=ih _ c2 rest s1 x r2 G2 (by omega) (by omega) h
            exact ⟨fun e q=>A8 hp1 (i2 s1 rfl _ (j1 e q)),fun s' q r w=>A8 hp1 (i2 s1 rfl _ (j2 s' q r w))⟩
      | a::b::d::r=>rw [hL] at h2; simp at h2
theorem b4e {p:Cd} {u:Us} (hp:J7 p=true) (hu:M4 p u=true) {S R:Type} (yl:Rn→S→Option (Step S R)) (F:St→S→Option (Step S R)) (n:Nat) (hn:n≤12)
    (hF:∀ y st s,RnR p u y st→Good p u st→(E9 u st=[]∨st.sc.length=n)→st.sc.length≤n→yl y s=F st s) (s:S) {x:Sum S R} (h:a2h F (a6m p u n (st0 u)) s=some x):t6 S R (p,u) (n:Int) yl s=some x:=by
  have T:=b2f hp hu yl F n hn hF n (st0 u) ((p,u),[],Ty.dflt T80,(0,0,0),Ty.dflt T85,Ty.dflt T86,0) [] s x ⟨_,_,_,_,_,rfl,a5H hu⟩ (b2y hu) (by simp [st0]) (by simp; omega) h
  unfold t6
  cases x with
  | inl s' =>
    have w:=T.2 s' rfl (.inr s') (v9 (by unfold j8; rw [if_neg (by simp)]))
    rw [List.nil_append] at w
    rw [w]; rfl
  | inr e =>
    have w:=T.1 e rfl
    rw [List.nil_append] at w
    rw [w]; rfl
theorem a8J {α:Type} (d:α) (f:α→α) (v:List α) (hl:few v) {body:List α×Int→Option (Step (List α×Int) (List α))}
    (hb:∀ (k:Nat) (s:List α),k<v.length→s.length=v.length→InK .i64 ((k:Int)+1)→s.getD k d=v.getD k d→body (s,(k:Int))=some (.next (s.set k (f (v.getD k d)),(k:Int)+1))) (hd:∀ s,s.length=v.length→body (s,(v.length:Int))=some (.done s)):i7 body (v,0)=some (v.map f):=by
  obtain ⟨r,er,hr⟩:=b2e (R:=List α) v (fun k (s:List α)=>s=(v.take k).map f++v.drop k) (fun r=>r=v.map f) (body:=body) (s0:=v) (by simp) (fun k x s hk hI=>by
    obtain ⟨hlt,hin⟩:=O9 hl hk
    have hdv:v.drop k=x::v.drop (k+1):=by
      rw [List.drop_eq_getElem_cons hlt]
      congr 1
      exact (List.getElem?_eq_some_iff.1 hk).2
    have hpl:((v.take k).map f).length=k:=by rw [List.length_map,List.length_take]; omega
    have hsl:s.length=v.length:=by rw [hI]; simp; omega
    have hg:s.getD k d=x:=by
      rw [hI,hdv]
      have:=b2z ((v.take k).map f) x d (v.drop (k+1))
      rw [hpl] at this
      exact this
    refine .inl ⟨_,hb k s hlt hsl hin (by rw [hg,j7 hk]),?_⟩
    rw [hI,hdv]
    have:=b4d ((v.take k).map f) x (f (v.getD k d)) (v.drop (k+1))
    rw [hpl] at this
    rw [this,take_one hk,j7 hk]
    simp) (fun s hI=>by
    rw [List.take_length,List.drop_length,List.append_nil] at hI
    exact ⟨_,hd s (by rw [hI,List.length_map]),hI⟩)
  rw [er,hr]
theorem b2c {α:Type} {l:List α} {k:Nat} {d:α}:l.set k (l.getD k d)=l:=by
  refine List.ext_getElem? fun j=>?_
  rw [List.getElem?_set]
  by_cases c:k=j
  · subst c
    rw [if_pos rfl]
    by_cases h:k<l.length
    · rw [if_pos h,List.getD_eq_getElem?_getD,List.getElem?_eq_getElem h]; rfl
    · rw [if_neg h,List.getElem?_eq_none (by omega)]
  · rw [if_neg c]
theorem a4J {α β:Type} (g:α→β) (c:List α) (hl:few c) {body:List β×Int→Option (Step (List β×Int) (List β))}
    (hb:∀ (k:Nat) (x:α) (s:List β),c[k]?=some x→s.length=k→InK .i64 ((k:Int)+1)→body (s,(k:Int))=some (.next (s++[g x],(k:Int)+1))) (hd:∀ s,body (s,(c.length:Int))=some (.done s)):i7 body ([],0)=some (c.map g):=by
  obtain ⟨r,er,hr⟩:=b2e (R:=List β) c (fun k (s:List β)=>s=(c.take k).map g) (fun r=>r=c.map g) (body:=body) (s0:=[]) (by simp) (fun k x s hk hI=>by
    obtain ⟨hlt,hin⟩:=O9 hl hk
    refine .inl ⟨_,hb k x s hk (by rw [hI,List.length_map,List.length_take]; omega) hin,?_⟩
    rw [take_one hk,hI]; simp) (fun s hI=>⟨_,hd s,by rw [hI,List.take_length]⟩)
  rw [er,hr]
def oth (a b n:Int):Int:=if n=a then b else if n=b then a else n
def a3G (a b:Int) (l:Ln):Ln:=if l.1=1 then (l.1,l.2.1,oth a b l.2.2.1,l.2.2.2) else if l.1=2∨l.1=3 then (l.1,oth a b l.2.1,l.2.2) else l
def a8c (a b:Int) (c:Cd):Cd:=c.map fun ls=>ls.map (a3G a b)
theorem a6l (n a b:Int):D0 n a b=some (oth a b n):=by
  unfold D0 oth
  by_cases h:n=a
  · rw [if_pos (decide_eq_true h),if_pos h]
  · rw [if_neg (by rw [decide_eq_true_eq]; exact h),if_neg h]
    by_cases h2:n=b
    · rw [if_pos (decide_eq_true h2),if_pos h2]
    · rw [if_neg (by rw [decide_eq_true_eq]; exact h2),if_neg h2]
theorem b2k (n a b:Int):A3 n a b=some (oth a b n):=by
  unfold A3 oth
  by_cases h:n=a
  · rw [if_pos (decide_eq_true h),if_pos h]
  · rw [if_neg (by rw [decide_eq_true_eq]; exact h),if_neg h]
    by_cases h2:n=b
    · rw [if_pos (decide_eq_true h2),if_pos h2]
    · rw [if_neg (by rw [decide_eq_true_eq]; exact h2),if_neg h2]
theorem a7T (l:Ln) (a b:Int):Q8 l a b=some ((a3G a b l).2.1,(a3G a b l).2.2.1)∧(a3G a b l).1=l.1∧(a3G a b l).2.2.2=l.2.2.2:=by
  unfold Q8 a3G
  simp only [a6l,Option.bind_some]
  by_cases h1:l.1=1
  · rw [if_pos (decide_eq_true h1),if_pos h1]; exact ⟨rfl,rfl,rfl⟩
  · rw [if_neg (by rw [decide_eq_true_eq]; exact h1),if_neg h1]
    by_cases h2:l.1=2
    · rw [if_pos (decide_eq_true h2),if_pos (decide_eq_true h2),if_pos (.inl h2)]; exact ⟨rfl,rfl,rfl⟩
    · rw [if_neg (by rw [decide_eq_true_eq]; exact h2)]
      by_cases h3:l.1=3
      · rw [if_pos (decide_eq_true h3),if_pos (.inr h3)]; exact ⟨rfl,rfl,rfl⟩
      · rw [if_neg (by rw [decide_eq_true_eq]; exact h3),if_neg (fun q=>q.elim h2 h3)]; exact ⟨rfl,rfl,rfl⟩
theorem a4k {c:Cd} (h:J7 c=true) {ls:List Ln} (hm:ls∈c):1≤ls.length∧ls.length≤8:=by
  unfold J7 at h
  simp only [Bool.and_eq_true,List.all_eq_true] at h
  have:=h.2 ls hm
  unfold a2B at this
  simp only [Bool.and_eq_true,decide_eq_true_eq] at this
  exact this.1
theorem a0E {α:Type} {l:List α} {k:Nat} {x:α} (h:l[k]?=some x):x∈l:=List.mem_of_getElem? h
theorem a97 {c:Cd} (hf:a1y c) (a b:Int):W3 c a b=some (if J7 c=true then (if rB a 3=true∧rB b 3=true then (a8c a b c,0) else ([],2)) else ([],80)):=by
  unfold W3
  rw [a6v hf,Option.bind_some]
  cases hc:J7 c with
  | false=>rfl
  | true =>
    rw [if_neg (by simp),if_pos rfl,a6f,Option.bind_some,a6f,Option.bind_some]
    cases ha:rB a 3 with
    | false=>rw [if_pos (by simp),if_neg (by simp)]
    | true =>
      rw [if_neg (by simp)]
      cases hb:rB b 3 with
      | false=>rw [if_pos (by simp),if_neg (by simp)]
      | true =>
        rw [if_neg (by simp),if_pos ⟨rfl,rfl⟩]
        have hcl:=Y8 hc
        have w:i7 (J4 c a b) ([],0)=some (a8c a b c):=a4J (fun ls:List Ln=>ls.map (a3G a b)) c (G4 (n:=4) hcl.2) (fun k ls s hk hs hin=>by
          have hlt:=(List.getElem?_eq_some_iff.1 hk).1
          have h8:=a4k hc (a0E hk)
          have w2:i7 (J3 a b ls) (ls,0)=some (ls.map (a3G a b)):=a8J (0,0,0,0) (a3G a b) ls (G4 (n:=8) h8.2) (fun j s2 hj hs2 hin2 hg=>by
            have e:=a7T (ls.getD j (0,0,0,0)) a b
            unfold J3
            dsimp only
            rw [Int.toNat_natCast,hg,if_pos (decide_eq_true (by omega)),b6 (by omega),b6 (by omega),e.1,Option.bind_some,b6 (by omega),b6 (by omega),b6 hin2]
            dsimp only
            congr 4
            refine Prod.ext e.2.1.symm (Prod.ext rfl (Prod.ext rfl e.2.2.symm))) (fun s2 hs2=>by
            unfold J3
            rw [if_neg (by simp)])
          unfold J4
          dsimp only
          rw [Int.toNat_natCast,j7 hk,if_pos (decide_eq_true (by omega)),b6 (by omega),b6 (by omega)]
          unfold V5
          rw [b6 (by omega),Option.bind_some,w2,Option.bind_some]
          unfold T5 T6
          rw [b6 (by dsimp only; omega),b6 hin]) (fun s=>by
          unfold J4
          rw [if_neg (by simp)])
        rw [w]; rfl
theorem a8B (c:Cd) (a b:Int):F1 c a b=some (if J7 c=true then (if rB a 3=true∧rB b 3=true then (a8c a b c,0) else ([],2)) else ([],80)):=by
  unfold F1
  rw [a4A,Option.bind_some]
  cases hc:J7 c with
  | false=>rfl
  | true =>
    rw [if_neg (by simp),if_pos rfl,a7O,Option.bind_some,a7O,Option.bind_some]
    cases ha:rB a 3 with
    | false=>rw [if_pos (by simp),if_neg (by simp)]
    | true =>
      rw [if_neg (by simp)]
      cases hb:rB b 3 with
      | false=>rw [if_pos (by simp),if_neg (by simp)]
      | true =>
        rw [if_neg (by simp),if_pos ⟨rfl,rfl⟩]
        have hcl:=Y8 hc
        have w:i7 (s6 c a b) ([],0)=some (a8c a b c):=a4J (fun ls:List Ln=>ls.map (a3G a b)) c (G4 (n:=4) hcl.2) (fun k ls s hk hs hin=>by
          have hlt:=(List.getElem?_eq_some_iff.1 hk).1
          have h8:=a4k hc (a0E hk)
          have w2:i7 (s5 a b) (ls,0)=some (ls.map (a3G a b)):=a8J (0,0,0,0) (a3G a b) ls (G4 (n:=8) h8.2) (fun j s2 hj hs2 hin2 hg=>by
            have es:s2.set j (ls.getD j (0,0,0,0))=s2:=by rw [← hg]; exact b2c
            unfold s5 a3G
            dsimp only
            simp only [b2k,Option.bind_some]
            rw [Int.toNat_natCast,hg,if_pos (decide_eq_true (by omega)),b6 (by omega),b6 (by omega)]
            generalize ls.getD j (0,0,0,0)=l at es ⊢
            by_cases h1:l.1=1
            · rw [if_pos (decide_eq_true h1),if_pos h1,b6 (by omega),b6 (by omega),b6 (by omega),b6 (by omega),b6 hin2]
            · rw [if_neg (by rw [decide_eq_true_eq]; exact h1),if_neg h1]
              by_cases h2:l.1=2
              · rw [if_pos (decide_eq_true h2),if_pos (decide_eq_true h2),if_pos (.inl h2),b6 (by omega),b6 (by omega),b6 (by omega),b6 (by omega),b6 hin2]
              · rw [if_neg (by rw [decide_eq_true_eq]; exact h2)]
                by_cases h3:l.1=3
                · rw [if_pos (decide_eq_true h3),if_pos (.inr h3),b6 (by omega),b6 (by omega),b6 (by omega),b6 (by omega),b6 hin2]
                · rw [if_neg (by rw [decide_eq_true_eq]; exact h3),if_neg (fun q=>q.elim h2 h3),b6 hin2,es]) (fun s2 hs2=>by
            unfold s5
            rw [if_neg (by rw [decide_eq_true_eq]; show ¬ (ls.length:Int)<(s2.length:Int); omega)])
          unfold s6
          dsimp only
          rw [Int.toNat_natCast,j7 hk,if_pos (decide_eq_true (by omega)),b6 (by omega),b6 (by omega),b6 (by omega),w2,Option.bind_some]
          unfold F5 F6
          rw [b6 (by dsimp only; omega),b6 hin]) (fun s=>by
          unfold s6
          rw [if_neg (by simp)])
        rw [w]; rfl
theorem a5e {c:Cd} (hf:a1y c) (h4:c.length≤4) (h8:∀ ls∈c,ls.length≤8):s4 c c=some true:=by
  unfold s4
  rw [if_neg (by simp),z8 c (fun _=>true) (body:=r7 c c) (fun k ls hk=>by
    obtain ⟨hlt,hik⟩:=O9 (G4 (n:=4) h4) hk
    have hm:=a0E hk
    unfold r7
    rw [Int.toNat_natCast,j7 hk,if_pos (decide_eq_true (by omega)),b6 (by omega),b6 (by omega),b6 (by omega),b6 (by omega),if_neg (by simp),z8 ls (fun _=>true) (body:=r6 c c (k:Int)) (fun j l hj=>by
      obtain ⟨hlt2,hik2⟩:=O9 (G4 (n:=8) (h8 ls hm)) hj
      obtain ⟨f1,f2,f3,f4⟩:=hf ls hm l (a0E hj)
      unfold r6
      rw [Int.toNat_natCast,Int.toNat_natCast,j7 hk,j7 hj,b6 (by omega),b6 (by omega),if_pos (decide_eq_true (by omega)),b6 (by omega),b6 (by omega),b6 (by omega),b6 (by omega),b6 (by omega),b6 (by omega),b6 (by omega),b6 (by omega),b6 f1,b6 f2,b6 f3,b6 f4,b6 f1,b6 f2,b6 f3,b6 f4,if_neg (by simp),b6 hik2,if_pos rfl]) (by
      unfold r6
      rw [Int.toNat_natCast,j7 hk,b6 (by omega),b6 (by omega),if_neg (by simp)]),Option.bind_some,if_pos rfl]
    have ea:(ls.all fun _=>true)=true:=by simp
    rw [ea]
    simp only [if_true]
    unfold E5
    rw [b6 hik]) (by
    unfold r7
    rw [if_neg (by simp)]),Option.bind_some]
  have ea:(c.all fun _=>true)=true:=by simp
  rw [ea]
  rfl
/-! ### A specification -/
theorem a5Q {st op:Int} {p:Int→Bool} {rs:List (List Int)} (h:tab st op p rs=true) {q:Int} (hq:0≤q∧q<st):q<(rs.length:Int)∧((rs.getD q.toNat []).length:Int)=op∧∀ o,0≤o→o<op→p ((rs.getD q.toNat []).getD o.toNat 0)=true:=by
  unfold tab at h
  simp only [Bool.and_eq_true,decide_eq_true_eq,List.all_eq_true] at h
  have hl:q.toNat<rs.length:=by omega
  have:=h.2 _ (a04 (d:=[]) hl)
  exact ⟨by omega,this.1,fun o h0 h1=>this.2 _ (a04 (by omega))⟩
structure SpOk (s:SpT):Prop where
  st:1≤s.1∧s.1≤8
  op:1≤s.2.1∧s.2.1≤4
  nx:tab s.1 s.2.1 (inR s.1) s.2.2.1=true
  sy:tab s.1 s.2.1 a4h s.2.2.2=true
theorem b57 {s:SpT} (h:(a3O s).ok=true):SpOk s:=by
  unfold SpS.ok a3O at h
  simp only [Bool.and_eq_true,decide_eq_true_eq] at h
  exact ⟨⟨h.1.1.1.1.1,h.1.1.1.1.2⟩,⟨h.1.1.1.2,h.1.1.2⟩,h.1.2,h.2⟩
def nxS (s:SpT) (q o:Int):Int:=(s.2.2.1.getD q.toNat []).getD o.toNat 0
def syS (s:SpT) (q o:Int):Int:=(s.2.2.2.getD q.toNat []).getD o.toNat 0
theorem b2l {s:SpT} (h:SpOk s) {q o:Int} (hq:0≤q∧q<s.1) (ho:0≤o∧o<s.2.1):0≤nxS s q o∧nxS s q o<s.1:=by
  have:=(a5Q h.nx hq).2.2 o ho.1 ho.2
  unfold inR at this
  exact of_decide_eq_true this
def a2b (s:SpT):Int→List Int→List Int
  | _,[]=>[]
  | q,o::w=>syS s q o::a2b s (nxS s q o) w
def a7W (s:SpT):Int→List Int→Int
  | q,[]=>q
  | q,o::w=>a7W s (nxS s q o) w
theorem a9b (s:SpT):∀ (q:Int) (w:List Int),(a2b s q w).length=w.length
  | _,[]=>rfl
  | q,o::w=>by unfold a2b; rw [List.length_cons,List.length_cons,a9b s _ w]
theorem a8s {s:SpT} (h:SpOk s) (w:List Int) (h20:w.length≤20) (hw:∀ o∈w,0≤o∧o<s.2.1):∀ (d k:Nat) (q:Int) (acc:List Int),w.length - k=d→k≤w.length→acc.length=k→(0≤q∧q<s.1) →
    i7 (q9 s w) (acc,q,(k:Int))=some (acc++a2b s q (w.drop k),a7W s q (w.drop k))
  | 0,k,q,acc,hd,hk,ha,hq=>by
    have e:k=w.length:=by omega
    subst e
    rw [List.drop_length]
    refine v9 ?_
    unfold q9
    rw [if_neg (by simp)]
    simp [a2b,a7W]
  | d+1,k,q,acc,hd,hk,ha,hq=>by
    have hlt:k<w.length:=by omega
    have hg:=List.getElem?_eq_getElem hlt
    have ho:=hw _ (List.getElem_mem hlt)
    have ed:=List.drop_eq_getElem_cons hlt
    generalize w[k]=o at hg ho ed
    have t1:=a5Q h.nx hq
    have t2:=a5Q h.sy hq
    have nx:q9 s w (acc,q,(k:Int))=some (.next (acc++[syS s q o],nxS s q o,((k+1:Nat):Int))):=by
      unfold q9
      dsimp only
      rw [Int.toNat_natCast,j7 hg,if_pos (decide_eq_true (by omega)),b6 (by omega),b6 (by omega),b6 hq.1,b6 t2.1,b6 ho.1,b6 (by omega),b6 (by omega),b6 hq.1,b6 t1.1,b6 ho.1,b6 (by omega),b6 (by rw [l3]; omega)]
      rfl
    have ih:=a8s h w h20 hw d (k+1) (nxS s q o) (acc++[syS s q o]) (by omega) (by omega) (by simp; omega) (b2l h hq ho)
    rw [A8 nx ih,ed]
    simp [a2b,a7W]
theorem a9E {s:SpT} (hs:okS s) (h:(a3O s).ok=true) {w:List Int} (h20:w.length≤20) (hw:∀ o∈w,0≤o∧o<s.2.1):a2w s 0 w=some (a2b s 0 w,a7W s 0 w,0):=by
  have hk:=b57 h
  have h0:(0:Int)≤0∧(0:Int)<s.1:=by have:=hk.st; omega
  have e1:a0y s [0]=some true:=by
    rw [a7q s [0] (a3C (by simp))]
    simp [inR]; omega
  have e2:a0w s w=some true:=by
    unfold a0w
    rw [z8 w (fun _=>true) (body:=O2 s w) (fun k o hk=>by
      obtain ⟨hlt,hik⟩:=O9 (G4 (n:=20) h20) hk
      have ho:=hw o (a0E hk)
      unfold O2 M1
      rw [Int.toNat_natCast,j7 hk,if_pos (decide_eq_true (by omega)),b6 (by omega),b6 (by omega),if_pos (decide_eq_true ho.1),decide_eq_true ho.2,Option.bind_some,if_neg (by simp),b6 hik,if_pos rfl]) (by
      unfold O2
      rw [if_neg (by simp)]),Option.bind_some]
    simp [X6]
  unfold a2w a0p
  rw [a5Z s hs,h,Option.bind_some,if_neg (by simp),e1,Option.bind_some,if_neg (by simp),Option.bind_some]
  dsimp only
  rw [if_neg (by simp)]
  unfold M0
  rw [if_pos (decide_eq_true (by omega)),e2,Option.bind_some,Option.bind_some,if_neg (by simp)]
  unfold R6 L9
  have rl:=a8s hk w h20 hw w.length 0 0 [] (by omega) (by omega) rfl h0
  have rl':i7 (q9 s w) ([],0,0)=some (a2b s 0 w,a7W s 0 w):=by
    have e0:(([]:List Int),(0:Int),(0:Int))=([],0,((0:Nat):Int)):=rfl
    rw [e0,rl]; simp
  rw [show ((s.1,s.2.1,s.2.2.1,s.2.2.2):SpT)=s from rfl,rl']
  rfl
theorem a73 {s:SpT} (hs:okS s) {c:Cd} (hf:a1y c):Q9 s c=some (if J7 c=true then (if (a3O s).ok=true∧s.2.1=(c.length:Int) then 0 else 10) else 80):=by
  unfold Q9
  rw [a6v hf,Option.bind_some]
  cases hc:J7 c with
  | false=>rfl
  | true =>
    rw [if_neg (by simp),if_pos rfl,a5Z s hs,Option.bind_some]
    cases hv:(a3O s).ok with
    | false=>rw [if_pos (by simp),if_neg (by simp)]
    | true =>
      rw [if_neg (by simp)]
      by_cases ho:s.2.1=(c.length:Int)
      · rw [if_neg (by simp [ho]),if_pos ⟨rfl,ho⟩]
      · rw [if_pos (by simp [ho]),if_neg (fun q=>ho q.2)]
theorem b04 {s:SpT} (hs:okS s) (c:Cd):H7 s c=some (decide ((a3O s).ok=true∧s.2.1=(c.length:Int))):=by
  unfold H7
  rw [a8A s hs,Option.bind_some]
  cases hv:(a3O s).ok with
  | false=>rw [if_neg (by simp)]; simp
  | true=>rw [if_pos rfl]; simp
/-! ### One thread alone -/
def J8 (p:Cd) (w:List Int):Nat→St→St
  | 0,st=>st
  | k+1,st=>if S2 [w] st 0=true then J8 p w k (D1 p [w] st 0) else st
theorem b4Y (w:List Int) (st:St):E9 [w] st=if S2 [w] st 0=true then [0] else []:=by
  unfold E9
  show ((List.range 1).flatMap fun t=>if S2 [w] st t=true then [(t:Int)] else [])=_
  rw [show List.range 1=[0] from rfl]
  simp
theorem b40 (p:Cd) (w:List Int):∀ (k:Nat) (st:St),a6m p [w] k st=[J8 p w k st]
  | 0,st=>rfl
  | k+1,st=>by
    unfold a6m J8
    rw [b4Y]
    cases h:S2 [w] st 0 with
    | true=>rw [if_pos rfl,if_neg (by simp),if_pos rfl]; simp only [List.flatMap_cons,List.flatMap_nil,List.append_nil]; exact b40 p w k _
    | false=>simp
theorem a4w {p:Cd} {w:List Int} (hp:J7 p=true) (hu:M4 p [w]=true):∀ (k:Nat) (st:St),Good p [w] st→st.sc.length+k≤12→Good p [w] (J8 p w k st)∧(J8 p w k st).sc.length≤st.sc.length+k
  | 0,st,G,_=>⟨G,Nat.le_refl _⟩
  | k+1,st,G,h12=>by
    unfold J8
    cases h:S2 [w] st 0 with
    | true =>
      rw [if_pos rfl]
      have:=a4w hp hu k _ (a7c hp hu G (t:=0) (by simp) h (by omega)).1 (by rw [a1K]; simp; omega)
      refine ⟨this.1,Nat.le_trans this.2 (by rw [a1K]; simp; omega)⟩
    | false=>rw [if_neg (by simp)]; exact ⟨G,by omega⟩
theorem a8F {p:Cd} {u:Us} (hu:M4 p u=true) {st:St} {D:El T80} {W:El T85} {K:El T86} {bg:Int} {mk:List Int} (R:Rl p u st D W K bg mk) (m:List Int) (n a b c:Int):r8 p u m n a b c st.hs st.hist mk=some (decide (E9 u st=[])):=by
  have hul:=J6 hu
  unfold r8
  have hb:∀ (t:Nat),t<u.length→m9 p u m n a b c st.hs st.hist mk (t:Int)=some (if S2 u st t=true then .done (.inl ()) else .next ((t:Int)+1)):=fun t ht=>by
    unfold m9
    rw [if_pos (decide_eq_true (by omega)),a0Z R.inv ht,Option.bind_some,a38 R ht]
    cases S2 u st t with
    | true=>rfl
    | false=>rw [if_neg (by simp),if_neg (by simp),b6 (by rw [l3]; omega)]
  have he:m9 p u m n a b c st.hs st.hist mk (u.length:Int)=some (.done (.inr ())):=by
    unfold m9
    rw [if_neg (by simp)]
  rw [b4X (body:=m9 p u m n a b c st.hs st.hist mk) u.length (fun t=>!S2 u st t) (fun t ht=>by rw [hb t ht]; cases S2 u st t<;>rfl) he,Option.bind_some]
  by_cases hl:E9 u st=[]
  · have:a6u u.length (fun t=>!S2 u st t)=true:=a4i.2 fun t ht=>by rw [a65 hl ht]; rfl
    rw [this,if_pos rfl,decide_eq_true hl]; rfl
  · have:a6u u.length (fun t=>!S2 u st t)=false:=by
      cases h:a6u u.length (fun t=>!S2 u st t) with
      | false=>rfl
      | true =>
        exfalso
        apply hl
        cases hL:E9 u st with
        | nil=>rfl
        | cons x r =>
          have hx:=a66 (u:=u) (st:=st) (x:=x) (by rw [hL]; simp)
          have hb:=n8.1 hx.1
          have:=a4i.1 h x.toNat (by omega)
          rw [hx.2] at this; cases this
    rw [this,if_neg (by simp),decide_eq_false hl]
end Go.Proofs.Ytenchhmcjmjlbaa
