import Derived.Test.YtenchhmcjmjlbaaK8
import Derived.Test.YtenchhmcjmjlbaaKs
namespace Go.Proofs.Ytenchhmcjmjlbaa
open Go.RowKit
set_option linter.unusedVariables false
set_option linter.unusedSimpArgs false
set_option maxRecDepth 10000
theorem b8m {p:Cd} {u:Us} (hp:L5 p=true) (hu:I9 p u=true) {st:St} {D:El T80} {W:El T85} {K:El T86} {bg:Int} {mk:List Int} (R:Rl p u st D W K bg mk) {t:Nat} (ht:t<u.length) (hL:a1V u st t=true) {n:Int} (hn:0≤n∧n≤100) :
    ∃ W' K' bg' mk',Inv p u W' K' bg' st.v (a4A u st.hs st.hist t n).1 (a4A u st.hs st.hist t n).2 mk'∧((a4A u st.hs st.hist t n).1.getD t (0,0,false,0,0,0,0,0)).2.2.1=true:=by
  have I:=R.inv
  have r:=I.rh t ht
  rw [← a6N R ht] at hL
  have hL:=of_decide_eq_true hL
  unfold a4A
  cases hin:(st.hs.getD t (0,0,false,0,0,0,0,0)).2.2.1 with
  | true=>rw [if_pos rfl]; exact ⟨W,K,bg,mk,I,hin⟩
  | false =>
    rw [if_neg (by simp)]
    have B:=a8C hp hu I ht hin hL hn
    rw [← r.no hin] at B
    exact ⟨_,_,_,_,B.2,by dsimp only; rw [a3X (by rw [I.hl]; exact ht)]⟩
theorem b70 {p:Cd} {u:Us} (hp:L5 p=true) {W:El T85} {K:El T86} {bg:Int} {v:C3} {hs:List Hd} {hist:ZH} {mk:List Int} (I:Inv p u W K bg v hs hist mk) {t:Nat} (ht:t<u.length) (hin:(hs.getD t (0,0,false,0,0,0,0,0)).2.2.1=true) :
    (∃ m,okL (lnA p hist (hs.getD t (0,0,false,0,0,0,0,0))) m=true)∧∀ a,rB a 4=true→0≤rgU (hs.getD t (0,0,false,0,0,0,0,0)) a∧rgU (hs.getD t (0,0,false,0,0,0,0,0)) a≤9:=by
  have r:=(I.rh t ht).op hin
  have hcall:=a5p hp (o:=(opC hist (hs.getD t (0,0,false,0,0,0,0,0))).toNat) (by have:=r.o0; have:=r.o1; omega)
  have hln:(hs.getD t (0,0,false,0,0,0,0,0)).2.1.toNat<(p.getD (opC hist (hs.getD t (0,0,false,0,0,0,0,0))).toNat []).length:=by have:=r.l0; have:=r.l1; omega
  unfold a31 at hcall
  simp only [Bool.and_eq_true,List.all_eq_true] at hcall
  exact ⟨⟨_,hcall.2.2 _ (a0m hln)⟩,r.r9⟩
theorem a2p (p:Cd) (u:Us) (st:St) (x:Int) (r:List Int):goA p u st (x::r)=if rB x (u.length:Int)=true∧a1V u st x.toNat=true then goA p u (M2 p u st x.toNat) r else none:=rfl
theorem a9c {p:Cd} {u:Us}:∀ (l r:List Int) (st:St),goA p u st (l++r)=(goA p u st l).bind fun s=>goA p u s r
  | [],r,st=>rfl
  | x::l,r,st=>by
    rw [List.cons_append,a2p,a2p]
    split
    · exact a9c l r _
    · rfl
structure Good (p:Cd) (u:Us) (st:St):Prop where
  rl:∃ D W K bg mk,Rl p u st D W K bg mk
  hi:HI p u st.hs st.hist (2*(st.sc.length:Int) - 1) (2*(st.sc.length:Int))
  go:goA p u (st0 u) st.sc=some st
theorem b0l {p:Cd} {u:Us} (hu:I9 p u=true):Good p u (st0 u):=⟨⟨_,_,_,_,_,a9h hu⟩,b7R,rfl⟩
theorem a8q {p:Cd} {u:Us} (hp:L5 p=true) (hu:I9 p u=true) {st:St} (G:Good p u st) {t:Nat} (ht:t<u.length) (hL:a1V u st t=true) (h12:st.sc.length<12) :
    Good p u (M2 p u st t)∧∀ m:Int,0≤m→m≤st.sc.length→p8 (M2 p u st t).hist (2*m)=p8 st.hist (2*m):=by
  obtain ⟨D,W,K,bg,mk,R⟩:=G.rl
  obtain ⟨D',W',K',bg',a,b,c⟩:=a5u hp hu R ht hL h12 []
  obtain ⟨W2,K2,bg2,mk2,I2,hin⟩:=b8m hp hu R ht hL (n:=(st.sc.length:Int)) (by omega)
  have hr:(st.hs.getD t (0,0,false,0,0,0,0,0)).2.2.1=true∨(st.hs.getD t (0,0,false,0,0,0,0,0)).1<((u.getD t []).length:Int):=by
    unfold a1V at hL
    simp only [Bool.or_eq_true,decide_eq_true_eq] at hL
    exact hL
  obtain ⟨H1,_,u1⟩:=b8n hu G.hi (by omega) ht hr
  obtain ⟨⟨m,ok⟩,r9⟩:=b70 hp I2 ht hin
  obtain ⟨H2,u2⟩:=b8f (v:=st.v) (n:=(st.sc.length:Int)) H1 (by omega) (by omega) ht hin ok r9
  have el:((M2 p u st t).sc.length:Int)=st.sc.length+1:=by rw [a2B]; simp
  refine ⟨⟨⟨_,_,_,_,_,c⟩,?_,?_⟩,fun m hm0 hm=>?_⟩
  · rw [el]
    exact H2.mono (by omega) (by omega)
  · rw [a2B,a9c,G.go,Option.bind_some,a2p,if_pos ⟨m5.2 (by omega),by rw [Int.toNat_natCast]; exact hL⟩,Int.toNat_natCast]
    rfl
  · exact (u2 m hm0 hm).trans (u1 m hm0 hm)
theorem a3W {p:Cd} {u:Us} (hp:L5 p=true) (hu:I9 p u=true):∀ {l:List Int} {st st':St},goA p u st l=some st'→Good p u st→st.sc.length+l.length≤12→Good p u st'∧∀ m:Int,0≤m→m≤st.sc.length→p8 st'.hist (2*m)=p8 st.hist (2*m)
  | [],st,st',h,G,_=>by injection h with h; subst h; exact ⟨G,fun m _ _=>rfl⟩
  | x::r,st,st',h,G,h12=>by
    unfold goA at h
    split at h
    · rename_i c
      have hx:=m5.1 c.1
      rw [List.length_cons] at h12
      obtain ⟨G1,u1⟩:=a8q hp hu G (by omega) c.2 (by omega)
      have el:(M2 p u st x.toNat).sc.length=st.sc.length+1:=by rw [a2B]; simp
      obtain ⟨G2,u2⟩:=a3W hp hu h G1 (by omega)
      exact ⟨G2,fun m hm0 hm=>(u2 m hm0 (by omega)).trans (u1 m hm0 hm)⟩
    · cases h
theorem b2n {p:Cd} {u:Us} {hs:List Hd} {hist:ZH} {n:Int} (H:HI p u hs hist (2*n - 1) (2*n)):p8 hist (2*n)=hist:=by
  have hm:∀ c∈hist,a0G (2*n) c=true∧cut (2*n) c=c:=fun c hc=>by
    obtain ⟨k,hk,e⟩:=List.getElem_of_mem hc
    have:=H.ok k hk
    rw [r8 (List.getElem?_eq_getElem hk),e] at this
    have f:=this.fr
    have t:=this.to
    refine ⟨decide_eq_true (by omega),?_⟩
    unfold cut
    rw [if_neg (by omega)]
  unfold p8
  have:hist.filter (a0G (2*n))=hist:=List.filter_eq_self.2 fun c hc=>(hm c hc).1
  rw [this]
  have e:hist.map (cut (2*n))=hist.map id:=List.map_congr_left fun c hc=>(hm c hc).2
  rw [e,List.map_id]
theorem b8z {p:Cd} {u:Us} (hp:p.length≤4) (hu:u.length≤2) {hs:List Hd} {hist:ZH} {a b:Int} (H:HI p u hs hist a b) (h6:hist.length≤6) (ha:a≤100) (hb:b≤100):okH hist=true:=by
  unfold okH
  simp only [Bool.and_eq_true,decide_eq_true_eq]
  refine ⟨by omega,C8.2 fun k hk=>?_⟩
  have O:=H.ok k hk
  unfold a9X
  simp only [Bool.and_eq_true]
  refine ⟨?_,C8.2 fun j hj=>?_⟩
  · obtain ⟨o1,o2,o3,o4,o5,o6⟩:=O
    unfold okC inB
    simp only [Bool.and_eq_true,Bool.or_eq_true,decide_eq_true_eq]
    refine ⟨⟨⟨⟨⟨?_,?_⟩,?_⟩,?_⟩,?_⟩,?_⟩<;>omega
  · have J:=H.ok j (by omega)
    have f:=H.fr j k hj hk
    have t:=H.tt j k hj hk
    have s:=H.sm j k hj hk
    obtain ⟨o1,o2,o3,o4,o5,o6⟩:=O
    obtain ⟨q1,q2,q3,q4,q5,q6⟩:=J
    unfold a1q bef
    simp only [Bool.and_eq_true,Bool.or_eq_true,Bool.not_eq_true',Bool.not_eq_false',decide_eq_true_eq,decide_eq_false_iff_not,Bool.and_eq_false_iff]
    refine ⟨⟨⟨⟨?_,?_⟩,?_⟩,?_⟩,?_⟩
    · omega
    · omega
    · omega
    · omega
    · omega
theorem a5J {u:Us} {st:St} {x:Int} (h:x∈D1 u st):rB x (u.length:Int)=true∧a1V u st x.toNat=true:=by
  unfold D1 at h
  obtain ⟨t,ht,hx⟩:=List.mem_flatMap.1 h
  split at hx
  · rename_i c
    rw [List.mem_singleton] at hx
    subst hx
    rw [List.mem_range] at ht
    exact ⟨m5.2 (by omega),by rw [Int.toNat_natCast]; exact c⟩
  · cases hx
theorem b6G {c:Cd} {u:Us} (hc:L5 c=true) (hu:I9 c u=true):a5g c u=0:=by unfold a5g; rw [hc,hu]; rfl
theorem a4R {c:Cd} {u:Us} (hc:L5 c=true) (hu:I9 c u=true) {l:List Int} {st:St} (h:goA c u (st0 u) l=some st) (h12:l.length≤12):a4u c u l=.inr st:=by
  unfold a4u
  rw [if_pos (b6G hc hu),if_pos h12,h]
theorem a7a {x:Sp×Cd×Us} (hf:a1g x.2.1) (hc:L5 x.2.1=true) (hu:I9 x.2.1 x.2.2=true) (picks:List Int) (hp:∀ q∈picks,0≤q∧q≤255) {n:Nat} (hn:n≤12):∀ (d:Nat) (l:List Int) (st:St),n - l.length=d→l.length≤n→goA x.2.1 x.2.2 (st0 x.2.2) l=some st →
    (∃ l' st',j7 (i8 x picks (n:Int)) (l,(l.length:Int))=some (.inl (l',true,true))∧goA x.2.1 x.2.2 (st0 x.2.2) l'=some st'∧D1 x.2.2 st'=[]∧l'.length≤n) ∨
    (∃ l' st',j7 (i8 x picks (n:Int)) (l,(l.length:Int))=some (.inr l')∧goA x.2.1 x.2.2 (st0 x.2.2) l'=some st'∧l'.length≤n)
  | 0,l,st,hd,hl,h=>by
    refine .inr ⟨l,st,J4 ?_,h,hl⟩
    unfold i8
    rw [if_neg (by rw [decide_eq_true_eq]; show ¬ (l.length:Int)<(n:Int); omega)]
  | d+1,l,st,hd,hl,h=>by
    have hul:=O5 hu
    have h2:=a8l x.2.2 hul.2.1 st
    have eL:X3 x.2.1 x.2.2 l=some (D1 x.2.2 st,0):=by
      have:=(b0w hf x.2.2 l)
      rw [a4R hc hu h (by omega)] at this
      exact this
    by_cases h0:D1 x.2.2 st=[]
    · refine .inl ⟨l,st,J4 ?_,h,h0,hl⟩
      unfold i8
      dsimp only
      rw [if_pos (decide_eq_true (by omega)),eL,Option.bind_some]
      dsimp only
      rw [if_neg (by simp),h0,if_pos (by simp)]
    · have hpos:0<(D1 x.2.2 st).length:=List.length_pos_iff.2 h0
      obtain ⟨j,hj,eb⟩:∃ j,j<(D1 x.2.2 st).length∧i8 x picks (n:Int) (l,(l.length:Int))=u7 x (l,(l.length:Int)) ((D1 x.2.2 st).getD j 0):=by
        have e0:i8 x picks (n:Int) (l,(l.length:Int))=_:=rfl
        by_cases hq:l.length<picks.length
        · have hg:=a0m (d:=(0:Int)) hq
          have hb:=hp _ hg
          generalize hy:picks.getD l.length 0=y at hb
          have m1:=Int.emod_lt_of_pos y (show 0<((D1 x.2.2 st).length:Int) by omega)
          have m0:=Int.emod_nonneg y (show ((D1 x.2.2 st).length:Int)≠0 by omega)
          refine ⟨(y % ((D1 x.2.2 st).length:Int)).toNat,by generalize y % ((D1 x.2.2 st).length:Int)=z at m0 m1; omega,?_⟩
          unfold i8
          dsimp only
          rw [if_pos (decide_eq_true (by omega)),eL,Option.bind_some]
          dsimp only
          rw [Int.toNat_natCast,hy,if_neg (by simp),if_neg (by rw [decide_eq_true_eq]; omega),b4 (by omega),if_pos (decide_eq_true (by omega)),b4 (by omega),b4 (by omega),b4 (by rw [l4]; omega),b4 (by omega),b4 (by omega),b4 m0,b4 m1]
        · refine ⟨0,hpos,?_⟩
          unfold i8
          dsimp only
          rw [if_pos (decide_eq_true (by omega)),eL,Option.bind_some]
          dsimp only
          rw [if_neg (by simp),if_neg (by rw [decide_eq_true_eq]; omega),b4 (by omega),if_neg (by rw [decide_eq_true_eq]; omega)]
      have hm:=a5J (a0m (d:=(0:Int)) hj)
      generalize (D1 x.2.2 st).getD j 0=y at hm eb
      have hy:=m5.1 hm.1
      have nx:i8 x picks (n:Int) (l,(l.length:Int))=some (.next (l++[y],((l++[y]).length:Int))):=by
        rw [eb]
        unfold u7
        dsimp only
        rw [if_neg (by rw [decide_eq_true_eq]; omega),if_neg (by rw [decide_eq_true_eq]; omega),b4 (by omega),b4 (by rw [l4]; omega),List.length_append,List.length_singleton]
        rfl
      have hg:goA x.2.1 x.2.2 (st0 x.2.2) (l++[y])=some (M2 x.2.1 x.2.2 st y.toNat):=by
        rw [a9c,h,Option.bind_some,a2p,if_pos hm]; rfl
      rcases a7a hf hc hu picks hp hn d (l++[y]) _ (by rw [List.length_append,List.length_singleton]; omega) (by rw [List.length_append,List.length_singleton]; omega) hg with ⟨l',st',a,b,e,f⟩|⟨l',st',a,b,f⟩
      · exact .inl ⟨l',st',E1 nx a,b,e,f⟩
      · exact .inr ⟨l',st',E1 nx a,b,f⟩
theorem b4c {x:Sp×Cd×Us} (hf:a1g x.2.1) (hc:L5 x.2.1=true) (hu:I9 x.2.1 x.2.2=true) (picks:List Int) (hp:∀ q∈picks,0≤q∧q≤255) {n:Nat} (hn:n≤12) :
    ∃ l st,F2 x picks (n:Int)=some (l,decide (D1 x.2.2 st=[]),true)∧goA x.2.1 x.2.2 (st0 x.2.2) l=some st∧l.length≤n:=by
  unfold F2
  rcases a7a hf hc hu picks hp hn n [] (st0 x.2.2) (by simp) (by simp) rfl with ⟨l',st',a,b,e,f⟩|⟨l',st',a,b,f⟩
  · have a':j7 (i8 x picks (n:Int)) ([],0)=some (.inl (l',true,true)):=a
    rw [a']
    exact ⟨l',st',by rw [Option.bind_some,e]; rfl,b,f⟩
  · have a':j7 (i8 x picks (n:Int)) ([],0)=some (.inr l'):=a
    rw [a',Option.bind_some]
    refine ⟨l',st',?_,b,f⟩
    simp only
    unfold G5
    have eL:X3 x.2.1 x.2.2 l'=some (D1 x.2.2 st',0):=by
      have:=(b0w hf x.2.2 l')
      rw [a4R hc hu b (by omega)] at this
      exact this
    rw [eL,Option.bind_some]
    dsimp only
    cases h:D1 x.2.2 st' with
    | nil=>simp
    | cons a r=>simp; omega
theorem b6M {x:Sp×Cd×Us} (fc:few x.2.1) (fu:few x.2.2) (hs:okS x.1):∃ b,K5 x=some b∧(b=true→L5 x.2.1=true∧I9 x.2.1 x.2.2=true∧(a0r x.1).ok=true∧x.1.2.1=(x.2.1.length:Int)):=by
  unfold K5
  obtain ⟨b,eb⟩:=b4r x fc fu
  rw [eb,Option.bind_some,a8c]
  cases b with
  | true=>exact ⟨false,by rw [if_neg (by simp)],fun h=>by cases h⟩
  | false =>
    rw [if_pos (by simp),Option.bind_some]
    cases hc:L5 x.2.1 with
    | false=>exact ⟨false,by rw [if_neg (by simp)],fun h=>by cases h⟩
    | true =>
      rw [if_pos rfl,a9U x.1 hs,Option.bind_some]
      cases hv:(a0r x.1).ok with
      | false=>exact ⟨false,by rw [if_neg (by simp)],fun h=>by cases h⟩
      | true =>
        rw [if_pos rfl]
        by_cases ho:x.1.2.1=(x.2.1.length:Int)
        · rw [if_pos (decide_eq_true ho),a8d _ (by have:=a3d hc; omega)]
          exact ⟨_,rfl,fun h=>⟨rfl,h,rfl,ho⟩⟩
        · rw [if_neg (by rw [decide_eq_true_eq]; exact ho)]
          exact ⟨false,rfl,fun h=>by cases h⟩
abbrev KTy:Ty:=.pair Y3 (.pair (.sl (.sl Y4)) (.sl (.sl .i)))
theorem b4T {x:Sp×Cd×Us} (hx:a4W KTy x):few x.2.1∧few x.2.2∧a1g x.2.1∧okS x.1:=by
  obtain ⟨hs,hc,hu⟩:=hx
  have e8:Ty.bytes (.sl Y4)=24:=rfl
  have e9:Ty.bytes (.sl .i)=24:=rfl
  have e1:Ty.bytes .i=8:=rfl
  have tb:∀ {l:List (List Int)},a4W (.sl (.sl .i)) l→okT l:=fun {l} h=>by
    refine ⟨?_,fun r hr=>?_⟩
    · have:=h.1; rw [e9] at this; omega
    · have:=(h.2.2 r hr).1; rw [e1] at this; omega
  refine ⟨?_,?_,fun ls hls l hl=>?_,tb hs.2.2.1,tb hs.2.2.2⟩
  · have:=hc.1; rw [e8] at this; unfold few; omega
  · have:=hu.1; rw [e9] at this; unfold few; omega
  · have:=(hc.2.2 ls hls).2.2 l hl
    exact ⟨this.1,this.2.1,this.2.2.1,this.2.2.2⟩
def a0z (p:Cd) (u:Us):Nat→St→List St
  | 0,st=>[st]
  | k+1,st=>if D1 u st=[] then [st] else (D1 u st).flatMap fun x=>a0z p u k (M2 p u st x.toNat)
def RnR (p:Cd) (u:Us) (y:Rn) (st:St):Prop:=∃ D W K bg mk,y=((p,u),st.sc,D,st.v,W,K,bg)∧Rl p u st D W K bg mk
theorem b4W {S R:Type} (n:Int) (yl:Rn→S→Option (Step S R)) (rest:List Rn) (hr:rest.length≤100) (y:Rn) (s:S) {l:List Int} (hl:E7 y=some l) :
    j9 S R n yl (rest++[y],s) =
      if l.length=0∨(y.2.1.length:Int)=n then (yl y s).bind fun x=>match x with|.next s'=>some (.next (rest,s'))|.done e=>some (.done (.inl e))
      else (w8 (List Rn) Empty l (i7 S R (rest++[y],s)) rest).bind fun x=>match x with|.inl st2=>some (.next (st2,s))|.inr r=>r.elim:=by
  have e1:((rest++[y]).length:Int)=(rest.length:Int)+1:=by simp
  have e2:∀ d,(rest++[y]).getD rest.length d=y:=fun d=>a5T
  have e3:(rest++[y]).take rest.length=rest:=by simp
  unfold j9 v7
  dsimp only
  rw [e1,Int.add_sub_cancel,Int.toNat_natCast,e2,e3,if_pos (decide_eq_true (by omega)),b4 (by rw [l4]; omega),b4 (by omega),b4 (by omega),b4 (by rw [l4]; omega),b4 (by omega),b4 (by omega),hl,Option.bind_some]
  by_cases c:l.length=0
  · rw [if_pos (decide_eq_true (by omega)),if_pos (.inl c)]
    congr 1
  · rw [if_neg (by rw [decide_eq_true_eq]; omega)]
    by_cases c2:(y.2.1.length:Int)=n
    · rw [if_pos (decide_eq_true c2),if_pos (.inr c2)]
      congr 1
    · rw [if_neg (by rw [decide_eq_true_eq]; exact c2),if_neg (by rintro (q|q); exact c q; exact c2 q)]
      unfold V8
      rw [Option.bind_some]
      congr 1
theorem b3U {p:Cd} {u:Us} (hp:L5 p=true) (hu:I9 p u=true) {S R:Type} {rest:List Rn} {y:Rn} {st:St} (hy:RnR p u y st) (s:S) {i x:Int} (hx:rB x (u.length:Int)=true∧a1V u st x.toNat=true) (h12:st.sc.length<12) {acc:List Rn} (ha:acc.length≤100) :
    ∃ c,i7 S R (rest++[y],s) (i,x) acc=some (.next (acc++[c]))∧RnR p u c (M2 p u st x.toNat):=by
  have e1:((rest++[y]).length:Int)=(rest.length:Int)+1:=by simp
  have e2:∀ d,(rest++[y]).getD rest.length d=y:=fun d=>a5T
  obtain ⟨D,W,K,bg,mk,rfl,Rr⟩:=hy
  have hb:=m5.1 hx.1
  obtain ⟨t,rfl⟩:∃ t:Nat,x=(t:Int):=⟨x.toNat,by omega⟩
  rw [Int.toNat_natCast] at hx ⊢
  obtain ⟨D',W',K',bg',a,b,c⟩:=a5u hp hu Rr (by omega) hx.2 h12 []
  refine ⟨_,?_,⟨D',W',K',bg',_,rfl,c⟩⟩
  unfold i7
  dsimp only
  rw [e1,Int.add_sub_cancel,Int.toNat_natCast,e2,a,Option.bind_some,b4 (by omega),List.take_length]
  rfl
theorem b4d {p:Cd} {u:Us} (hp:L5 p=true) (hu:I9 p u=true) {S R:Type} (yl:Rn→S→Option (Step S R)) (F:St→S→Option (Step S R)) (n:Nat) (hn:n≤12)
    (hF:∀ y st s,RnR p u y st→Good p u st→(D1 u st=[]∨st.sc.length=n)→st.sc.length≤n→yl y s=F st s) :
    ∀ (k:Nat) (st:St) (y:Rn) (rest:List Rn) (s:S) (x:Sum S R),RnR p u y st→Good p u st→st.sc.length+k=n→rest.length+2*k≤30→a2Z F (a0z p u k st) s=some x →
      (∀ e,x=.inr e→j7 (j9 S R (n:Int) yl) (rest++[y],s)=some (.inl e))∧(∀ s',x=.inl s'→∀ r,j7 (j9 S R (n:Int) yl) (rest,s')=some r→j7 (j9 S R (n:Int) yl) (rest++[y],s)=some r):=by
  have hul:=O5 hu
  have leaf:∀ (st:St) (y:Rn) (rest:List Rn) (s:S) (x:Sum S R),RnR p u y st→Good p u st→(D1 u st=[]∨st.sc.length=n)→st.sc.length≤n→rest.length≤30→a2Z F [st] s=some x →
      (∀ e,x=.inr e→j7 (j9 S R (n:Int) yl) (rest++[y],s)=some (.inl e))∧(∀ s',x=.inl s'→∀ r,j7 (j9 S R (n:Int) yl) (rest,s')=some r→j7 (j9 S R (n:Int) yl) (rest++[y],s)=some r):=fun st y rest s x hy G he hle hr h=>by
    have hy':=hy
    obtain ⟨D,W,K,bg,mk,e,Rr⟩:=hy'
    have hl:E7 y=some (D1 u st):=by rw [e]; exact a5Z hu Rr _ _ _
    have hp1:=b4W (n:Int) yl rest (by omega) y s hl
    have e21:y.2.1=st.sc:=by rw [e]
    rw [if_pos (by rw [e21]; rcases he with q|q; exact .inl (by rw [q]; rfl); exact .inr (by rw [q])),hF y st s hy G he hle] at hp1
    simp only [a2Z] at h
    cases hf:F st s with
    | none=>rw [hf] at h; cases h
    | some z =>
      rw [hf,Option.bind_some] at h hp1
      cases z with
      | next s' =>
        simp only at h hp1
        injection h with h
        subst h
        exact ⟨fun e q=>(by cases q),fun s'' q r hr=>(by injection q with q; subst q; exact E1 hp1 hr)⟩
      | done e =>
        simp only at h hp1
        injection h with h
        subst h
        exact ⟨fun e q=>(by injection q with q; subst q; exact J4 hp1),fun s'' q=>(by cases q)⟩
  intro k
  induction k with
  | zero=>exact fun st y rest s x hy G hk hr h=>leaf st y rest s x hy G (.inr (by omega)) (by omega) (by omega) h
  | succ k ih =>
    intro st y rest s x hy G hk hr h
    unfold a0z at h
    by_cases c:D1 u st=[]
    · rw [if_pos c] at h
      exact leaf st y rest s x hy G (.inl c) (by omega) (by omega) h
    · rw [if_neg c] at h
      have hy':=hy
      obtain ⟨D,W,K,bg,mk,e,Rr⟩:=hy'
      have hl:E7 y=some (D1 u st):=by rw [e]; exact a5Z hu Rr _ _ _
      have hp1:=b4W (n:Int) yl rest (by omega) y s hl
      have e21:y.2.1=st.sc:=by rw [e]
      have hlen:(D1 u st).length≠0:=fun q=>c (List.length_eq_zero_iff.1 q)
      rw [if_neg (by rw [e21]; rintro (q|q); exact hlen q; omega)] at hp1
      have h2:=a8l u hul.2.1 st
      have hm:∀ a∈D1 u st,rB a (u.length:Int)=true∧a1V u st a.toNat=true:=fun a ha=>a5J ha
      have gs:∀ a,rB a (u.length:Int)=true∧a1V u st a.toNat=true→Good p u (M2 p u st a.toNat)∧(M2 p u st a.toNat).sc.length=st.sc.length+1:=fun a ha=>by
        have:=m5.1 ha.1
        exact ⟨(a8q hp hu G (by omega) ha.2 (by omega)).1,by rw [a2B]; simp⟩
      have bend:∀ (l:List Int) (acc:List Rn),j7 (p4 (List Rn) Empty l (i7 S R (rest++[y],s))) (-1,acc)=some (.inr acc):=fun l acc=>by
        refine J4 ?_
        unfold p4
        rw [if_neg (by simp)]
      have bnx:∀ (l:List Int) (j:Nat) (acc acc':List Rn),j<l.length→j≤10→i7 S R (rest++[y],s) ((j:Int),l.getD j 0) acc=some (.next acc')→p4 (List Rn) Empty l (i7 S R (rest++[y],s)) ((j:Int),acc)=some (.next ((j:Int) - 1,acc')):=fun l j acc acc' hj hj2 q=>by
        unfold p4
        rw [if_pos (decide_eq_true (by omega)),b4 (by omega),b4 (by omega),Int.toNat_natCast,q,Option.bind_some]
        simp only
        rw [b4 (by rw [l4]; omega)]
      match hL:D1 u st with
      | []=>exact absurd hL c
      | [a] =>
        rw [hL] at hm hp1 h
        obtain ⟨G1,l1⟩:=gs a (hm a (by simp))
        obtain ⟨c1,q1,r1⟩:=b3U hp hu (R:=R) (rest:=rest) hy s (i:=0) (hm a (by simp)) (by omega) (acc:=rest) (by omega)
        have eb:w8 (List Rn) Empty [a] (i7 S R (rest++[y],s)) rest=some (.inl (rest++[c1])):=by
          have w:=E1 (bnx [a] 0 rest _ (by simp) (by omega) q1) (bend [a] _)
          have w':j7 (p4 (List Rn) Empty [a] (i7 S R (rest++[y],s))) ((([a]:List Int).length:Int) - 1,rest)=some (.inr (rest++[c1])):=w
          unfold w8
          rw [w',b4 (by rw [l4]; simp)]; rfl
        rw [eb,Option.bind_some] at hp1
        simp only at hp1
        simp only [List.flatMap_cons,List.flatMap_nil,List.append_nil] at h
        obtain ⟨i1,i2⟩:=ih _ c1 rest s x r1 G1 (by omega) (by omega) h
        exact ⟨fun e q=>E1 hp1 (i1 e q),fun s' q r w=>E1 hp1 (i2 s' q r w)⟩
      | [a,b] =>
        rw [hL] at hm hp1 h
        obtain ⟨G1,l1⟩:=gs a (hm a (by simp))
        obtain ⟨G2,l2⟩:=gs b (hm b (by simp))
        obtain ⟨c2,q2,r2⟩:=b3U hp hu (R:=R) (rest:=rest) hy s (i:=1) (hm b (by simp)) (by omega) (acc:=rest) (by omega)
        obtain ⟨c1,q1,r1⟩:=b3U hp hu (R:=R) (rest:=rest) hy s (i:=0) (hm a (by simp)) (by omega) (acc:=rest++[c2]) (by simp; omega)
        have eb:w8 (List Rn) Empty [a,b] (i7 S R (rest++[y],s)) rest=some (.inl ((rest++[c2])++[c1])):=by
          have w:=E1 (bnx [a,b] 1 rest _ (by simp) (by omega) q2) (E1 (bnx [a,b] 0 _ _ (by simp) (by omega) q1) (bend [a,b] _))
          have w':j7 (p4 (List Rn) Empty [a,b] (i7 S R (rest++[y],s))) ((([a,b]:List Int).length:Int) - 1,rest)=some (.inr ((rest++[c2])++[c1])):=w
          unfold w8
          rw [w',b4 (by rw [l4]; simp)]; rfl
        rw [eb,Option.bind_some] at hp1
        simp only at hp1
        simp only [List.flatMap_cons,List.flatMap_nil,List.append_nil] at h
        rw [a5e] at h
        cases h1:a2Z F (a0z p u k (M2 p u st a.toNat)) s with
        | none=>rw [h1] at h; cases h
        | some x1 =>
          rw [h1,Option.bind_some] at h
          obtain ⟨i1,i2⟩:=ih _ c1 (rest++[c2]) s x1 r1 G1 (by omega) (by simp; omega) h1
          cases x1 with
          | inr e1 =>
            simp only at h
            injection h with h
            subst h
            exact ⟨fun e q=>(by injection q with q; subst q; exact E1 hp1 (i1 _ rfl)),fun s' q=>(by cases q)⟩
          | inl s1 =>
            simp only at h
            obtain ⟨j1,j2⟩:=ih _ c2 rest s1 x r2 G2 (by omega) (by omega) h
            exact ⟨fun e q=>E1 hp1 (i2 s1 rfl _ (j1 e q)),fun s' q r w=>E1 hp1 (i2 s1 rfl _ (j2 s' q r w))⟩
      | a::b::d::r=>rw [hL] at h2; simp at h2
theorem b6j {p:Cd} {u:Us} (hp:L5 p=true) (hu:I9 p u=true) {S R:Type} (yl:Rn→S→Option (Step S R)) (F:St→S→Option (Step S R)) (n:Nat) (hn:n≤12)
    (hF:∀ y st s,RnR p u y st→Good p u st→(D1 u st=[]∨st.sc.length=n)→st.sc.length≤n→yl y s=F st s) (s:S) {x:Sum S R} (h:a2Z F (a0z p u n (st0 u)) s=some x):H6 S R (p,u) (n:Int) yl s=some x:=by
  have T:=b4d hp hu yl F n hn hF n (st0 u) ((p,u),[],Ty.dflt T80,(0,0,0),Ty.dflt T85,Ty.dflt T86,0) [] s x ⟨_,_,_,_,_,rfl,a9h hu⟩ (b0l hu) (by simp [st0]) (by simp; omega) h
  unfold H6
  cases x with
  | inl s' =>
    have w:=T.2 s' rfl (.inr s') (J4 (by unfold j9; rw [if_neg (by simp)]))
    rw [List.nil_append] at w
    rw [w]; rfl
  | inr e =>
    have w:=T.1 e rfl
    rw [List.nil_append] at w
    rw [w]; rfl
def oth (a b n:Int):Int:=if n=a then b else if n=b then a else n
def b8M (a b:Int) (l:Ln):Ln:=if l.1=1 then (l.1,l.2.1,oth a b l.2.2.1,l.2.2.2) else if l.1=2∨l.1=3 then (l.1,oth a b l.2.1,l.2.2) else l
def b8T (a b:Int) (c:Cd):Cd:=c.map fun ls=>ls.map (b8M a b)
/-! ### A specification -/
theorem b7r {st op:Int} {p:Int→Bool} {rs:List (List Int)} (h:tab st op p rs=true) {q:Int} (hq:0≤q∧q<st):q<(rs.length:Int)∧((rs.getD q.toNat []).length:Int)=op∧∀ o,0≤o→o<op→p ((rs.getD q.toNat []).getD o.toNat 0)=true:=by
  unfold tab at h
  simp only [Bool.and_eq_true,decide_eq_true_eq,List.all_eq_true] at h
  have hl:q.toNat<rs.length:=by omega
  have:=h.2 _ (a0m (d:=[]) hl)
  exact ⟨by omega,this.1,fun o h0 h1=>this.2 _ (a0m (by omega))⟩
structure SpOk (s:SpT):Prop where
  st:1≤s.1∧s.1≤8
  op:1≤s.2.1∧s.2.1≤4
  nx:tab s.1 s.2.1 (inR s.1) s.2.2.1=true
  sy:tab s.1 s.2.1 a4C s.2.2.2=true
def nxS (s:SpT) (q o:Int):Int:=(s.2.2.1.getD q.toNat []).getD o.toNat 0
def syS (s:SpT) (q o:Int):Int:=(s.2.2.2.getD q.toNat []).getD o.toNat 0
theorem b8I {s:SpT} (h:SpOk s) {q o:Int} (hq:0≤q∧q<s.1) (ho:0≤o∧o<s.2.1):0≤nxS s q o∧nxS s q o<s.1:=by
  have:=(b7r h.nx hq).2.2 o ho.1 ho.2
  unfold inR at this
  exact of_decide_eq_true this
def b8O (s:SpT):Int→List Int→List Int
  | _,[]=>[]
  | q,o::w=>syS s q o::b8O s (nxS s q o) w
def b8N (s:SpT):Int→List Int→Int
  | q,[]=>q
  | q,o::w=>b8N s (nxS s q o) w
theorem a5l {s:SpT} (hs:okS s) {c:Cd} (hf:a1g c):P9 s c=some (if L5 c=true then (if (a0r s).ok=true∧s.2.1=(c.length:Int) then 0 else 10) else 80):=by
  unfold P9
  rw [b0B hf,Option.bind_some]
  cases hc:L5 c with
  | false=>rfl
  | true =>
    rw [if_neg (by simp),if_pos rfl,a69 s hs,Option.bind_some]
    cases hv:(a0r s).ok with
    | false=>rw [if_pos (by simp),if_neg (by simp)]
    | true =>
      rw [if_neg (by simp)]
      by_cases ho:s.2.1=(c.length:Int)
      · rw [if_neg (by simp [ho]),if_pos ⟨rfl,ho⟩]
      · rw [if_pos (by simp [ho]),if_neg (fun q=>ho q.2)]
/-! ### One thread alone -/
def b8t (p:Cd) (w:List Int):Nat→St→St
  | 0,st=>st
  | k+1,st=>if a1V [w] st 0=true then b8t p w k (M2 p [w] st 0) else st
theorem b8S (w:List Int) (st:St):D1 [w] st=if a1V [w] st 0=true then [0] else []:=by
  unfold D1
  show ((List.range 1).flatMap fun t=>if a1V [w] st t=true then [(t:Int)] else [])=_
  rw [show List.range 1=[0] from rfl]
  simp
end Go.Proofs.Ytenchhmcjmjlbaa
