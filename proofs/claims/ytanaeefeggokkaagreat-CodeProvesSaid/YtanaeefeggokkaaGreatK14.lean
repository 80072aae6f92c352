import Derived.Test.YtanaeefeggokkaaGreatK8
import Derived.Test.YtanaeefeggokkaaGreatKs
namespace Go.Proofs.YtanaeefeggokkaaGreat
open Go.RowKit
set_option linter.unusedVariables false
set_option linter.unusedSimpArgs false
set_option maxRecDepth 10000
theorem b2J {p:Cd} {u:Us} (hp:K1 p=true) (hu:J9 p u=true) {st:St} {D:El T72} {W:El T77} {K:El T78} {bg:Int} {mk:List Int} (R:Rl p u st D W K bg mk) {t:Nat} (ht:t<u.length) (hL:a2J u st t=true) {n:Int} (hn:0≤n∧n≤100) :
    ∃ W' K' bg' mk',Inv p u W' K' bg' st.v (V8 u st.hs st.hist t n).1 (V8 u st.hs st.hist t n).2 mk'∧((V8 u st.hs st.hist t n).1.getD t (0,0,false,0,0,0,0,0)).2.2.1=true:=by
  have I:=R.inv;have r:=I.rh t ht;rw [← a7C R ht] at hL;have hL:=of_decide_eq_true hL;unfold V8
  cases hin:(st.hs.getD t (0,0,false,0,0,0,0,0)).2.2.1 with
  | true=>rw [if_pos rfl]; exact ⟨W,K,bg,mk,I,hin⟩
  | false =>
    rw [if_neg (by simp)];have B:=a9y hp hu I ht hin hL hn;rw [← r.no hin] at B;exact ⟨_,_,_,_,B.2,by dsimp only; rw [b3h (by rw [I.hl]; exact ht)]⟩
theorem b9e {p:Cd} {u:Us} (hp:K1 p=true) {W:El T77} {K:El T78} {bg:Int} {v:C3} {hs:List Hd} {hist:ZH} {mk:List Int} (I:Inv p u W K bg v hs hist mk) {t:Nat} (ht:t<u.length) (hin:(hs.getD t (0,0,false,0,0,0,0,0)).2.2.1=true) :
    (∃ m,okL (lnA p hist (hs.getD t (0,0,false,0,0,0,0,0))) m=true)∧∀ a,rB a 4=true→0≤rgU (hs.getD t (0,0,false,0,0,0,0,0)) a∧rgU (hs.getD t (0,0,false,0,0,0,0,0)) a≤9:=by
  have r:=(I.rh t ht).op hin;have hcall:=a6e hp (o:=(opC hist (hs.getD t (0,0,false,0,0,0,0,0))).toNat) (by have:=r.o0; have:=r.o1; omega);have hln:(hs.getD t (0,0,false,0,0,0,0,0)).2.1.toNat<(p.getD (opC hist (hs.getD t (0,0,false,0,0,0,0,0))).toNat []).length:=by have:=r.l0; have:=r.l1; omega
  unfold a4a at hcall;simp only [Bool.and_eq_true,List.all_eq_true] at hcall;exact ⟨⟨_,hcall.2.2 _ (a0V hln)⟩,r.r9⟩
theorem a08 (p:Cd) (u:Us) (st:St) (x:Int) (r:List Int):goA p u st (x::r)=if rB x (u.length:Int)=true∧a2J u st x.toNat=true then goA p u (N5 p u st x.toNat) r else none:=rfl
theorem b0c {p:Cd} {u:Us}:∀ (l r:List Int) (st:St),goA p u st (l++r)=(goA p u st l).bind fun s=>goA p u s r
  | [],r,st=>rfl
  | x::l,r,st=>by
    rw [List.cons_append,a08,a08]
    split
    · exact b0c l r _
    · rfl
structure Good (p:Cd) (u:Us) (st:St):Prop where
  rl:∃ D W K bg mk,Rl p u st D W K bg mk
  hi:HI p u st.hs st.hist (2*(st.sc.length:Int) - 1) (2*(st.sc.length:Int))
  go:goA p u (st0 u) st.sc=some st
theorem b1r {p:Cd} {u:Us} (hu:J9 p u=true):Good p u (st0 u):=⟨⟨_,_,_,_,_,b0h hu⟩,b87,rfl⟩
theorem a6I {p:Cd} {u:Us} (hp:K1 p=true) (hu:J9 p u=true) {st:St} (G:Good p u st) {t:Nat} (ht:t<u.length) (hL:a2J u st t=true) (h12:st.sc.length<12) :
    Good p u (N5 p u st t)∧∀ m:Int,0≤m→m≤st.sc.length→a1j (N5 p u st t).hist (2*m)=a1j st.hist (2*m):=by
  obtain ⟨D,W,K,bg,mk,R⟩:=G.rl;obtain ⟨D',W',K',bg',a,c⟩:=b10 hp hu R ht hL h12 [];obtain ⟨W2,K2,bg2,mk2,I2,hin⟩:=b2J hp hu R ht hL (n:=(st.sc.length:Int)) (by omega);have hr:(st.hs.getD t (0,0,false,0,0,0,0,0)).2.2.1=true∨(st.hs.getD t (0,0,false,0,0,0,0,0)).1<((u.getD t []).length:Int):=by
    unfold a2J at hL;simp only [Bool.or_eq_true,decide_eq_true_eq] at hL;exact hL
  obtain ⟨H1,_,u1⟩:=b6j hu G.hi (by omega) ht hr;obtain ⟨⟨m,ok⟩,r9⟩:=b9e hp I2 ht hin;obtain ⟨H2,u2⟩:=b9s (v:=st.v) (n:=(st.sc.length:Int)) H1 (by omega) (by omega) ht hin ok r9;have el:((N5 p u st t).sc.length:Int)=st.sc.length+1:=by rw [a2e]; simp
  refine ⟨⟨⟨_,_,_,_,_,c⟩,?_,?_⟩,fun m hm0 hm=>?_⟩
  · rw [el];exact H2.mono (by omega) (by omega)
  · rw [a2e,b0c,G.go,Option.bind_some,a08,if_pos ⟨r7.2 (by omega),by rw [Int.toNat_natCast]; exact hL⟩,Int.toNat_natCast];rfl
  · exact (u2 m hm0 hm).trans (u1 m hm0 hm)
theorem a7E {p:Cd} {u:Us} (hp:K1 p=true) (hu:J9 p u=true):∀ {l:List Int} {st st':St},goA p u st l=some st'→Good p u st→st.sc.length+l.length≤12→Good p u st'∧∀ m:Int,0≤m→m≤st.sc.length→a1j st'.hist (2*m)=a1j st.hist (2*m)
  | [],st,st',h,G,_=>by injection h with h; subst h; exact ⟨G,fun m _ _=>rfl⟩
  | x::r,st,st',h,G,h12=>by
    unfold goA at h
    split at h
    · rename_i c;have hx:=r7.1 c.1;rw [List.length_cons] at h12;obtain ⟨G1,u1⟩:=a6I hp hu G (by omega) c.2 (by omega);have el:(N5 p u st x.toNat).sc.length=st.sc.length+1:=by rw [a2e]; simp
      obtain ⟨G2,u2⟩:=a7E hp hu h G1 (by omega);exact ⟨G2,fun m hm0 hm=>(u2 m hm0 (by omega)).trans (u1 m hm0 hm)⟩
    · cases h
theorem b9K {p:Cd} {u:Us} (hp:p.length≤4) (hu:u.length≤2) {hs:List Hd} {hist:ZH} {a b:Int} (H:HI p u hs hist a b) (h6:hist.length≤6) (ha:a≤100) (hb:b≤100):okH hist=true:=by
  unfold okH;simp only [Bool.and_eq_true,decide_eq_true_eq];refine ⟨by omega,P5.2 fun k hk=>?_⟩;have O:=H.ok k hk;unfold b00;simp only [Bool.and_eq_true];refine ⟨?_,P5.2 fun j hj=>?_⟩
  · obtain ⟨o1,o2,o3,o4,o5,o6⟩:=O;unfold okC inB;simp only [Bool.and_eq_true,Bool.or_eq_true,decide_eq_true_eq];refine ⟨⟨⟨⟨⟨?_,?_⟩,?_⟩,?_⟩,?_⟩,?_⟩<;>omega
  · have J:=H.ok j (by omega);have f:=H.fr j k hj hk;have t:=H.tt j k hj hk;have s:=H.sm j k hj hk;obtain ⟨o1,o2,o3,o4,o5,o6⟩:=O;obtain ⟨q1,q2,q3,q4,q5,q6⟩:=J;unfold a5u bef;simp only [Bool.and_eq_true,Bool.or_eq_true,Bool.not_eq_true',Bool.not_eq_false',decide_eq_true_eq,decide_eq_false_iff_not,Bool.and_eq_false_iff];refine ⟨⟨⟨⟨?_,?_⟩,?_⟩,?_⟩,?_⟩
    · omega
    · omega
    · omega
    · omega
    · omega
theorem a6y {u:Us} {st:St} {x:Int} (h:x∈v5 u st):rB x (u.length:Int)=true∧a2J u st x.toNat=true:=by
  unfold v5 at h;obtain ⟨t,ht,hx⟩:=List.mem_flatMap.1 h
  split at hx
  · rename_i c;rw [List.mem_singleton] at hx;subst hx;rw [List.mem_range] at ht;exact ⟨r7.2 (by omega),by rw [Int.toNat_natCast]; exact c⟩
  · cases hx
theorem b71 {c:Cd} {u:Us} (hc:K1 c=true) (hu:J9 c u=true):a6M c u=0:=by unfold a6M; rw [hc,hu]; rfl
theorem a4C {c:Cd} {u:Us} (hc:K1 c=true) (hu:J9 c u=true) {l:List Int} {st:St} (h:goA c u (st0 u) l=some st) (h12:l.length≤12):a5f c u l=.inr st:=by
  unfold a5f;rw [if_pos (b71 hc hu),if_pos h12,h]
theorem a7Z {x:Sp×Cd×Us} (hf:a2t x.2.1) (hc:K1 x.2.1=true) (hu:J9 x.2.1 x.2.2=true) (picks:List Int) (hp:∀ q∈picks,0≤q∧q≤255) {n:Nat} (hn:n≤12):∀ (d:Nat) (l:List Int) (st:St),n - l.length=d→l.length≤n→goA x.2.1 x.2.2 (st0 x.2.2) l=some st →
    (∃ l' st',g9 (i7 x picks (n:Int)) (l,(l.length:Int))=some (.inl (l',true,true))∧goA x.2.1 x.2.2 (st0 x.2.2) l'=some st'∧v5 x.2.2 st'=[]∧l'.length≤n) ∨
    (∃ l' st',g9 (i7 x picks (n:Int)) (l,(l.length:Int))=some (.inr l')∧goA x.2.1 x.2.2 (st0 x.2.2) l'=some st'∧l'.length≤n)
  | 0,l,st,hd,hl,h=>by
    refine .inr ⟨l,st,R9 ?_,h,hl⟩;unfold i7;rw [if_neg (by rw [decide_eq_true_eq]; show ¬ (l.length:Int)<(n:Int); omega)]
  | d+1,l,st,hd,hl,h=>by
    have hul:=Q2 hu;have h2:=a9g x.2.2 hul.2.1 st;have eL:a0n x.2.1 x.2.2 l=some (v5 x.2.2 st,0):=by
      have:=(b1E hf x.2.2 l);rw [a4C hc hu h (by omega)] at this;exact this
    by_cases h0:v5 x.2.2 st=[]
    · refine .inl ⟨l,st,R9 ?_,h,h0,hl⟩;unfold i7;dsimp only;rw [if_pos (decide_eq_true (by omega)),eL,Option.bind_some];dsimp only;rw [if_neg (by simp),h0,if_pos (by simp)]
    · have hpos:0<(v5 x.2.2 st).length:=List.length_pos_iff.2 h0;obtain ⟨j,hj,eb⟩:∃ j,j<(v5 x.2.2 st).length∧i7 x picks (n:Int) (l,(l.length:Int))=t8 x (l,(l.length:Int)) ((v5 x.2.2 st).getD j 0):=by
        have e0:i7 x picks (n:Int) (l,(l.length:Int))=_:=rfl
        by_cases hq:l.length<picks.length
        · have hg:=a0V (d:=(0:Int)) hq;have hb:=hp _ hg;generalize hy:picks.getD l.length 0=y at hb;have m1:=Int.emod_lt_of_pos y (show 0<((v5 x.2.2 st).length:Int) by omega);have m0:=Int.emod_nonneg y (show ((v5 x.2.2 st).length:Int)≠0 by omega);refine ⟨(y % ((v5 x.2.2 st).length:Int)).toNat,by generalize y % ((v5 x.2.2 st).length:Int)=z at m0 m1; omega,?_⟩;unfold i7;dsimp only;rw [if_pos (decide_eq_true (by omega)),eL,Option.bind_some];dsimp only;rw [Int.toNat_natCast,hy,if_neg (by simp),if_neg (by rw [decide_eq_true_eq]; omega),b5 (by omega),if_pos (decide_eq_true (by omega)),b5 (by omega),b5 (by omega),b5 (by rw [m5]; omega),b5 (by omega),b5 (by omega),b5 m0,b5 m1]
        · refine ⟨0,hpos,?_⟩;unfold i7;dsimp only;rw [if_pos (decide_eq_true (by omega)),eL,Option.bind_some];dsimp only;rw [if_neg (by simp),if_neg (by rw [decide_eq_true_eq]; omega),b5 (by omega),if_neg (by rw [decide_eq_true_eq]; omega)]
      have hm:=a6y (a0V (d:=(0:Int)) hj);generalize (v5 x.2.2 st).getD j 0=y at hm eb;have hy:=r7.1 hm.1;have nx:i7 x picks (n:Int) (l,(l.length:Int))=some (.next (l++[y],((l++[y]).length:Int))):=by
        rw [eb];unfold t8;dsimp only;rw [if_neg (by rw [decide_eq_true_eq]; omega),if_neg (by rw [decide_eq_true_eq]; omega),b5 (by omega),b5 (by rw [m5]; omega),List.length_append,List.length_singleton];rfl
      have hg:goA x.2.1 x.2.2 (st0 x.2.2) (l++[y])=some (N5 x.2.1 x.2.2 st y.toNat):=by
        rw [b0c,h,Option.bind_some,a08,if_pos hm]; rfl
      rcases a7Z hf hc hu picks hp hn d (l++[y]) _ (by rw [List.length_append,List.length_singleton]; omega) (by rw [List.length_append,List.length_singleton]; omega) hg with ⟨l',st',a,b,e,f⟩|⟨l',st',a,b,f⟩
      · exact .inl ⟨l',st',E9 nx a,b,e,f⟩
      · exact .inr ⟨l',st',E9 nx a,b,f⟩
theorem b5u {x:Sp×Cd×Us} (hf:a2t x.2.1) (hc:K1 x.2.1=true) (hu:J9 x.2.1 x.2.2=true) (picks:List Int) (hp:∀ q∈picks,0≤q∧q≤255) {n:Nat} (hn:n≤12) :
    ∃ l st,A9 x picks (n:Int)=some (l,decide (v5 x.2.2 st=[]),true)∧goA x.2.1 x.2.2 (st0 x.2.2) l=some st∧l.length≤n:=by
  unfold A9;rcases a7Z hf hc hu picks hp hn n [] (st0 x.2.2) (by simp) (by simp) rfl with ⟨l',st',a,b,e,f⟩|⟨l',st',a,b,f⟩
  · have a':g9 (i7 x picks (n:Int)) ([],0)=some (.inl (l',true,true)):=a;rw [a'];exact ⟨l',st',by rw [Option.bind_some,e]; rfl,b,f⟩
  · have a':g9 (i7 x picks (n:Int)) ([],0)=some (.inr l'):=a;rw [a',Option.bind_some];refine ⟨l',st',?_,b,f⟩;simp only;unfold H4;have eL:a0n x.2.1 x.2.2 l'=some (v5 x.2.2 st',0):=by
      have:=(b1E hf x.2.2 l');rw [a4C hc hu b (by omega)] at this;exact this
    rw [eL,Option.bind_some];dsimp only
    cases h:v5 x.2.2 st' with
    | nil=>simp
    | cons a r=>simp; omega
theorem b79 {x:Sp×Cd×Us} (fc:few x.2.1) (fu:few x.2.2) (hs:okS x.1):∃ b,L6 x=some b∧(b=true→K1 x.2.1=true∧J9 x.2.1 x.2.2=true∧(a19 x.1).ok=true∧x.1.2.1=(x.2.1.length:Int)):=by
  unfold L6;obtain ⟨b,eb⟩:=b5N x fc fu;rw [eb,Option.bind_some,b30]
  cases b with
  | true=>exact ⟨false,by rw [if_neg (by simp)],fun h=>by cases h⟩
  | false =>
    rw [if_pos (by simp),Option.bind_some]
    cases hc:K1 x.2.1 with
    | false=>exact ⟨false,by rw [if_neg (by simp)],fun h=>by cases h⟩
    | true =>
      rw [if_pos rfl,b0U x.1 hs,Option.bind_some]
      cases hv:(a19 x.1).ok with
      | false=>exact ⟨false,by rw [if_neg (by simp)],fun h=>by cases h⟩
      | true =>
        rw [if_pos rfl]
        by_cases ho:x.1.2.1=(x.2.1.length:Int)
        · rw [if_pos (decide_eq_true ho),b31 _ (by have:=a1F hc; omega)];exact ⟨_,rfl,fun h=>⟨rfl,h,rfl,ho⟩⟩
        · rw [if_neg (by rw [decide_eq_true_eq]; exact ho)];exact ⟨false,rfl,fun h=>by cases h⟩
abbrev KTy:Ty:=.pair Y3 (.pair (.sl (.sl Y4)) (.sl (.sl .i)))
theorem b6h {x:Sp×Cd×Us} (hx:a5L KTy x):few x.2.1∧few x.2.2∧a2t x.2.1∧okS x.1:=by
  obtain ⟨hs,hc,hu⟩:=hx;have e8:Ty.bytes (.sl Y4)=24:=rfl;have e9:Ty.bytes (.sl .i)=24:=rfl;have e1:Ty.bytes .i=8:=rfl;have tb:∀ {l:List (List Int)},a5L (.sl (.sl .i)) l→okT l:=fun {l} h=>by
    refine ⟨?_,fun r hr=>?_⟩
    · have:=h.1; rw [e9] at this; omega
    · have:=(h.2.2 r hr).1; rw [e1] at this; omega
  refine ⟨?_,?_,fun ls hls l hl=>?_,tb hs.2.2.1,tb hs.2.2.2⟩
  · have:=hc.1; rw [e8] at this; unfold few; omega
  · have:=hu.1; rw [e9] at this; unfold few; omega
  · have:=(hc.2.2 ls hls).2.2 l hl;exact ⟨this.1,this.2.1,this.2.2.1,this.2.2.2⟩
def a3N (p:Cd) (u:Us):Nat→St→List St
  | 0,st=>[st]
  | k+1,st=>if v5 u st=[] then [st] else (v5 u st).flatMap fun x=>a3N p u k (N5 p u st x.toNat)
def RnR (p:Cd) (u:Us) (y:Rn) (st:St):Prop:=∃ D W K bg mk,y=((p,u),st.sc,D,st.v,W,K,bg)∧Rl p u st D W K bg mk
theorem b6k {S R:Type} (n:Int) (yl:Rn→S→Option (Step S R)) (rest:List Rn) (hr:rest.length≤100) (y:Rn) (s:S) {l:List Int} (hl:C5 y=some l) :
    j7 S R n yl (rest++[y],s) =
      if l.length=0∨(y.2.1.length:Int)=n then (yl y s).bind fun x=>match x with|.next s'=>some (.next (rest,s'))|.done e=>some (.done (.inl e))
      else (w8 (List Rn) Empty l (i6 S R (rest++[y],s)) rest).bind fun x=>match x with|.inl st2=>some (.next (st2,s))|.inr r=>r.elim:=by
  have e1:((rest++[y]).length:Int)=(rest.length:Int)+1:=by simp
  have e2:∀ d,(rest++[y]).getD rest.length d=y:=fun d=>a0N;have e3:(rest++[y]).take rest.length=rest:=by simp
  unfold j7 v7;dsimp only;rw [e1,Int.add_sub_cancel,Int.toNat_natCast,e2,e3,if_pos (decide_eq_true (by omega)),b5 (by rw [m5]; omega),b5 (by omega),b5 (by omega),b5 (by rw [m5]; omega),b5 (by omega),b5 (by omega),hl,Option.bind_some]
  by_cases c:l.length=0
  · rw [if_pos (decide_eq_true (by omega)),if_pos (.inl c)];congr 1
  · rw [if_neg (by rw [decide_eq_true_eq]; omega)]
    by_cases c2:(y.2.1.length:Int)=n
    · rw [if_pos (decide_eq_true c2),if_pos (.inr c2)];congr 1
    · rw [if_neg (by rw [decide_eq_true_eq]; exact c2),if_neg (by rintro (q|q); exact c q; exact c2 q)];unfold Z6;rw [Option.bind_some];congr 1
theorem b5h {p:Cd} {u:Us} (hp:K1 p=true) (hu:J9 p u=true) {S R:Type} {rest:List Rn} {y:Rn} {st:St} (hy:RnR p u y st) (s:S) {i x:Int} (hx:rB x (u.length:Int)=true∧a2J u st x.toNat=true) (h12:st.sc.length<12) {acc:List Rn} (ha:acc.length≤100) :
    ∃ c,i6 S R (rest++[y],s) (i,x) acc=some (.next (acc++[c]))∧RnR p u c (N5 p u st x.toNat):=by
  have e1:((rest++[y]).length:Int)=(rest.length:Int)+1:=by simp
  have e2:∀ d,(rest++[y]).getD rest.length d=y:=fun d=>a0N;obtain ⟨D,W,K,bg,mk,rfl,Rr⟩:=hy;have hb:=r7.1 hx.1;obtain ⟨t,rfl⟩:∃ t:Nat,x=(t:Int):=⟨x.toNat,by omega⟩;rw [Int.toNat_natCast] at hx ⊢;obtain ⟨D',W',K',bg',a,c⟩:=b10 hp hu Rr (by omega) hx.2 h12 [];refine ⟨_,?_,⟨D',W',K',bg',_,rfl,c⟩⟩;unfold i6;dsimp only;rw [e1,Int.add_sub_cancel,Int.toNat_natCast,e2,a,Option.bind_some,b5 (by omega),List.take_length];rfl
theorem b5w {p:Cd} {u:Us} (hp:K1 p=true) (hu:J9 p u=true) {S R:Type} (yl:Rn→S→Option (Step S R)) (F:St→S→Option (Step S R)) (n:Nat) (hn:n≤12)
    (hF:∀ y st s,RnR p u y st→Good p u st→(v5 u st=[]∨st.sc.length=n)→st.sc.length≤n→yl y s=F st s) :
    ∀ (k:Nat) (st:St) (y:Rn) (rest:List Rn) (s:S) (x:Sum S R),RnR p u y st→Good p u st→st.sc.length+k=n→rest.length+2*k≤30→a3M F (a3N p u k st) s=some x →
      (∀ e,x=.inr e→g9 (j7 S R (n:Int) yl) (rest++[y],s)=some (.inl e))∧(∀ s',x=.inl s'→∀ r,g9 (j7 S R (n:Int) yl) (rest,s')=some r→g9 (j7 S R (n:Int) yl) (rest++[y],s)=some r):=by
  have hul:=Q2 hu;have leaf:∀ (st:St) (y:Rn) (rest:List Rn) (s:S) (x:Sum S R),RnR p u y st→Good p u st→(v5 u st=[]∨st.sc.length=n)→st.sc.length≤n→rest.length≤30→a3M F [st] s=some x →
      (∀ e,x=.inr e→g9 (j7 S R (n:Int) yl) (rest++[y],s)=some (.inl e))∧(∀ s',x=.inl s'→∀ r,g9 (j7 S R (n:Int) yl) (rest,s')=some r→g9 (j7 S R (n:Int) yl) (rest++[y],s)=some r):=fun st y rest s x hy G he hle hr h=>by
    have hy':=hy;obtain ⟨D,W,K,bg,mk,e,Rr⟩:=hy';have hl:C5 y=some (v5 u st):=by rw [e]; exact a3d hu Rr _ _ _
    have hp1:=b6k (n:Int) yl rest (by omega) y s hl;have e21:y.2.1=st.sc:=by rw [e]
    rw [if_pos (by rw [e21]; rcases he with q|q; exact .inl (by rw [q]; rfl); exact .inr (by rw [q])),hF y st s hy G he hle] at hp1;simp only [a3M] at h
    cases hf:F st s with
    | none=>rw [hf] at h; cases h
    | some z =>
      rw [hf,Option.bind_some] at h hp1
      cases z with
      | next s' =>
        simp only at h hp1;injection h with h;subst h;exact ⟨fun e q=>(by cases q),fun s'' q r hr=>(by injection q with q; subst q; exact E9 hp1 hr)⟩
      | done e =>
        simp only at h hp1;injection h with h;subst h;exact ⟨fun e q=>(by injection q with q; subst q; exact R9 hp1),fun s'' q=>(by cases q)⟩
  intro k
  induction k with
  | zero=>exact fun st y rest s x hy G hk hr h=>leaf st y rest s x hy G (.inr (by omega)) (by omega) (by omega) h
  | succ k ih =>
    intro st y rest s x hy G hk hr h;unfold a3N at h
    by_cases c:v5 u st=[]
    · rw [if_pos c] at h;exact leaf st y rest s x hy G (.inl c) (by omega) (by omega) h
    · rw [if_neg c] at h;have hy':=hy;obtain ⟨D,W,K,bg,mk,e,Rr⟩:=hy';have hl:C5 y=some (v5 u st):=by rw [e]; exact a3d hu Rr _ _ _
      have hp1:=b6k (n:Int) yl rest (by omega) y s hl;have e21:y.2.1=st.sc:=by rw [e]
      have hlen:(v5 u st).length≠0:=fun q=>c (List.length_eq_zero_iff.1 q);rw [if_neg (by rw [e21]; rintro (q|q); exact hlen q; omega)] at hp1;have h2:=a9g u hul.2.1 st;have hm:∀ a∈v5 u st,rB a (u.length:Int)=true∧a2J u st a.toNat=true:=fun a ha=>a6y ha;have gs:∀ a,rB a (u.length:Int)=true∧a2J u st a.toNat=true→Good p u (N5 p u st a.toNat)∧(N5 p u st a.toNat).sc.length=st.sc.length+1:=fun a ha=>by
        have:=r7.1 ha.1;exact ⟨(a6I hp hu G (by omega) ha.2 (by omega)).1,by rw [a2e]; simp⟩
      have bend:∀ (l:List Int) (acc:List Rn),g9 (o7 (List Rn) Empty l (i6 S R (rest++[y],s))) (-1,acc)=some (.inr acc):=fun l acc=>by
        refine R9 ?_;unfold o7;rw [if_neg (by simp)]
      have bnx:∀ (l:List Int) (j:Nat) (acc acc':List Rn),j<l.length→j≤10→i6 S R (rest++[y],s) ((j:Int),l.getD j 0) acc=some (.next acc')→o7 (List Rn) Empty l (i6 S R (rest++[y],s)) ((j:Int),acc)=some (.next ((j:Int) - 1,acc')):=fun l j acc acc' hj hj2 q=>by
        unfold o7;rw [if_pos (decide_eq_true (by omega)),b5 (by omega),b5 (by omega),Int.toNat_natCast,q,Option.bind_some];simp only;rw [b5 (by rw [m5]; omega)]
      match hL:v5 u st with
      | []=>exact absurd hL c
      | [a] =>
        rw [hL] at hm hp1 h;obtain ⟨G1,l1⟩:=gs a (hm a (by simp));obtain ⟨c1,q1,r1⟩:=b5h hp hu (R:=R) (rest:=rest) hy s (i:=0) (hm a (by simp)) (by omega) (acc:=rest) (by omega);have eb:w8 (List Rn) Empty [a] (i6 S R (rest++[y],s)) rest=some (.inl (rest++[c1])):=by
          have w:=E9 (bnx [a] 0 rest _ (by simp) (by omega) q1) (bend [a] _);have w':g9 (o7 (List Rn) Empty [a] (i6 S R (rest++[y],s))) ((([a]:List Int).length:Int) - 1,rest)=some (.inr (rest++[c1])):=w;unfold w8;rw [w',b5 (by rw [m5]; simp)]; rfl
        rw [eb,Option.bind_some] at hp1;simp only at hp1;simp only [List.flatMap_cons,List.flatMap_nil,List.append_nil] at h;obtain ⟨i1,i2⟩:=ih _ c1 rest s x r1 G1 (by omega) (by omega) h;exact ⟨fun e q=>E9 hp1 (i1 e q),fun s' q r w=>E9 hp1 (i2 s' q r w)⟩
      | [a,b] =>
        rw [hL] at hm hp1 h;obtain ⟨G1,l1⟩:=gs a (hm a (by simp));obtain ⟨G2,l2⟩:=gs b (hm b (by simp));obtain ⟨c2,q2,r2⟩:=b5h hp hu (R:=R) (rest:=rest) hy s (i:=1) (hm b (by simp)) (by omega) (acc:=rest) (by omega);obtain ⟨c1,q1,r1⟩:=b5h hp hu (R:=R) (rest:=rest) hy s (i:=0) (hm a (by simp)) (by omega) (acc:=rest++[c2]) (by simp; omega);have eb:w8 (List Rn) Empty [a,b] (i6 S R (rest++[y],s)) rest=some (.inl ((rest++[c2])++[c1])):=by
          have w:=E9 (bnx [a,b] 1 rest _ (by simp) (by omega) q2) (E9 (bnx [a,b] 0 _ _ (by simp) (by omega) q1) (bend [a,b] _));have w':g9 (o7 (List Rn) Empty [a,b] (i6 S R (rest++[y],s))) ((([a,b]:List Int).length:Int) - 1,rest)=some (.inr ((rest++[c2])++[c1])):=w;unfold w8;rw [w',b5 (by rw [m5]; simp)]; rfl
        rw [eb,Option.bind_some] at hp1;simp only at hp1;simp only [List.flatMap_cons,List.flatMap_nil,List.append_nil] at h;rw [a54] at h
        cases h1:a3M F (a3N p u k (N5 p u st a.toNat)) s with
        | none=>rw [h1] at h; cases h
        | some x1 =>
          rw [h1,Option.bind_some] at h;obtain ⟨i1,i2⟩:=ih _ c1 (rest++[c2]) s x1 r1 G1 (by omega) (by simp; omega) h1
          cases x1 with
          | inr e1 =>
            simp only at h;injection h with h;subst h;exact ⟨fun e q=>(by injection q with q; subst q; exact E9 hp1 (i1 _ rfl)),fun s' q=>(by cases q)⟩
          | inl s1 =>
            simp only at h;obtain ⟨j1,j2⟩:=ih _ c2 rest s1 x r2 G2 (by omega) (by omega) h;exact ⟨fun e q=>E9 hp1 (i2 s1 rfl _ (j1 e q)),fun s' q r w=>E9 hp1 (i2 s1 rfl _ (j2 s' q r w))⟩
      | a::b::d::r=>rw [hL] at h2; simp at h2
theorem b7E {p:Cd} {u:Us} (hp:K1 p=true) (hu:J9 p u=true) {S R:Type} (yl:Rn→S→Option (Step S R)) (F:St→S→Option (Step S R)) (n:Nat) (hn:n≤12)
    (hF:∀ y st s,RnR p u y st→Good p u st→(v5 u st=[]∨st.sc.length=n)→st.sc.length≤n→yl y s=F st s) (s:S) {x:Sum S R} (h:a3M F (a3N p u n (st0 u)) s=some x):D7 S R (p,u) (n:Int) yl s=some x:=by
  have T:=b5w hp hu yl F n hn hF n (st0 u) ((p,u),[],Ty.dflt T72,(0,0,0),Ty.dflt T77,Ty.dflt T78,0) [] s x ⟨_,_,_,_,_,rfl,b0h hu⟩ (b1r hu) (by simp [st0]) (by simp; omega) h;unfold D7
  cases x with
  | inl s' =>
    have w:=T.2 s' rfl (.inr s') (R9 (by unfold j7; rw [if_neg (by simp)]));rw [List.nil_append] at w;rw [w]; rfl
  | inr e =>
    have w:=T.1 e rfl;rw [List.nil_append] at w;rw [w]; rfl
def oth (a b n:Int):Int:=if n=a then b else if n=b then a else n
theorem b3G {c:Cd} (h:K1 c=true) {ls:List Ln} (hm:ls∈c):1≤ls.length∧ls.length≤8:=by
  unfold K1 at h;simp only [Bool.and_eq_true,List.all_eq_true] at h;have:=h.2 ls hm;unfold a4a at this;simp only [Bool.and_eq_true,decide_eq_true_eq] at this;exact this.1
theorem b2o {α:Type} {l:List α} {k:Nat} {x:α} (h:l[k]?=some x):x∈l:=List.mem_of_getElem? h
/-! ### A specification -/
structure SpOk (s:SpT):Prop where
  st:1≤s.1∧s.1≤8
  op:1≤s.2.1∧s.2.1≤4
  nx:tab s.1 s.2.1 (inR s.1) s.2.2.1=true
  sy:tab s.1 s.2.1 a5v s.2.2.2=true
theorem a6a {s:SpT} (hs:okS s) {c:Cd} (hf:a2t c):M0 s c=some (if K1 c=true then (if (a19 s).ok=true∧s.2.1=(c.length:Int) then 0 else 10) else 80):=by
  unfold M0;rw [b1K hf,Option.bind_some]
  cases hc:K1 c with
  | false=>rfl
  | true =>
    rw [if_neg (by simp),if_pos rfl,a7Y s hs,Option.bind_some]
    cases hv:(a19 s).ok with
    | false=>rw [if_pos (by simp),if_neg (by simp)]
    | true =>
      rw [if_neg (by simp)]
      by_cases ho:s.2.1=(c.length:Int)
      · rw [if_neg (by simp [ho]),if_pos ⟨rfl,ho⟩]
      · rw [if_pos (by simp [ho]),if_neg (fun q=>ho q.2)]
/-! ### One thread alone -/
end Go.Proofs.YtanaeefeggokkaaGreat
