import Derived.Test.YtanaeefeggokkaaGreatK7
import Derived.Test.YtanaeefeggokkaaGreatKh
namespace Go.Proofs.YtanaeefeggokkaaGreat
open Go.RowKit
set_option linter.unusedVariables false
set_option linter.unusedSimpArgs false
set_option maxRecDepth 10000
theorem b2D {α β:Type} {p:α→Bool} {f:α→β}:∀ (l:List α) (k:Nat) (x:α),(∀ y,l[k]?=some y→p x=p y∧f x=f y)→((l.set k x).filter p).map f=(l.filter p).map f
  | [],k,x,h=>by simp
  | a::r,0,x,h=>by
    obtain ⟨h1,h2⟩:=h a rfl;rw [List.set_cons_zero,List.filter_cons,List.filter_cons,h1]
    split
    · rw [List.map_cons,List.map_cons,h2]
    · rfl
  | a::r,k+1,x,h=>by
    rw [List.set_cons_succ,List.filter_cons,List.filter_cons];have:=b2D r k x (fun y hy=>h y hy)
    split
    · rw [List.map_cons,List.map_cons,this]
    · exact this
structure OkK (p:Cd) (u:Us) (a b:Int) (c:Cl):Prop where
  th:0≤c.1∧c.1<u.length
  ob:c.2.1=0
  op:0≤c.2.2.1∧c.2.2.1<p.length
  sy:0≤c.2.2.2.1∧c.2.2.2.1≤9
  fr:1≤c.2.2.2.2.1∧c.2.2.2.2.1≤a∧c.2.2.2.2.1 % 2=1
  to:c.2.2.2.2.2=0∧c.2.2.2.1=0∨c.2.2.2.2.1<c.2.2.2.2.2∧c.2.2.2.2.2≤b∧c.2.2.2.2.2 % 2=0
structure HI (p:Cd) (u:Us) (hs:List Hd) (hist:ZH) (a b:Int):Prop where
  hl:hs.length=u.length
  ok:∀ k,k<hist.length→OkK p u a b (hist.getD k (0,0,0,0,0,0))
  fr:∀ j k,j<k→k<hist.length→(hist.getD j (0,0,0,0,0,0)).2.2.2.2.1<(hist.getD k (0,0,0,0,0,0)).2.2.2.2.1
  tt:∀ j k,j<k→k<hist.length→(hist.getD j (0,0,0,0,0,0)).2.2.2.2.2≠0→(hist.getD j (0,0,0,0,0,0)).2.2.2.2.2≠(hist.getD k (0,0,0,0,0,0)).2.2.2.2.2
  sm:∀ j k,j<k→k<hist.length→(hist.getD j (0,0,0,0,0,0)).1=(hist.getD k (0,0,0,0,0,0)).1→(hist.getD j (0,0,0,0,0,0)).2.2.2.2.2≠0∧(hist.getD j (0,0,0,0,0,0)).2.2.2.2.2<(hist.getD k (0,0,0,0,0,0)).2.2.2.2.1
  h0:∀ t,t<u.length→0≤(hs.getD t (0,0,false,0,0,0,0,0)).1∧(hs.getD t (0,0,false,0,0,0,0,0)).1≤((u.getD t []).length:Int)
  ow:∀ t,t<u.length→(hist.filter (b1g (t:Int))).map (fun c=>c.2.2.1)=(u.getD t []).take (hs.getD t (0,0,false,0,0,0,0,0)).1.toNat
  op:∀ t,t<u.length→(hs.getD t (0,0,false,0,0,0,0,0)).2.2.1=true→0≤(hs.getD t (0,0,false,0,0,0,0,0)).2.2.2.1∧(hs.getD t (0,0,false,0,0,0,0,0)).2.2.2.1<hist.length∧(hist.getD (hs.getD t (0,0,false,0,0,0,0,0)).2.2.2.1.toNat (0,0,0,0,0,0)).1=(t:Int)∧(hist.getD (hs.getD t (0,0,false,0,0,0,0,0)).2.2.2.1.toNat (0,0,0,0,0,0)).2.2.2.2.2=0
  nt:∀ t,t<u.length→∀ k,k<hist.length→(hist.getD k (0,0,0,0,0,0)).1=(t:Int)→(hist.getD k (0,0,0,0,0,0)).2.2.2.2.2=0→(hs.getD t (0,0,false,0,0,0,0,0)).2.2.1=true∧(hs.getD t (0,0,false,0,0,0,0,0)).2.2.2.1=(k:Int)
theorem OkK.mono {p:Cd} {u:Us} {a b a' b':Int} {c:Cl} (h:OkK p u a b c) (ha:a≤a') (hb:b≤b'):OkK p u a' b' c :=
  ⟨h.th,h.ob,h.op,h.sy,⟨h.fr.1,by have:=h.fr.2.1; omega,h.fr.2.2⟩,by rcases h.to with q|⟨q1,q2,q3⟩; exact .inl q; exact .inr ⟨q1,by omega,q3⟩⟩
theorem HI.mono {p:Cd} {u:Us} {hs:List Hd} {hist:ZH} {a b a' b':Int} (h:HI p u hs hist a b) (ha:a≤a') (hb:b≤b'):HI p u hs hist a' b' :=
  ⟨h.hl,fun k hk=>(h.ok k hk).mono ha hb,h.fr,h.tt,h.sm,h.h0,h.ow,h.op,h.nt⟩
theorem a3a {α:Type} {l:List α} {x d:α} {k:Nat} (h:k<l.length):(l++[x]).getD k d=l.getD k d:=by
  rw [List.getD_eq_getElem?_getD,List.getD_eq_getElem?_getD,List.getElem?_append_left h]
theorem a0N {α:Type} {l:List α} {x d:α}:(l++[x]).getD l.length d=x:=by
  rw [List.getD_eq_getElem?_getD,List.getElem?_append_right (Nat.le_refl _),Nat.sub_self]; rfl
theorem b87 {p:Cd} {u:Us}:HI p u (st0 u).hs (st0 u).hist (-1) 0:=by
  have e:∀ t,((st0 u).hs.getD t (0,0,false,0,0,0,0,0))=(0,0,false,0,0,0,0,0):=fun t=>by
    show (List.replicate u.length (0,0,false,0,0,0,0,0)).getD t (0,0,false,0,0,0,0,0)=(0,0,false,0,0,0,0,0);rw [List.getD_eq_getElem?_getD,List.getElem?_replicate]; split<;>rfl
  refine ⟨by simp [st0],fun k hk=>absurd hk (by simp [st0]),fun j k _ hk=>absurd hk (by simp [st0]),fun j k _ hk=>absurd hk (by simp [st0]),fun j k _ hk=>absurd hk (by simp [st0]),fun t _=>(by rw [e]; simp),fun t _=>(by rw [e]; simp [st0]),fun t _ h=>(by rw [e] at h; cases h),fun t _ k hk=>absurd hk (by simp [st0])⟩
theorem b6j {p:Cd} {u:Us} (hu:J9 p u=true) {hs:List Hd} {hist:ZH} {n:Int} (H:HI p u hs hist (2*n - 1) (2*n)) (hn:0≤n) {t:Nat} (ht:t<u.length) (hr:(hs.getD t (0,0,false,0,0,0,0,0)).2.2.1=true∨(hs.getD t (0,0,false,0,0,0,0,0)).1<((u.getD t []).length:Int)) :
    HI p u (V8 u hs hist t n).1 (V8 u hs hist t n).2 (2*n+1) (2*n)∧((V8 u hs hist t n).1.getD t (0,0,false,0,0,0,0,0)).2.2.1=true∧(∀ m,0≤m→m≤n→a1j (V8 u hs hist t n).2 (2*m)=a1j hist (2*m)):=by
  unfold V8
  by_cases hin:(hs.getD t (0,0,false,0,0,0,0,0)).2.2.1=true
  · rw [if_pos hin];exact ⟨H.mono (by omega) (Int.le_refl _),hin,fun m _ _=>rfl⟩
  · rw [if_neg hin];dsimp only;have hr:(hs.getD t (0,0,false,0,0,0,0,0)).1<((u.getD t []).length:Int):=by rcases hr with q|q; exact absurd q hin; exact q
    have h0:=(H.h0 t ht).1;have hio:=Q2 hu;have hnt:∀ k,k<hist.length→(hist.getD k (0,0,0,0,0,0)).1=(t:Int)→(hist.getD k (0,0,0,0,0,0)).2.2.2.2.2≠0:=fun k hk e q=>hin (H.nt t ht k hk e q).1;have ho:=(hio.2.2 t).2 ((u.getD t []).getD (hs.getD t (0,0,false,0,0,0,0,0)).1.toNat 0) (a0V (by omega));generalize hop:(u.getD t []).getD (hs.getD t (0,0,false,0,0,0,0,0)).1.toNat 0=o at ho;have hs':∀ s,(hs.set t ((hs.getD t (0,0,false,0,0,0,0,0)).1+1,0,true,(hist.length:Int),0,1,0,0)).getD s (0,0,false,0,0,0,0,0)=if t=s then ((hs.getD t (0,0,false,0,0,0,0,0)).1+1,0,true,(hist.length:Int),0,1,0,0) else hs.getD s (0,0,false,0,0,0,0,0):=fun s=>by
      rw [L9]
      by_cases c:t=s
      · rw [if_pos ⟨c,by rw [H.hl]; exact ht⟩,if_pos c]
      · rw [if_neg fun q=>c q.1,if_neg c]
    have h2l:(hs.set t ((hs.getD t (0,0,false,0,0,0,0,0)).1+1,0,true,(hist.length:Int),0,1,0,0)).length=u.length:=by rw [List.length_set,H.hl]
    generalize hs.set t ((hs.getD t (0,0,false,0,0,0,0,0)).1+1,0,true,(hist.length:Int),0,1,0,0)=hs2 at hs' h2l ⊢;have hst:hs2.getD t (0,0,false,0,0,0,0,0)=((hs.getD t (0,0,false,0,0,0,0,0)).1+1,0,true,(hist.length:Int),0,1,0,0):=by rw [hs',if_pos rfl]
    have gk:∀ k,k<hist.length→(hist++[((t:Int),0,o,0,2*n+1,0)]).getD k (0,0,0,0,0,0)=hist.getD k (0,0,0,0,0,0):=fun k hk=>a3a hk;have g1:(hist++[((t:Int),0,o,0,2*n+1,0)]).getD hist.length (0,0,0,0,0,0)=((t:Int),0,o,0,2*n+1,0):=a0N;have gl:(hist++[((t:Int),0,o,0,2*n+1,0)]).length=hist.length+1:=by rw [List.length_append,List.length_singleton]
    have hfl:∀ s:Nat,(hist++[((t:Int),0,o,0,2*n+1,0)]).filter (b1g (s:Int))=hist.filter (b1g (s:Int))++(if t=s then [((t:Int),0,o,0,2*n+1,0)] else []):=fun s=>by
      rw [List.filter_append];congr 1
      by_cases c:t=s
      · subst c; rw [if_pos rfl]; simp [b1g]
      · rw [if_neg c]; simp [b1g]; omega
    have hun:∀ m,0≤m→m≤n→a1j (hist++[((t:Int),0,o,0,2*n+1,0)]) (2*m)=a1j hist (2*m):=fun m _ hm=>by
      unfold a1j;rw [List.filter_append];have:List.filter (b3w (2*m)) [((t:Int),(0:Int),o,(0:Int),2*n+1,(0:Int))]=[]:=by simp [b3w]; omega
      rw [this,List.append_nil]
    refine ⟨⟨h2l,fun k hk=>?_,fun j k hj hk=>?_,fun j k hj hk=>?_,fun j k hj hk=>?_,fun s hsu=>?_,fun s hsu=>?_,fun s hsu hi=>?_,fun s hsu k hk e z=>?_⟩,by rw [hst],hun⟩
    · rw [gl] at hk
      by_cases c:k=hist.length
      · subst c; rw [g1];exact ⟨⟨by simp only; omega,by simp only; omega⟩,rfl,ho,⟨by simp only; omega,by simp only; omega⟩,⟨by simp only; omega,by simp only; omega,by simp only; omega⟩,.inl ⟨rfl,rfl⟩⟩
      · rw [gk k (by omega)]; exact (H.ok k (by omega)).mono (by omega) (Int.le_refl _)
    · rw [gl] at hk
      by_cases c:k=hist.length
      · subst c; rw [g1,gk j hj]; have:=(H.ok j hj).fr; simp only; omega
      · rw [gk k (by omega),gk j (by omega)]; exact H.fr j k hj (by omega)
    · rw [gl] at hk
      by_cases c:k=hist.length
      · subst c; rw [g1,gk j hj]; exact fun q=>q
      · rw [gk k (by omega),gk j (by omega)]; exact H.tt j k hj (by omega)
    · rw [gl] at hk
      by_cases c:k=hist.length
      · subst c; rw [g1,gk j hj];intro e;have a:=hnt j hj e;have b:=(H.ok j hj).to;exact ⟨a,by simp only; omega⟩
      · rw [gk k (by omega),gk j (by omega)]; exact H.sm j k hj (by omega)
    · rw [hs']
      by_cases c:t=s
      · subst c; rw [if_pos rfl]; simp only; omega
      · rw [if_neg c]; exact H.h0 s hsu
    · rw [hs',hfl,List.map_append,H.ow s hsu]
      by_cases c:t=s
      · subst c;rw [if_pos rfl,if_pos rfl,← hop];simp only [List.map_cons,List.map_nil];rw [show ((hs.getD t (0,0,false,0,0,0,0,0)).1+1).toNat=(hs.getD t (0,0,false,0,0,0,0,0)).1.toNat+1 by omega];have hlt:(hs.getD t (0,0,false,0,0,0,0,0)).1.toNat<(u.getD t []).length:=by omega
        have hg:=List.getElem?_eq_getElem hlt;rw [take_one hg,m9 hg]
      · rw [if_neg c,if_neg c]; simp
    · rw [hs'] at hi ⊢
      by_cases c:t=s
      · subst c; rw [if_pos rfl]; simp only;rw [Int.toNat_natCast,g1,gl]; exact ⟨by omega,by omega,rfl,rfl⟩
      · rw [if_neg c] at hi ⊢;obtain ⟨a,b,d,e⟩:=H.op s hsu hi;rw [gk _ (by omega),gl]; exact ⟨a,by omega,d,e⟩
    · rw [gl] at hk;rw [hs']
      by_cases c:k=hist.length
      · subst c; rw [g1] at e;have:t=s:=by simp only at e; omega
        rw [if_pos this]; exact ⟨rfl,rfl⟩
      · rw [gk k (by omega)] at e z
        by_cases c:t=s
        · subst c; exact absurd z (hnt k (by omega) e)
        · rw [if_neg c]; exact H.nt s hsu k (by omega) e z
theorem b9s {p:Cd} {u:Us} {hs:List Hd} {v:C3} {hist:ZH} {a n:Int} (H:HI p u hs hist a (2*n)) (ha:a≤2*n+1) (hn:0≤n) {t:Nat} (ht:t<u.length) (hin:(hs.getD t (0,0,false,0,0,0,0,0)).2.2.1=true) {m:Int} (ok:okL (lnA p hist (hs.getD t (0,0,false,0,0,0,0,0))) m=true) (r9:∀ a,rB a 4=true→0≤rgU (hs.getD t (0,0,false,0,0,0,0,0)) a∧rgU (hs.getD t (0,0,false,0,0,0,0,0)) a≤9) :
    HI p u (a2d p t hs v hist n).1 (a2d p t hs v hist n).2.2 a (2*n+2)∧(∀ m,0≤m→m≤n→a1j (a2d p t hs v hist n).2.2 (2*m)=a1j hist (2*m)):=by
  obtain ⟨c0,c1,ct,cz⟩:=H.op t ht hin;have hkl:(hs.getD t (0,0,false,0,0,0,0,0)).2.2.2.1.toNat<hist.length:=by omega
  unfold a2d
  by_cases h7:(lnA p hist (hs.getD t (0,0,false,0,0,0,0,0))).1=7
  · rw [if_pos h7];dsimp only;have a1:rB (lnA p hist (hs.getD t (0,0,false,0,0,0,0,0))).2.1 4=true:=by
      unfold okL at ok;rw [if_neg (by omega),if_neg (by omega),if_neg (by omega),if_neg (by omega),if_neg (by omega),if_neg (by omega),if_pos h7,Bool.and_eq_true] at ok;exact ok.1
    have s9:=r9 _ a1;generalize rgU (hs.getD t (0,0,false,0,0,0,0,0)) (lnA p hist (hs.getD t (0,0,false,0,0,0,0,0))).2.1=y at s9 ⊢;have hs':∀ s,(hs.set t ((hs.getD t (0,0,false,0,0,0,0,0)).1,(hs.getD t (0,0,false,0,0,0,0,0)).2.1+1,false,(hs.getD t (0,0,false,0,0,0,0,0)).2.2.2)).getD s (0,0,false,0,0,0,0,0)=if t=s then ((hs.getD t (0,0,false,0,0,0,0,0)).1,(hs.getD t (0,0,false,0,0,0,0,0)).2.1+1,false,(hs.getD t (0,0,false,0,0,0,0,0)).2.2.2) else hs.getD s (0,0,false,0,0,0,0,0):=fun s=>by
      rw [L9]
      by_cases c:t=s
      · rw [if_pos ⟨c,by rw [H.hl]; exact ht⟩,if_pos c]
      · rw [if_neg fun q=>c q.1,if_neg c]
    have h2l:(hs.set t ((hs.getD t (0,0,false,0,0,0,0,0)).1,(hs.getD t (0,0,false,0,0,0,0,0)).2.1+1,false,(hs.getD t (0,0,false,0,0,0,0,0)).2.2.2)).length=u.length:=by rw [List.length_set,H.hl]
    generalize hs.set t ((hs.getD t (0,0,false,0,0,0,0,0)).1,(hs.getD t (0,0,false,0,0,0,0,0)).2.1+1,false,(hs.getD t (0,0,false,0,0,0,0,0)).2.2.2)=hs2 at hs' h2l ⊢;have hcl:∀ k,k<hist.length→(hist.getD k (0,0,0,0,0,0)).1=(t:Int)→(hist.getD k (0,0,0,0,0,0)).2.2.2.2.2=0→(hs.getD t (0,0,false,0,0,0,0,0)).2.2.2.1.toNat=k:=fun k hk e z=>by have:=(H.nt t ht k hk e z).2; omega
    generalize (hs.getD t (0,0,false,0,0,0,0,0)).2.2.2.1.toNat=q at hkl ct cz hcl ⊢;have O:=H.ok q hkl;have gs:∀ k,(hist.set q (a2w (hist.getD q (0,0,0,0,0,0)) y n)).getD k (0,0,0,0,0,0)=if q=k then a2w (hist.getD q (0,0,0,0,0,0)) y n else hist.getD k (0,0,0,0,0,0):=fun k=>by
      rw [L9]
      by_cases c:q=k
      · rw [if_pos ⟨c,hkl⟩,if_pos c]
      · rw [if_neg fun z=>c z.1,if_neg c]
    have gy:∀ x,hist[q]?=some x→x=hist.getD q (0,0,0,0,0,0):=fun x hx=>(m9 hx).symm;have zs:(hist.getD q (0,0,0,0,0,0)).2.2.2.1=0:=by have f0:=O.fr; rcases O.to with z|z; exact z.2; omega
    refine ⟨⟨h2l,fun k hk=>?_,fun j k hj hk=>?_,fun j k hj hk=>?_,fun j k hj hk=>?_,fun s hsu=>?_,fun s hsu=>?_,fun s hsu hi=>?_,fun s hsu k hk e z=>?_⟩,fun m hm0 hm=>?_⟩
    · rw [List.length_set] at hk;rw [gs]
      by_cases c:q=k
      · rw [if_pos c];have f:=O.fr;exact ⟨O.th,O.ob,O.op,s9,f,.inr ⟨by unfold a2w; simp only; omega,by unfold a2w; simp only; omega,by unfold a2w; simp only; omega⟩⟩
      · rw [if_neg c]; exact (H.ok k hk).mono (Int.le_refl _) (by omega)
    · rw [List.length_set] at hk;have:=H.fr j k hj hk;rw [gs,gs]
      by_cases c:q=k
      · subst c; rw [if_pos rfl,if_neg (by omega)]; exact this
      · rw [if_neg c]
        by_cases c2:q=j
        · subst c2; rw [if_pos rfl]; exact this
        · rw [if_neg c2]; exact this
    · rw [List.length_set] at hk;have hjl:j<hist.length:=by omega
      have oj:=(H.ok j hjl).to;have ok':=(H.ok k hk).to;have:=H.tt j k hj hk;rw [gs,gs]
      by_cases c:q=k
      · subst c; rw [if_pos rfl,if_neg (by omega)]; unfold a2w; simp only; omega
      · rw [if_neg c]
        by_cases c2:q=j
        · subst c2; rw [if_pos rfl]; unfold a2w; simp only; omega
        · rw [if_neg c2]; exact this
    · rw [List.length_set] at hk;have hjl:j<hist.length:=by omega
      have:=H.sm j k hj hk;rw [gs,gs]
      by_cases c:q=k
      · subst c; rw [if_pos rfl,if_neg (by omega)]; exact this
      · rw [if_neg c]
        by_cases c2:q=j
        · subst c2; rw [if_pos rfl]; unfold a2w; simp only;intro e; exact absurd cz (this e).1
        · rw [if_neg c2]; exact this
    · rw [hs']
      by_cases c:t=s
      · subst c; rw [if_pos rfl]; exact H.h0 t ht
      · rw [if_neg c]; exact H.h0 s hsu
    · rw [b2D _ _ _ (fun x hx=>by rw [gy x hx]; exact ⟨rfl,rfl⟩),hs',H.ow s hsu]
      by_cases c:t=s
      · subst c; rw [if_pos rfl]
      · rw [if_neg c]
    · rw [hs'] at hi ⊢
      by_cases c:t=s
      · subst c; rw [if_pos rfl] at hi; cases hi
      · rw [if_neg c] at hi ⊢;obtain ⟨a1,b1,d1,e1⟩:=H.op s hsu hi;rw [gs,if_neg (fun z=>by rw [← z] at d1; omega),List.length_set]; exact ⟨a1,b1,d1,e1⟩
    · rw [List.length_set] at hk;rw [gs] at e z
      by_cases c:q=k
      · rw [if_pos c] at z; unfold a2w at z; simp only at z; omega
      · rw [if_neg c] at e z;rw [hs']
        by_cases c2:t=s
        · subst c2; exact absurd (hcl k hk e z) c
        · rw [if_neg c2]; exact H.nt s hsu k hk e z
    · unfold a1j;refine b2D _ _ _ fun x hx=>?_;rw [gy x hx];refine ⟨rfl,?_⟩;unfold cut a2w;simp only;rw [if_pos (by omega),cz,if_neg (by omega),← zs];have:hist.getD q (0,0,0,0,0,0)=((hist.getD q (0,0,0,0,0,0)).1,(hist.getD q (0,0,0,0,0,0)).2.1,(hist.getD q (0,0,0,0,0,0)).2.2.1,(hist.getD q (0,0,0,0,0,0)).2.2.2.1,(hist.getD q (0,0,0,0,0,0)).2.2.2.2.1,(hist.getD q (0,0,0,0,0,0)).2.2.2.2.2):=rfl;rw [cz,zs] at this;rw [zs]; exact this.symm
  · rw [if_neg h7];dsimp only;obtain ⟨_,_,_,d1,d3,d4⟩:=b3r ok ((hs.getD t (0,0,false,0,0,0,0,0)).1,(hs.getD t (0,0,false,0,0,0,0,0)).2.1+1,(hs.getD t (0,0,false,0,0,0,0,0)).2.2) v;generalize (doU (lnA p hist (hs.getD t (0,0,false,0,0,0,0,0))) ((hs.getD t (0,0,false,0,0,0,0,0)).1,(hs.getD t (0,0,false,0,0,0,0,0)).2.1+1,(hs.getD t (0,0,false,0,0,0,0,0)).2.2) v).1=h2 at d1 d3 d4 ⊢;simp only at d1 d3 d4;have hs':∀ s,((hs.set t h2).getD s (0,0,false,0,0,0,0,0)).1=(hs.getD s (0,0,false,0,0,0,0,0)).1∧((hs.set t h2).getD s (0,0,false,0,0,0,0,0)).2.2.1=(hs.getD s (0,0,false,0,0,0,0,0)).2.2.1∧((hs.set t h2).getD s (0,0,false,0,0,0,0,0)).2.2.2.1=(hs.getD s (0,0,false,0,0,0,0,0)).2.2.2.1:=fun s=>by
      rw [L9]
      by_cases c:t=s
      · rw [if_pos ⟨c,by rw [H.hl]; exact ht⟩,← c]; exact ⟨d1,d3,d4⟩
      · rw [if_neg fun q=>c q.1]; exact ⟨rfl,rfl,rfl⟩
    have h2l:(hs.set t h2).length=u.length:=by rw [List.length_set,H.hl]
    generalize hs.set t h2=hs2 at hs' h2l ⊢;refine ⟨⟨h2l,fun k hk=>(H.ok k hk).mono (Int.le_refl _) (by omega),H.fr,H.tt,H.sm,fun s hsu=>by rw [(hs' s).1]; exact H.h0 s hsu,fun s hsu=>by rw [(hs' s).1]; exact H.ow s hsu,fun s hsu hi=>?_,fun s hsu k hk e z=>?_⟩,fun m _ _=>rfl⟩
    · rw [(hs' s).2.1] at hi; rw [(hs' s).2.2]; exact H.op s hsu hi
    · rw [(hs' s).2.1,(hs' s).2.2]; exact H.nt s hsu k hk e z
end Go.Proofs.YtanaeefeggokkaaGreat
