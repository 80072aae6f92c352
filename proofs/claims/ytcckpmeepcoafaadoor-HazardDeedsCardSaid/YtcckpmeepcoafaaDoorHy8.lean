import Derived.Test.YtcckpmeepcoafaaDoorHy4
namespace Go.Proofs.YtcckpmeepcoafaaDoor
open Go.RowKit
set_option linter.unusedVariables false
set_option linter.unusedSimpArgs false
set_option linter.constructorNameAsVariable false
set_option maxRecDepth 10000
structure Rr (n:Nat) (X:El T66) (Y:List (Int×Int)) (Z:List (List Int)) (A:Mo):Prop where
  nd:∀ j,j<8→intAt T66 X j=A.N j
  yl:Y.length=n
  sl:∀ t,t<n→Y.getD t (0,0)=(A.S (t*2),A.S (t*2+1))
  zl:Z.length=n
  ls:∀ t,t<n→Z.getD t []=A.L t
section
variable {n m:Nat} {X:El T66} {Y:List (Int×Int)} {Z:List (List Int)} {A:Mo}
theorem nd_true {p:Prop} [Decidable p] (h:¬ p):(!decide p)=true:=by simp [h]
theorem within_eq (a b c:Int):linealref06_within a b c=some (decide (a≤b∧b≤c)):=by
  unfold linealref06_within
  by_cases h:a≤b<;>simp [h]
theorem rth (h4:n≤4) (M t:Int):linealref06_Yard_isThread t (n:Int) M X Y Z=some (decide (0≤t∧t<n)):=by
  unfold linealref06_Yard_isThread
  rw [ck_pos (by rw [inK_i64]; omega),within_eq,Option.bind_some]
  congr 1
  by_cases h:0≤t∧t<n
  · rw [decide_eq_true h,decide_eq_true (by omega)]
  · rw [decide_eq_false h,decide_eq_false (by omega)]
theorem rsl (s:Int):linealref06_isSlot s=some (decide (0≤s∧s<2)):=by
  unfold linealref06_isSlot
  rw [within_eq,Option.bind_some]
  congr 1
  by_cases h:0≤s∧s<2
  · rw [decide_eq_true h,decide_eq_true (by omega)]
  · rw [decide_eq_false h,decide_eq_false (by omega)]
theorem rnd (k:Int):linealref06_isNode k=some (decide (0≤k∧k<8)):=by
  unfold linealref06_isNode
  rw [within_eq,Option.bind_some]
  congr 1
  by_cases h:0≤k∧k<8
  · rw [decide_eq_true h,decide_eq_true (by omega)]
  · rw [decide_eq_false h,decide_eq_false (by omega)]
theorem Rr.setN (hR:Rr n X Y Z A) {j:Nat} (hj:j<8) (v:Int):Rr n (setInt T66 X (j*1) v) Y Z { A with N:=upd A.N j v } :=
  ⟨fun q hq=>by
    rw [Nat.mul_one,kn_set X v hj hq]
    show _=upd A.N j v q
    unfold upd
    split
    · rfl
    · exact hR.nd q hq,hR.yl,hR.sl,hR.zl,hR.ls⟩
theorem Rr.setS (hR:Rr n X Y Z A) {t s:Nat} (ht:t<n) (hs:s<2) (v:Int):Rr n X (Y.set t (if s=0 then (v,(Y.getD t (0,0)).2) else ((Y.getD t (0,0)).1,v))) Z { A with S:=upd A.S (t*2+s) v }:=by
  refine ⟨hR.nd,by rw [List.length_set,hR.yl],fun u hu=>?_,hR.zl,hR.ls⟩
  rw [getD_setL (by rw [hR.yl]; exact ht)]
  show _=(upd A.S (t*2+s) v (u*2),upd A.S (t*2+s) v (u*2+1))
  have h0:=hR.sl t ht
  by_cases e:u=t
  · subst e
    rw [if_pos rfl,h0]
    by_cases e2:s=0
    · subst e2
      simp [upd]
    · have:s=1:=by omega
      subst this
      simp [upd]
  · rw [if_neg e,hR.sl u hu,upd_other (by omega),upd_other (by omega)]
theorem rTake_eq (h4:n≤4) (hR:Rr n X Y Z A) (M t:Int):∃ X',linealref06_Yard_Take t (n:Int) M X Y Z=some ((takeA n A t).1,(takeA n A t).2.1,X')∧Rr n X' Y Z (takeA n A t).2.2:=by
  unfold linealref06_Yard_Take takeA
  rw [rth h4,Option.bind_some]
  by_cases h:0≤t∧t<n
  · have hf:=whileO_find (body:=linealref06_Yard_Take_b1 X) 8 (fun k=>if decide (A.N k=0)=true then some (Sum.inl ((k:Int),setInt T66 X (((k:Nat):Int).toNat*1) 1)) else none) (Sum.inr ()) (fun k hk=>by
      unfold linealref06_Yard_Take_b1
      have hat:intAt T66 X (((k:Nat):Int).toNat*1)=A.N k:=by rw [Int.toNat_natCast,Nat.mul_one]; exact hR.nd k hk
      rw [if_pos (decide_eq_true (show ((k:Nat):Int)<8 by omega)),ck_pos (show (0:Int)≤(k:Int) by omega),ck_pos (show ((k:Nat):Int)<8 by omega),hat]
      by_cases h0:A.N k=0
      · rw [if_pos (decide_eq_true h0),ck_pos (show (0:Int)≤(k:Int) by omega),ck_pos (show ((k:Nat):Int)<8 by omega),if_pos (decide_eq_true h0)]
      · rw [if_neg (by simpa using h0),ck_pos (inK_small (by omega)),if_neg (by simpa using h0)]) (by
      unfold linealref06_Yard_Take_b1
      rw [if_neg (by simp)])
    rw [findSome_find (fun k=>decide (A.N k=0))] at hf
    rw [if_neg (by simp [h]),hf,if_pos h]
    show ∃ X',(some (((fst0 A).map _).getD _)).bind _=_∧_
    cases hf0:fst0 A with
    | none=>exact ⟨X,rfl,hR⟩
    | some k =>
      have hk:=(fst0_some hf0).1
      have:=hR.setN hk 1
      refine ⟨_,rfl,?_⟩
      rw [Int.toNat_natCast]; exact this
  · exact ⟨X,by rw [if_pos (nd_true h),if_neg h],by rw [if_neg h]; exact hR⟩
theorem rPoint_eq (h4:n≤4) (hR:Rr n X Y Z A) (M t s k:Int):∃ Y',linealref06_Yard_Point t s k (n:Int) M X Y Z=some ((pointA n A t s k).1,Y')∧Rr n X Y' Z (pointA n A t s k).2:=by
  unfold linealref06_Yard_Point pointA
  rw [rth h4,Option.bind_some]
  by_cases h1:0≤t∧t<n
  · rw [if_neg (by simp [h1]),rsl,Option.bind_some]
    by_cases h2:0≤s∧s<2
    · rw [if_neg (by simp [h2]),rnd,Option.bind_some]
      by_cases h3:0≤k∧k<8
      · have hat:intAt T66 X (k.toNat*1)=A.N k.toNat:=by rw [Nat.mul_one]; exact hR.nd k.toNat (by omega)
        rw [if_neg (by simp [h3]),ck_pos h3.1,ck_pos h3.2,hat,if_pos (show (0≤t∧t<(n:Int))∧(0≤s∧s<2)∧0≤k∧k<8 from ⟨h1,h2,h3⟩)]
        by_cases h5:A.N k.toNat=1
        · have hS:=hR.setS (t:=t.toNat) (s:=s.toNat) (by omega) (by omega) k
          rw [if_neg (by simp [h5]),ck_pos h1.1,ck_pos (by rw [hR.yl]; exact h1.2),ck_pos h2.1,ck_pos h2.2,if_pos h5]
          by_cases h6:s=0
          · rw [if_pos (decide_eq_true h6)]
            rw [if_pos (by omega)] at hS
            exact ⟨_,rfl,hS⟩
          · rw [if_neg (by simpa using h6)]
            rw [if_neg (by omega)] at hS
            exact ⟨_,rfl,hS⟩
        · rw [if_pos (nd_true h5),if_neg h5]
          exact ⟨_,rfl,hR⟩
      · rw [if_pos (nd_true h3),if_neg (fun c=>h3 c.2.2)]
        exact ⟨_,rfl,hR⟩
    · rw [if_pos (nd_true h2),if_neg (fun c=>h2 c.2.1)]
      exact ⟨_,rfl,hR⟩
  · rw [if_pos (nd_true h1),if_neg (fun c=>h1 c.1)]
    exact ⟨_,rfl,hR⟩
theorem rClear_eq (h4:n≤4) (hR:Rr n X Y Z A) (M t s:Int):∃ Y',linealref06_Yard_Clear t s (n:Int) M X Y Z=some ((clearA n A t s).1,Y')∧Rr n X Y' Z (clearA n A t s).2:=by
  unfold linealref06_Yard_Clear clearA
  rw [rth h4,Option.bind_some]
  by_cases h1:0≤t∧t<n
  · rw [if_neg (by simp [h1]),rsl,Option.bind_some]
    by_cases h2:0≤s∧s<2
    · have hS:=hR.setS (t:=t.toNat) (s:=s.toNat) (by omega) (by omega) (-1)
      rw [if_neg (by simp [h2]),ck_pos h1.1,ck_pos (by rw [hR.yl]; exact h1.2),ck_pos h2.1,ck_pos h2.2,if_pos (show (0≤t∧t<(n:Int))∧0≤s∧s<2 from ⟨h1,h2⟩)]
      by_cases h6:s=0
      · rw [if_pos (decide_eq_true h6)]
        rw [if_pos (by omega)] at hS
        exact ⟨_,rfl,hS⟩
      · rw [if_neg (by simpa using h6)]
        rw [if_neg (by omega)] at hS
        exact ⟨_,rfl,hS⟩
    · rw [if_pos (nd_true h2),if_neg (fun c=>h2 c.2)]
      exact ⟨_,rfl,hR⟩
  · rw [if_pos (nd_true h1),if_neg (fun c=>h1 c.1)]
    exact ⟨_,rfl,hR⟩
theorem rUse_eq (hI:Iv n m A) (hR:Rr n X Y Z A) (M t s:Int):linealref06_Yard_Use t s (n:Int) M X Y Z=some (useA n A t s):=by
  have h4:=hI.n4
  unfold linealref06_Yard_Use useA
  rw [rth h4,Option.bind_some]
  by_cases h1:0≤t∧t<n
  · rw [if_neg (by simp [h1]),rsl,Option.bind_some]
    by_cases h2:0≤s∧s<2
    · have hs:=hR.sl t.toNat (by omega)
      have hiff:∀ j,j<8→(A.S j<0↔A.S j=-1):=fun j hj=>by
        rcases hI.sl j hj with e|⟨i,_,e,_⟩<;>omega
      rw [if_neg (by simp [h2]),ck_pos h1.1,ck_pos (by rw [hR.yl]; exact h1.2),ck_pos h2.1,ck_pos h2.2,if_pos (show (0≤t∧t<(n:Int))∧0≤s∧s<2 from ⟨h1,h2⟩),hs]
      have hlen:t<(Y.length:Int):=by rw [hR.yl]; exact h1.2
      unfold linealref06_Yard_Use_k1
      rw [hs]
      by_cases h6:s=0
      · subst h6
        rw [if_pos (by simp)]
        dsimp only
        have e0:=hiff (t.toNat*2) (by omega)
        rw [show t.toNat*2+(0:Int).toNat=t.toNat*2 by simp]
        by_cases h7:A.S (t.toNat*2)=-1
        · rw [if_pos (decide_eq_true (e0.2 h7)),if_pos h7]
        · rw [if_neg (by rw [decide_eq_true_eq]; exact fun c=>h7 (e0.1 c)),if_neg h7,ck_pos h1.1,ck_pos hlen,ck_pos (by omega),ck_pos (by omega),if_pos (by simp)]
      · have hs1:s=1:=by omega
        subst hs1
        rw [if_neg (by simp)]
        dsimp only
        have e0:=hiff (t.toNat*2+1) (by omega)
        rw [show t.toNat*2+(1:Int).toNat=t.toNat*2+1 by simp]
        by_cases h7:A.S (t.toNat*2+1)=-1
        · rw [if_pos (decide_eq_true (e0.2 h7)),if_pos h7]
        · rw [if_neg (by rw [decide_eq_true_eq]; exact fun c=>h7 (e0.1 c)),if_neg h7,ck_pos h1.1,ck_pos hlen,ck_pos (by omega),ck_pos (by omega),if_neg (by simp)]
    · rw [if_pos (nd_true h2),if_neg (fun c=>h2 c.2)]
  · rw [if_pos (nd_true h1),if_neg (fun c=>h1 c.1)]
/-! ### Sweeps -/
theorem hld_n (hI:Iv n m A) (i:Nat):hld A (i:Int)=(List.range n).any fun t=>decide (A.S (t*2)=(i:Int)∨A.S (t*2+1)=(i:Int)):=by
  have h4:=hI.n4
  rw [Bool.eq_iff_iff,hld_iff,List.any_eq_true]
  constructor
  · rintro ⟨j,hj,h⟩
    have hj2:j<2*n:=by
      rcases Nat.lt_or_ge j (2*n) with h5|h5
      · exact h5
      · have:=hI.so j h5 hj; omega
    refine ⟨j / 2,List.mem_range.2 (by omega),?_⟩
    simp only [decide_eq_true_eq]
    rcases Nat.mod_two_eq_zero_or_one j with e|e
    · exact .inl (by rw [show j / 2*2=j by omega]; exact h)
    · exact .inr (by rw [show j / 2*2+1=j by omega]; exact h)
  · rintro ⟨t,ht,h⟩
    have:=List.mem_range.1 ht
    simp only [decide_eq_true_eq] at h
    rcases h with h|h
    · exact ⟨t*2,by omega,h⟩
    · exact ⟨t*2+1,by omega,h⟩
theorem rIsHeld_b2 {x:Int} {t:Nat} (ht:t<n) (hR:Rr n X Y Z A):whileO (linealref06_Yard_IsHeld_b2 x Y (t:Int)) 0=some (if A.S (t*2)=x∨A.S (t*2+1)=x then Sum.inl () else Sum.inr ()):=by
  have hs:=hR.sl t ht
  have hg:Y.getD ((t:Nat):Int).toNat (0,0)=(A.S (t*2),A.S (t*2+1)):=hs
  have hlen:(t:Int)<(Y.length:Int):=by rw [hR.yl]; omega
  have h0:(0:Int)≤(t:Int):=by omega
  by_cases h1:A.S (t*2)=x
  · rw [if_pos (.inl h1)]
    refine whileO_end ?_
    unfold linealref06_Yard_IsHeld_b2
    rw [if_pos (by simp),ck_pos h0,ck_pos hlen,ck_pos (by omega),ck_pos (by omega),if_pos (by simp),hg,if_pos (decide_eq_true h1)]
  · have e1:linealref06_Yard_IsHeld_b2 x Y (t:Int) 0=some (.next 1):=by
      unfold linealref06_Yard_IsHeld_b2
      rw [if_pos (by simp),ck_pos h0,ck_pos hlen,ck_pos (by omega),ck_pos (by omega),if_pos (by simp),hg,if_neg (by simpa using h1),ck_pos (by rw [inK_i64]; omega)]
      rfl
    by_cases h2:A.S (t*2+1)=x
    · rw [if_pos (.inr h2)]
      refine whileO_on e1 (whileO_end ?_)
      unfold linealref06_Yard_IsHeld_b2
      rw [if_pos (by simp),ck_pos h0,ck_pos hlen,ck_pos (by omega),ck_pos (by omega),if_neg (by simp),hg,if_pos (decide_eq_true h2)]
    · rw [if_neg (fun c=>c.elim h1 h2)]
      have e2:linealref06_Yard_IsHeld_b2 x Y (t:Int) 1=some (.next 2):=by
        unfold linealref06_Yard_IsHeld_b2
        rw [if_pos (by simp),ck_pos h0,ck_pos hlen,ck_pos (by omega),ck_pos (by omega),if_neg (by simp),hg,if_neg (by simpa using h2),ck_pos (by rw [inK_i64]; omega)]
        rfl
      refine whileO_on e1 (whileO_on e2 (whileO_end ?_))
      unfold linealref06_Yard_IsHeld_b2
      rw [if_neg (by simp)]
theorem rIsHeld_eq (hI:Iv n m A) (hR:Rr n X Y Z A) (i:Nat) (M:Int) (W:El T66) (V:List (List Int)):linealref06_Yard_IsHeld (i:Int) (n:Int) M W Y V=some (hld A (i:Int)):=by
  unfold linealref06_Yard_IsHeld
  have h4:=hI.n4
  have:=whileO_all (body:=linealref06_Yard_IsHeld_b1 (i:Int) (n:Int) Y) (List.range n) (fun t=>!decide (A.S (t*2)=(i:Int)∨A.S (t*2+1)=(i:Int))) (fun k x hx=>by
    have hk:k<n:=by simpa using (List.getElem?_eq_some_iff.1 hx).1
    have hxk:x=k:=by
      have:=(List.getElem?_eq_some_iff.1 hx).2
      simpa using this.symm
    subst hxk
    unfold linealref06_Yard_IsHeld_b1
    rw [if_pos (decide_eq_true (show ((x:Nat):Int)<(n:Int) by omega)),rIsHeld_b2 hk hR,Option.bind_some]
    by_cases h:A.S (x*2)=(i:Int)∨A.S (x*2+1)=(i:Int)
    · rw [if_pos h,if_neg (by simp [h])]
    · rw [if_neg h,if_pos (by simp [h])]
      unfold linealref06_Yard_IsHeld_k2
      dsimp only
      rw [ck_pos (inK_small (by omega))]) (by
    unfold linealref06_Yard_IsHeld_b1
    rw [if_neg (by simp)])
  rw [this,hld_n hI]
  cases hh:(List.range n).any (fun t=>decide (A.S (t*2)=(i:Int)∨A.S (t*2+1)=(i:Int))) with
  | true =>
    obtain ⟨t,ht,h⟩:=List.any_eq_true.1 hh
    have:(List.range n).all (fun t=>!decide (A.S (t*2)=(i:Int)∨A.S (t*2+1)=(i:Int)))=false:=by
      rw [List.all_eq_false]
      exact ⟨t,ht,by rw [h]; simp⟩
    rw [this]; rfl
  | false =>
    have:(List.range n).all (fun t=>!decide (A.S (t*2)=(i:Int)∨A.S (t*2+1)=(i:Int)))=true:=by
      rw [List.all_eq_true]
      intro t ht
      have:=List.any_eq_false.1 hh t ht
      simpa using this
    rw [this]; rfl
theorem rsweep_step (hI:Iv n m A) (hR:Rr n X Y Z A) {t:Nat} (ht:t<n) {k i:Nat} (hx:(A.L t)[k]?=some (i:Int)) (hi:i<8) {X1:El T66} {st:List Int} {f:Int} (hst:st.length≤k) (hf:∃ q:Nat,f=(q:Int)∧q≤k) :
    linealref06_Yard_Sweep_b1 (t:Int) (n:Int) (m:Int) Y Z (X1,st,f,(k:Int))=some (.next (if hld A (i:Int)=true then (X1,st++[(i:Int)],f,(k:Int)+1) else (setInt T66 X1 (((i:Nat):Int).toNat*1) 0,st,f+1,(k:Int)+1))):=by
  have h4:=hI.n4
  have hk:k<(A.L t).length:=(List.getElem?_eq_some_iff.1 hx).1
  have hfw:=hI.few (t:=t)
  have hz:Z.getD ((t:Nat):Int).toNat []=A.L t:=hR.ls t ht
  have hd:(A.L t).getD ((k:Nat):Int).toNat 0=(i:Int):=getD_of hx
  have c1:(0:Int)≤(t:Int):=by omega
  have c2:(t:Int)<(Z.length:Int):=by rw [hR.zl]; omega
  have c3:((k:Nat):Int)<((A.L t).length:Int):=by omega
  have c4:(0:Int)≤(k:Int):=by omega
  have c5:InK .i64 (((k:Nat):Int)+1):=inK_small (by omega)
  obtain ⟨q,rfl,hq⟩:=hf
  unfold linealref06_Yard_Sweep_b1
  rw [ck_pos c1,ck_pos c2,hz,if_pos (decide_eq_true c3),ck_pos c1,ck_pos c2,ck_pos c4,ck_pos c3,hd,rIsHeld_eq hI hR,Option.bind_some]
  cases hld A (i:Int) with
  | true=>rw [if_pos rfl,if_pos rfl,ck_pos (show (st.length+1)*8≤140737488355328 by omega),ck_pos c5]
  | false=>rw [if_neg Bool.false_ne_true,if_neg Bool.false_ne_true,ck_pos (show (0:Int)≤(i:Int) by omega),ck_pos (show ((i:Nat):Int)<8 by omega),ck_pos (inK_small (k:=q) (by omega)),ck_pos c5]
theorem rsweep_loop (hI:Iv n m A) (hR:Rr n X Y Z A) {t:Nat} (ht:t<n) :
    ∃ X',whileO (linealref06_Yard_Sweep_b1 (t:Int) (n:Int) (m:Int) Y Z) (X,[],0,0)=some (X',(A.L t).filter (hld A),swN A t)∧∀ j,j<8→intAt T66 X' j=(swM A t).N j:=by
  have hl:=hI.few (t:=t)
  have h4:=hI.n4
  have key:=whileO_list (body:=linealref06_Yard_Sweep_b1 (t:Int) (n:Int) (m:Int) Y Z) (fun (s:El T66×List Int×Int) (i:Int)=>(s.1,s.2.1,s.2.2,i)) (A.L t)
    (fun s x=>if hld A x=true then (s.1,s.2.1++[x],s.2.2) else (setInt T66 s.1 (x.toNat*1) 0,s.2.1,s.2.2+1)) (fun s=>(s.1,s.2.1,s.2.2))
    (fun k s=>(∀ j,j<8→intAt T66 s.1 j=if (j:Int)∈(A.L t).take k∧hld A j=false then 0 else A.N j)∧s.2.1=((A.L t).take k).filter (hld A)∧s.2.2=(((A.L t).take k).length:Int) - ((((A.L t).take k).filter (hld A)).length:Int))
    (s0:=(X,[],0)) ⟨fun j hj=>by simp [hR.nd j hj],by simp,by simp⟩ (fun k x s hx hp=>by
      obtain ⟨p1,p2,p3⟩:=hp
      obtain ⟨i,hi,rfl,hi2⟩:=hI.ls t ht x (List.mem_of_getElem? hx)
      have hk:k<(A.L t).length:=(List.getElem?_eq_some_iff.1 hx).1
      have htl:((A.L t).take k).length=k:=by simp; omega
      have hfl:(((A.L t).take k).filter (hld A)).length≤k:=by
        have:=List.length_filter_le (hld A) ((A.L t).take k)
        omega
      have htk:(A.L t).take (k+1)=(A.L t).take k++[(i:Int)]:=take_one hx
      have hbody:=rsweep_step hI hR ht hx hi (X1:=s.1) (st:=s.2.1) (f:=s.2.2) (by rw [p2]; exact hfl) ⟨k - (((A.L t).take k).filter (hld A)).length,by rw [p3,htl]; omega,by omega⟩
      refine ⟨?_,?_⟩
      · rw [hbody]
        cases hld A (i:Int)
        · rw [if_neg Bool.false_ne_true,if_neg Bool.false_ne_true]
        · rw [if_pos rfl,if_pos rfl]
      · rw [htk,List.filter_append,List.length_append,List.length_append]
        cases hh:hld A (i:Int) with
        | true =>
          have hf1:[(i:Int)].filter (hld A)=[(i:Int)]:=by simp [hh]
          rw [if_pos rfl,hf1]
          refine ⟨fun j hj=>?_,by rw [p2],by rw [p3]; simp; omega⟩
          rw [p1 j hj]
          simp only [List.mem_append,List.mem_singleton]
          by_cases e:(j:Int)=(i:Int)
          · rw [e,hh]; simp
          · simp [e]
        | false =>
          have hf1:[(i:Int)].filter (hld A)=[]:=by simp [hh]
          rw [if_neg Bool.false_ne_true,hf1]
          refine ⟨fun j hj=>?_,by rw [p2,List.append_nil],by rw [p3]; simp; omega⟩
          simp only [List.mem_append,List.mem_singleton]
          rw [Int.toNat_natCast,Nat.mul_one,kn_set _ _ hi hj]
          by_cases e:j=i
          · subst e; rw [if_pos rfl]; simp [hh]
          · rw [if_neg e,p1 j hj]
            have e':¬ (j:Int)=(i:Int):=by omega
            simp [e']) (fun s hp=>by
      have hz:Z.getD ((t:Nat):Int).toNat []=A.L t:=hR.ls t ht
      unfold linealref06_Yard_Sweep_b1
      rw [ck_pos (by omega),ck_pos (by rw [hR.zl]; omega),hz,if_neg (by simp)])
  obtain ⟨h1,h2,h3,h5⟩:=key
  rw [List.take_length] at h2 h3 h5
  refine ⟨_,h1.trans ?_,fun j hj=>h2 j hj⟩
  rw [h3,h5]
  rfl
theorem rswept (hI:Iv n m A) (hR:Rr n X Y Z A) {t:Nat} (ht:t<n):∃ X' Z',linealref06_Yard_Sweep (t:Int) (n:Int) (m:Int) X Y Z=some (swN A t,0,X',Z')∧Rr n X' Y Z' (swM A t):=by
  have h4:=hI.n4
  obtain ⟨X',h1,h2⟩:=rsweep_loop hI hR ht
  refine ⟨X',Z.set t ((A.L t).filter (hld A)),?_,⟨h2,hR.yl,hR.sl,by rw [List.length_set,hR.zl],fun u hu=>?_⟩⟩
  · unfold linealref06_Yard_Sweep
    rw [rth h4,Option.bind_some,if_neg (by simp; omega),h1,Option.bind_some]
    unfold linealref06_Yard_Sweep_k1
    rw [ck_pos (by omega),ck_pos (by rw [hR.zl]; omega)]
    dsimp only
    rw [Int.toNat_natCast]
  · show _=upd A.L t ((A.L t).filter (hld A)) u
    rw [getD_setL (by rw [hR.zl]; exact ht)]
    unfold upd
    split
    · rfl
    · exact hR.ls u hu
theorem rSweep_eq (hI:Iv n m A) (hR:Rr n X Y Z A) (t:Int):∃ X' Z',linealref06_Yard_Sweep t (n:Int) (m:Int) X Y Z=some ((sweepA n A t).1,(sweepA n A t).2.1,X',Z')∧Rr n X' Y Z' (sweepA n A t).2.2:=by
  have h4:=hI.n4
  unfold sweepA
  by_cases h:0≤t∧t<n
  · obtain ⟨X',Z',h1,h2⟩:=rswept hI hR (t:=t.toNat) (by omega)
    rw [Int.toNat_of_nonneg h.1] at h1
    exact ⟨X',Z',by rw [h1,if_pos h],by rw [if_pos h]; exact h2⟩
  · refine ⟨X,Z,?_,by rw [if_neg h]; exact hR⟩
    unfold linealref06_Yard_Sweep
    rw [rth h4,Option.bind_some,if_pos (nd_true h),if_neg h]
theorem rPutBy_eq (hI:Iv n m A) (hR:Rr n X Y Z A) (t k:Int):∃ X' Z',linealref06_Yard_PutBy t k (n:Int) (m:Int) X Y Z=some ((putA n m A t k).1,(putA n m A t k).2.1,X',Z')∧Rr n X' Y Z' (putA n m A t k).2.2:=by
  have h4:=hI.n4
  unfold linealref06_Yard_PutBy putA
  rw [rth h4,Option.bind_some]
  by_cases h1:0≤t∧t<n
  · rw [if_neg (by simp [h1]),rnd,Option.bind_some]
    by_cases h3:0≤k∧k<8
    · obtain ⟨i,rfl⟩:∃ i:Nat,k=(i:Int):=⟨k.toNat,by omega⟩
      obtain ⟨u,rfl⟩:∃ u:Nat,t=(u:Int):=⟨t.toNat,by omega⟩
      have hi:i<8:=by omega
      have hu:u<n:=by omega
      have hat:intAt T66 X (((i:Nat):Int).toNat*1)=A.N i:=by rw [Int.toNat_natCast,Nat.mul_one]; exact hR.nd i hi
      have hni:A.N ((i:Nat):Int).toNat=A.N i:=rfl
      rw [if_neg (by simp [h3]),ck_pos h3.1,ck_pos h3.2,hat,if_pos (show (0≤((u:Nat):Int)∧((u:Nat):Int)<(n:Int))∧0≤((i:Nat):Int)∧((i:Nat):Int)<8 from ⟨h1,h3⟩),hni]
      by_cases h5:A.N i=1
      · have hIp:=hI.putm hu hi h5
        have hfw:=hI.few (t:=u)
        have hz:Z.getD ((u:Nat):Int).toNat []=A.L u:=hR.ls u hu
        have c2:(u:Int)<(Z.length:Int):=by rw [hR.zl]; omega
        have hRp:Rr n (setInt T66 X (((i:Nat):Int).toNat*1) 2) Y (Z.set ((u:Nat):Int).toNat (A.L u++[(i:Int)])) (putM A u i):=by
          refine ⟨fun j hj=>?_,hR.yl,hR.sl,by rw [List.length_set,hR.zl],fun v hv=>?_⟩
          · have:=(hR.setN hi 2).nd j hj
            rw [Int.toNat_natCast]; exact this
          · show _=upd A.L u (A.L u++[(i:Int)]) v
            rw [Int.toNat_natCast,getD_setL (by rw [hR.zl]; exact hu)]
            unfold upd
            split
            · rfl
            · exact hR.ls v hv
        have hget:(Z.set ((u:Nat):Int).toNat (A.L u++[(i:Int)])).getD ((u:Nat):Int).toNat []=A.L u++[(i:Int)]:=by
          rw [Int.toNat_natCast,getD_setL (by rw [hR.zl]; exact hu),if_pos rfl]
        have hlen:((A.L u++[(i:Int)]).length:Int)=((A.L u).length:Int)+1:=by simp
        have huu:((u:Nat):Int).toNat=u:=Int.toNat_natCast u
        rw [if_neg (by simp [h5]),ck_pos h3.1,ck_pos h3.2,ck_pos h1.1,ck_pos c2,hz,ck_pos (by omega),ck_pos (by omega),ck_pos h1.1,ck_pos c2,ck_pos h1.1,ck_pos (by rw [List.length_set]; exact c2),hget,hlen,if_pos h5]
        by_cases h6:((A.L u).length:Int)+1<(m:Int)
        · have h6':((A.L ((u:Nat):Int).toNat).length:Int)+1<(m:Int):=h6
          rw [if_pos (decide_eq_true h6),if_pos h6']
          exact ⟨_,_,rfl,hRp⟩
        · have h6':¬ ((A.L ((u:Nat):Int).toNat).length:Int)+1<(m:Int):=h6
          obtain ⟨X',Z',h7,h8⟩:=rswept hIp hRp hu
          rw [if_neg (by simpa using h6),if_neg h6',h7]
          exact ⟨X',Z',rfl,h8⟩
      · rw [if_pos (nd_true h5),if_neg h5]
        exact ⟨_,_,rfl,hR⟩
    · rw [if_pos (nd_true h3),if_neg (fun c=>h3 c.2)]
      exact ⟨_,_,rfl,hR⟩
  · rw [if_pos (nd_true h1),if_neg (fun c=>h1 c.1)]
    exact ⟨_,_,rfl,hR⟩
theorem rDo_k1 (hI:Iv n m A) (hR:Rr n X Y Z A) (d:Int×Int×Int×Int) (hk:d.1=1∨d.1=2∨d.1=3∨d.1=4∨d.1=5∨d.1=6→okd d=true):∃ X' Y' Z',linealref06_Yard_Do_k1 d.1 d.2.1 d.2.2.1 d.2.2.2 (n:Int) (m:Int) X Y Z=some ((doA n m A d).1,(doA n m A d).2.1,X',Y',Z')∧Rr n X' Y' Z' (doA n m A d).2.2:=by
  have h4':=hI.n4
  unfold linealref06_Yard_Do_k1 doA
  by_cases h1:d.1=1
  · obtain ⟨X',e,hR'⟩:=rTake_eq h4' hR (m:Int) d.2.1
    rw [if_pos (decide_eq_true h1),e,if_pos (hk (by omega)),if_pos h1]
    exact ⟨_,_,_,rfl,hR'⟩
  · rw [if_neg (by simpa using h1)]
    by_cases h2:d.1=2
    · obtain ⟨Y',e,hR'⟩:=rPoint_eq h4' hR (m:Int) d.2.1 d.2.2.1 d.2.2.2
      rw [if_pos (decide_eq_true h2),e,if_pos (hk (by omega)),if_neg h1,if_pos h2]
      exact ⟨_,_,_,rfl,hR'⟩
    · rw [if_neg (by simpa using h2)]
      by_cases h3:d.1=3
      · obtain ⟨Y',e,hR'⟩:=rClear_eq h4' hR (m:Int) d.2.1 d.2.2.1
        rw [if_pos (decide_eq_true h3),e,if_pos (hk (by omega)),if_neg h1,if_neg h2,if_pos h3]
        exact ⟨_,_,_,rfl,hR'⟩
      · rw [if_neg (by simpa using h3)]
        by_cases h4:d.1=4
        · obtain ⟨X',Z',e,hR'⟩:=rPutBy_eq hI hR d.2.1 d.2.2.1
          rw [if_pos (decide_eq_true h4),e,if_pos (hk (by omega)),if_neg h1,if_neg h2,if_neg h3,if_pos h4]
          exact ⟨_,_,_,rfl,hR'⟩
        · rw [if_neg (by simpa using h4)]
          by_cases h5:d.1=5
          · obtain ⟨X',Z',e,hR'⟩:=rSweep_eq hI hR d.2.1
            rw [if_pos (decide_eq_true h5),e,if_pos (hk (by omega)),if_neg h1,if_neg h2,if_neg h3,if_neg h4,if_pos h5]
            exact ⟨_,_,_,rfl,hR'⟩
          · rw [if_neg (by simpa using h5)]
            by_cases h6:d.1=6
            · rw [if_pos (decide_eq_true h6),rUse_eq hI hR,if_pos (hk (by omega)),if_neg h1,if_neg h2,if_neg h3,if_neg h4,if_neg h5]
              exact ⟨_,_,_,rfl,hR⟩
            · have:okd d=false:=by unfold okd; simp; omega
              rw [if_neg (by simpa using h6),this,if_neg Bool.false_ne_true]
              exact ⟨_,_,_,rfl,hR⟩
theorem rDo_eq (hI:Iv n m A) (hR:Rr n X Y Z A) (d:Int×Int×Int×Int):∃ X' Y' Z',linealref06_Yard_Do d.1 d.2.1 d.2.2.1 d.2.2.2 (n:Int) (m:Int) X Y Z=some ((doA n m A d).1,(doA n m A d).2.1,X',Y',Z')∧Rr n X' Y' Z' (doA n m A d).2.2:=by
  have hno:okd d=false→∃ X' Y' Z',some ((0:Int),(2:Int),X,Y,Z)=some ((doA n m A d).1,(doA n m A d).2.1,X',Y',Z')∧Rr n X' Y' Z' (doA n m A d).2.2:=fun h=>by
    have e:doA n m A d=(0,2,A):=by unfold doA; rw [h,if_neg Bool.false_ne_true]
    rw [e]; exact ⟨X,Y,Z,rfl,hR⟩
  unfold linealref06_Yard_Do
  by_cases h2:d.1=2
  · rw [if_neg (by simp [h2])]
    have hk:d.1=1∨d.1=2∨d.1=3∨d.1=4∨d.1=5∨d.1=6→okd d=true:=fun _=>by unfold okd; simp [h2]
    by_cases hb:d.2.2.1=0
    · rw [if_neg (by simp [hb])]; exact rDo_k1 hI hR d hk
    · rw [if_pos (by simp [hb]),if_neg (by simp [h2]),if_neg (by simp [h2])]; exact rDo_k1 hI hR d hk
  · rw [if_pos (by simp [h2])]
    by_cases hc:d.2.2.2=0
    · rw [if_neg (by simp [hc])]
      by_cases hb:d.2.2.1=0
      · rw [if_neg (by simp [hb])]
        exact rDo_k1 hI hR d (fun hq=>by unfold okd; simp [hb,hc]; omega)
      · rw [if_pos (by simp [hb])]
        by_cases h1:d.1=1
        · rw [if_pos (decide_eq_true h1)]; exact hno (by unfold okd; simp [h1,hb])
        · rw [if_neg (by simpa using h1)]
          by_cases h5:d.1=5
          · rw [if_pos (decide_eq_true h5)]; exact hno (by unfold okd; simp [h5,hb])
          · rw [if_neg (by simpa using h5)]
            exact rDo_k1 hI hR d (fun hq=>by unfold okd; simp [hc,h1,h5]; omega)
    · rw [if_pos (by simp [hc])]; exact hno (by unfold okd; simp [h2,hc])
theorem rNew_eq (h4:n≤4) (M:Int):linealref06_New (n:Int) M=some (List.replicate n (-1,-1),List.replicate n []):=by
  unfold linealref06_New
  have key:=whileO_iter (body:=linealref06_New_b1 (n:Int)) (fun (s:List (Int×Int)×List (List Int)) (i:Int)=>(s.1,s.2,i)) n (fun k s=>(s.1++[(-1,-1)],s.2++[[]])) (fun s=>(s.1,s.2)) (fun k s=>s=(List.replicate k (-1,-1),List.replicate k [])) (s0:=([],[])) rfl (fun k s hk hp=>by
    subst hp
    refine ⟨?_,by simp only [List.replicate_succ']⟩
    unfold linealref06_New_b1
    rw [if_pos (decide_eq_true (show ((k:Nat):Int)<(n:Int) by omega)),ck_pos (by simp; omega),ck_pos (by simp; omega),ck_pos (inK_small (by omega))]) (fun s hp=>by
    unfold linealref06_New_b1
    rw [if_neg (by simp)])
  obtain ⟨h1,h2⟩:=key
  rw [h1,h2]; rfl
theorem z66 {j:Nat} (h:j<8):intAt T66 (Ty.dflt T66) j=0:=dflt_at (k:=.i64) rfl (by rw [T66_size]; exact h)
theorem Rr.new_ {X:El T66} (hX:∀ j,j<8→intAt T66 X j=0):Rr n X (List.replicate n (-1,-1)) (List.replicate n []) newM :=
  ⟨hX,by simp,fun t ht=>by simp [List.getD,ht,newM],by simp,fun t ht=>by simp [List.getD,ht,newM]⟩
theorem rIsNew_eq (a b:Int):linealref06_IsNew a b=some (decide ((1≤a∧a≤4)∧1≤b∧b≤4)):=by
  unfold linealref06_IsNew
  rw [within_eq,Option.bind_some,within_eq]
  by_cases h1:1≤a∧a≤4<;>by_cases h2:1≤b∧b≤4<;>simp [h1,h2]
end
end Go.Proofs.YtcckpmeepcoafaaDoor
