import Derived.Test.YtcckpmeepcoafaaDoorHy2
namespace Go.Proofs.YtcckpmeepcoafaaDoor
open Go.RowKit
set_option linter.unusedVariables false
set_option linter.unusedSimpArgs false
set_option linter.constructorNameAsVariable false
set_option maxRecDepth 10000
section
variable {n m:Nat} {N:El T63} {S:El T65} {L:El T69} {A:Mo}
theorem findSome_find {α β:Type} (p:α→Bool) (g:α→β):∀ (l:List α),(l.findSome? fun k=>if p k=true then some (g k) else none)=(l.find? p).map g
  | []=>rfl
  | x::l=>by
    rw [List.findSome?_cons,List.find?_cons]
    cases h:p x with
    | true=>simp
    | false=>simp only [Bool.false_eq_true,if_false]; exact findSome_find p g l
theorem Rp.setN (hR:Rp N S L A) {j:Nat} (hj:j<8) (v:Int):Rp (setInt T63 N (j*1) v) S L { A with N:=upd A.N j v } :=
  ⟨fun q hq=>by
    rw [Nat.mul_one,nd_set N v hj hq]
    show _=upd A.N j v q
    unfold upd
    split
    · rfl
    · exact hR.nd q hq,hR.sl,hR.cn,hR.le,hR.el,hR.ok⟩
theorem Rp.setS (hR:Rp N S L A) {j:Nat} (hj:j<8) (v:Int):Rp N (setInt T65 S j v) L { A with S:=upd A.S j v } :=
  ⟨hR.nd,fun q hq=>by
    rw [sl_set S v hj hq]
    show _=upd A.S j v q
    unfold upd
    split
    · rfl
    · exact hR.sl q hq,hR.cn,hR.le,hR.el,hR.ok⟩
theorem index_eq (hR:Rp N S L A) (a b:Int):slices_Index 0 (a,b,N,S,L)=some (((fst0 A).map fun k=>(k:Int)).getD (-1)):=by
  unfold slices_Index
  have:=whileO_find (body:=slices_Index_b1 0 (a,b,N,S,L)) 8 (fun k=>if decide (A.N k=0)=true then some (Sum.inl (k:Int)) else none) (Sum.inr ()) (fun k hk=>by
    unfold slices_Index_b1
    rw [if_pos (decide_eq_true (show ((k:Nat):Int)<8 by omega)),ck_pos (by omega),ck_pos (by omega)]
    simp only [Int.toNat_natCast,Nat.mul_one,hR.nd k hk]
    by_cases h:A.N k=0
    · simp [h]
    · have h':¬ 0=A.N k:=fun e=>h e.symm
      simp [h,h',ck_pos (inK_small (k:=k) (by omega))]) (by
    unfold slices_Index_b1
    rw [if_neg (by simp)])
  rw [this,findSome_find (fun k=>decide (A.N k=0)) (fun k:Nat=>(Sum.inl (k:Int):Sum Int Unit))]
  show (some (((fst0 A).map _).getD _)).bind _=_
  cases fst0 A<;>rfl
theorem Take_eq (hI:Iv n m A) (hR:Rp N S L A) (t:Int):∃ N',hazard_Yard_Take t ((n:Int),(m:Int),N,S,L)=some ((takeA n A t).1,(takeA n A t).2.1,N')∧Rp N' S L (takeA n A t).2.2:=by
  unfold hazard_Yard_Take hazard_isThread takeA
  rw [fails2 hI.n1]
  by_cases h:0≤t∧t<n
  · simp only [Option.bind_some,h,and_self,if_true,index_eq hR]
    cases hf:fst0 A with
    | none=>exact ⟨N,by simp,hR⟩
    | some k =>
      have hk:=(fst0_some hf).1
      refine ⟨_,?_,hR.setN hk 1⟩
      have h1:¬ (k:Int)<0:=by omega
      simp [h1,ck]
      omega
  · exact ⟨N,by simp [h],by rw [if_neg h]; exact hR⟩
theorem Point_eq (hI:Iv n m A) (hR:Rp N S L A) (t s k:Int):∃ S',hazard_Yard_Point t s k ((n:Int),(m:Int),N,S,L)=some ((pointA n A t s k).1,S')∧Rp N S' L (pointA n A t s k).2:=by
  unfold hazard_Yard_Point hazard_isThread hazard_isSlot hazard_isNode hazard_isIn pointA
  rw [fails3 hI.n1]
  have h4:=hI.n4
  by_cases h:(0≤t∧t<n)∧(0≤s∧s<2)∧0≤k∧k<8
  · have h':t<4:=by omega
    have hk:=hR.nd k.toNat (by omega)
    by_cases h3:A.N k.toNat=1
    · refine ⟨setInt T65 S (t.toNat*2+s.toNat) k,?_,?_⟩
      · simp [h,h',hk,h3,ck]
      · simp only [h,h3,and_self,if_true]; exact hR.setS (by omega) k
    · exact ⟨S,by simp [h,hk,h3],by simp only [h,h3,and_self,if_true,if_false]; exact hR⟩
  · exact ⟨S,by simp [h],by rw [if_neg h]; exact hR⟩
theorem Clear_eq (hI:Iv n m A) (hR:Rp N S L A) (t s:Int):∃ S',hazard_Yard_Clear t s ((n:Int),(m:Int),N,S,L)=some ((clearA n A t s).1,S')∧Rp N S' L (clearA n A t s).2:=by
  unfold hazard_Yard_Clear hazard_isThread hazard_isSlot clearA
  rw [fails4 hI.n1]
  have h4:=hI.n4
  by_cases h:(0≤t∧t<n)∧0≤s∧s<2
  · have h':t<4:=by omega
    refine ⟨setInt T65 S (t.toNat*2+s.toNat) (-1),?_,?_⟩
    · simp [h,h',ck]
    · simp only [h,and_self,if_true]; exact hR.setS (by omega) (-1)
  · exact ⟨S,by simp [h],by rw [if_neg h]; exact hR⟩
/-! ### A list swept -/
theorem sweep_step (hI:Iv n m A) (hR:Rp N S L A) {t:Nat} {a b:Int} {k i:Nat} (hx:(A.L t)[k]?=some (i:Int)) (hi:i<8) {N1:El T63} {c:Int} {K:El T66} {p:Nat} (hc:c=(p:Int)) (hp:p≤k) (hl:(A.L t).length≤8) :
    hazard_Yard_sweep_b1 (a,b,N,S,L) (A.L t) (N1,c,K,(k:Int))=some (.next (if hld A (i:Int)=true then (N1,c+1,setInt T66 K (c.toNat*1) (i:Int),(k:Int)+1) else (setInt T63 N1 (((i:Nat):Int).toNat*1) 0,c,K,(k:Int)+1))):=by
  have hk:k<(A.L t).length:=(List.getElem?_eq_some_iff.1 hx).1
  have hd:(A.L t).getD ((k:Nat):Int).toNat 0=(i:Int):=getD_of hx
  have c0:decide (((k:Nat):Int)<((A.L t).length:Int))=true:=decide_eq_true (by omega)
  have c1:0≤((i:Nat):Int):=by omega
  have c2:((i:Nat):Int)<8:=by omega
  have c3:InK .i64 (((k:Nat):Int)+1):=inK_small (by omega)
  have c4:(0:Int)≤((k:Nat):Int):=by omega
  have c5:((k:Nat):Int)<((A.L t).length:Int):=by omega
  have hh:=held_eq hR.sl (i:Int) a b N1 L
  have hadd:hazard_list_add_2 (i:Int) (c,K)=some ():=by
    unfold hazard_list_add_2
    rw [ck_pos (show 0≤c by omega),ck_pos (show c<8 by omega),ck_pos (show InK .i64 (c+1) by rw [hc]; exact inK_small (by omega))]
  unfold hazard_Yard_sweep_b1
  rw [if_pos c0,ck_pos c4,ck_pos c5,hd,hh,Option.bind_some]
  cases hld A (i:Int) with
  | true=>rw [if_pos rfl,if_pos rfl,hadd,Option.bind_some,ck_pos c3]
  | false=>rw [if_neg Bool.false_ne_true,if_neg Bool.false_ne_true,ck_pos c1,ck_pos c2,ck_pos c3]
theorem sweep_loop (hI:Iv n m A) (hR:Rp N S L A) {t:Nat} (ht:t<n) (a b:Int) :
    ∃ N' c K,whileO (hazard_Yard_sweep_b1 (a,b,N,S,L) (A.L t)) (N,0,(Ty.dflt T66),0)=some (N',c,K)∧(∀ j,j<8→intAt T63 N' j=(swM A t).N j)∧c=(((A.L t).filter (hld A)).length:Int)∧(∀ (q:Nat) (x:Int),((A.L t).filter (hld A))[q]?=some x→intAt T66 K q=x)∧∀ q,q<8→0≤intAt T66 K q∧intAt T66 K q≤8:=by
  have hl:=hI.few (t:=t)
  have key:=whileO_list (body:=hazard_Yard_sweep_b1 (a,b,N,S,L) (A.L t)) (fun (s:El T63×Int×El T66) (i:Int)=>(s.1,s.2.1,s.2.2,i)) (A.L t)
    (fun s x=>if hld A x=true then (s.1,s.2.1+1,setInt T66 s.2.2 (s.2.1.toNat*1) x) else (setInt T63 s.1 (x.toNat*1) 0,s.2.1,s.2.2)) (fun s=>(s.1,s.2.1,s.2.2))
    (fun k s=>(∀ j,j<8→intAt T63 s.1 j=if (j:Int)∈(A.L t).take k∧hld A j=false then 0 else A.N j)∧s.2.1=((((A.L t).take k).filter (hld A)).length:Int)∧(∀ (q:Nat) (x:Int),(((A.L t).take k).filter (hld A))[q]?=some x→intAt T66 s.2.2 q=x)∧∀ q,q<8→0≤intAt T66 s.2.2 q∧intAt T66 s.2.2 q≤8)
    (s0:=(N,0,Ty.dflt T66)) ⟨fun j hj=>by simp [hR.nd j hj],by simp,fun q x hx=>by simp at hx,fun q hq=>by rw [dflt_at (k:=.i64) rfl (by rw [T66_size]; exact hq)]; omega⟩ (fun k x s hx hp=>by
      obtain ⟨p1,p2,p3,p4⟩:=hp
      obtain ⟨i,hi,rfl,hi2⟩:=hI.ls t ht x (List.mem_of_getElem? hx)
      have hk:k<(A.L t).length:=(List.getElem?_eq_some_iff.1 hx).1
      have hfl:(((A.L t).take k).filter (hld A)).length≤k:=by
        have:=List.length_filter_le (hld A) ((A.L t).take k)
        have h2:((A.L t).take k).length≤k:=by simp; omega
        omega
      have htk:(A.L t).take (k+1)=(A.L t).take k++[(i:Int)]:=take_one hx
      have hbody:=sweep_step hI hR (a:=a) (b:=b) (t:=t) hx hi (N1:=s.1) (c:=s.2.1) (K:=s.2.2) p2 hfl hl
      refine ⟨?_,?_⟩
      · rw [hbody]
        cases hh:hld A (i:Int)
        · simp only [Bool.false_eq_true,if_false]
        · simp only [if_true]
      · simp only [htk,List.filter_append,List.mem_append,List.mem_singleton]
        cases hh:hld A (i:Int) with
        | true =>
          simp only [if_true]
          refine ⟨fun j hj=>?_,?_,fun q x hq=>?_,fun q hq=>?_⟩
          · rw [p1 j hj]
            by_cases e:(j:Int)=(i:Int)
            · rw [e,hh]; simp
            · simp [e]
          · rw [p2]; simp [hh]
          · have hf:[(i:Int)].filter (hld A)=[(i:Int)]:=by simp [hh]
            rw [hf] at hq
            rw [p2,Int.toNat_natCast,Nat.mul_one]
            have hql:q<(((A.L t).take k).filter (hld A)).length+1:=by
              have:=(List.getElem?_eq_some_iff.1 hq).1
              simpa using this
            rw [kn_set _ _ (by omega) (by omega)]
            by_cases e:q=(((A.L t).take k).filter (hld A)).length
            · rw [if_pos e]
              subst e
              simpa using hq
            · rw [if_neg e]
              rw [List.getElem?_append_left (by omega)] at hq
              exact p3 q x hq
          · rw [p2,Int.toNat_natCast,Nat.mul_one,kn_set _ _ (by omega) hq]
            split
            · omega
            · exact p4 q hq
        | false =>
          simp only [Bool.false_eq_true,if_false]
          refine ⟨fun j hj=>?_,?_,fun q x hq=>?_,fun q hq=>?_⟩
          · rw [Int.toNat_natCast,Nat.mul_one,nd_set _ _ hi hj]
            by_cases e:j=i
            · subst e; rw [if_pos rfl]; simp [hh]
            · rw [if_neg e,p1 j hj]
              have e':¬ (j:Int)=(i:Int):=by omega
              simp [e']
          · rw [p2]; simp [hh]
          · have hf:[(i:Int)].filter (hld A)=[]:=by simp [hh]
            rw [hf,List.append_nil] at hq
            exact p3 q x hq
          · exact p4 q hq) (fun s hp=>by
      unfold hazard_Yard_sweep_b1
      rw [if_neg (by simp)])
  obtain ⟨h1,h2,h3,h4,h5⟩:=key
  rw [List.take_length] at h2 h3 h4
  refine ⟨_,_,_,h1,fun j hj=>h2 j hj,h3,h4,h5⟩
theorem swept_eq (hI:Iv n m A) (hR:Rp N S L A) {t:Nat} (ht:t<n):∃ N' L',hazard_Yard_sweep (t:Int) ((n:Int),(m:Int),N,S,L)=some (swN A t,N',L')∧Rp N' S L' (swM A t):=by
  have h4:=hI.n4
  obtain ⟨N',c,K,h1,h2,h3,h5,h6⟩:=sweep_loop hI hR ht (n:Int) (m:Int)
  have hfl:((A.L t).filter (hld A)).length≤(A.L t).length:=List.length_filter_le _ _
  have hl:=hI.few (t:=t)
  refine ⟨N',putX T69 (.pair (.int .i64) T66) L (t*9) (c,K),?_,⟨fun j hj=>h2 j hj,hR.sl,fun u hu=>?_,fun u hu=>?_,fun u hu k x hx=>?_,fun j hj=>?_⟩⟩
  · unfold hazard_Yard_sweep
    simp only [Int.toNat_natCast]
    rw [ck_pos (by omega),ck_pos (by omega),all_eq hR (by omega)]
    simp only [Option.bind_some]
    rw [h1]
    simp only [Option.bind_some]
    unfold hazard_Yard_sweep_k1
    simp only [Int.toNat_natCast,h3]
    rw [ck_pos (by omega),ck_pos (by omega),ck_pos (by rw [inK_i64]; omega)]
    rfl
  · have hLu:(swM A t).L u=upd A.L t ((A.L t).filter (hld A)) u:=rfl
    rw [ls_put L c K (by omega) (by omega),hLu]
    by_cases e:u=t
    · subst e; rw [if_pos rfl,upd_same,h3]
    · rw [if_neg (by omega),if_neg (by omega),upd_other e]; exact hR.cn u hu
  · have hLu:(swM A t).L u=upd A.L t ((A.L t).filter (hld A)) u:=rfl
    rw [hLu]
    by_cases e:u=t
    · subst e; rw [upd_same]; omega
    · rw [upd_other e]; exact hR.le u hu
  · have hLu:(swM A t).L u=upd A.L t ((A.L t).filter (hld A)) u:=rfl
    rw [hLu] at hx
    by_cases e:u=t
    · subst e; rw [upd_same] at hx
      have hk:=(List.getElem?_eq_some_iff.1 hx).1
      rw [ls_put L c K (by omega) (by omega),if_neg (by omega),if_pos (by omega),show u*9+1+k - u*9 - 1=k by omega]
      exact h5 k x hx
    · rw [upd_other e] at hx
      have hk:=(List.getElem?_eq_some_iff.1 hx).1
      have:=hR.le u hu
      rw [ls_put L c K (by omega) (by omega),if_neg (by omega),if_neg (by omega)]
      exact hR.el u hu k x hx
  · rw [ls_put L c K (by omega) hj]
    split
    · omega
    · split
      · exact h6 _ (by omega)
      · exact hR.ok j hj
theorem Sweep_eq (hI:Iv n m A) (hR:Rp N S L A) (t:Int):∃ N' L',hazard_Yard_Sweep t ((n:Int),(m:Int),N,S,L)=some ((sweepA n A t).1,(sweepA n A t).2.1,N',L')∧Rp N' S L' (sweepA n A t).2.2:=by
  unfold hazard_Yard_Sweep hazard_isThread sweepA
  rw [fails2 hI.n1]
  by_cases h:0≤t∧t<n
  · obtain ⟨N',L',h1,h2⟩:=swept_eq hI hR (t:=t.toNat) (by omega)
    rw [Int.toNat_of_nonneg h.1] at h1
    refine ⟨N',L',?_,by rw [if_pos h]; exact h2⟩
    simp [h,h1]
  · exact ⟨N,L,by simp [h],by rw [if_neg h]; exact hR⟩
/-! ### A node put by -/
theorem Rp.put (hR:Rp N S L A) {t i:Nat} (ht:t<4) (hi:i<8) (hl:(A.L t).length<8) :
    Rp (setInt T63 N (i*1) 2) S (setInt T69 (setInt T69 L (((t*9)+1)+(intAt T69 L (t*9)).toNat*1) (i:Int)) (t*9) ((intAt T69 (setInt T69 L (((t*9)+1)+(intAt T69 L (t*9)).toNat*1) (i:Int)) (t*9))+1)) (putM A t i):=by
  have hLu:∀ u,(putM A t i).L u=upd A.L t (A.L t++[(i:Int)]) u:=fun _=>rfl
  have h0:=hR.cn t ht
  have e0:(intAt T69 L (t*9)).toNat*1=(A.L t).length:=by rw [h0]; simp
  rw [e0]
  have e1:intAt T69 (setInt T69 L (t*9+1+(A.L t).length) (i:Int)) (t*9)=((A.L t).length:Int):=by rw [ls_set L _ (by omega) (by omega),if_neg (by omega),h0]
  rw [e1]
  refine ⟨fun j hj=>?_,hR.sl,fun u hu=>?_,fun u hu=>?_,fun u hu k x hx=>?_,fun j hj=>?_⟩
  · rw [Nat.mul_one,nd_set N _ hi hj]
    show _=upd A.N ((i:Int)).toNat 2 j
    rw [Int.toNat_natCast]
    unfold upd
    split
    · rfl
    · exact hR.nd j hj
  · rw [ls_set _ _ (by omega) (by omega),hLu]
    by_cases e:u=t
    · subst e; rw [if_pos rfl,upd_same]; simp
    · rw [if_neg (by omega),ls_set _ _ (by omega) (by omega),if_neg (by omega),upd_other e]; exact hR.cn u hu
  · rw [hLu]
    by_cases e:u=t
    · subst e; rw [upd_same]; simp; omega
    · rw [upd_other e]; exact hR.le u hu
  · rw [hLu] at hx
    have h8:=hR.le u hu
    by_cases e:u=t
    · subst e; rw [upd_same] at hx
      have hk:=(List.getElem?_eq_some_iff.1 hx).1
      simp at hk
      rw [ls_set _ _ (by omega) (by omega),if_neg (by omega),ls_set _ _ (by omega) (by omega)]
      by_cases e2:k=(A.L u).length
      · subst e2; rw [if_pos rfl]
        simpa using hx
      · rw [if_neg (by omega)]
        rw [List.getElem?_append_left (by omega)] at hx
        exact hR.el u hu k x hx
    · rw [upd_other e] at hx
      have hk:=(List.getElem?_eq_some_iff.1 hx).1
      rw [ls_set _ _ (by omega) (by omega),if_neg (by omega),ls_set _ _ (by omega) (by omega),if_neg (by omega)]
      exact hR.el u hu k x hx
  · rw [ls_set _ _ (by omega) hj]
    split
    · omega
    · rw [ls_set _ _ (by omega) hj]
      split
      · omega
      · exact hR.ok j hj
theorem PutBy_eq (hI:Iv n m A) (hR:Rp N S L A) (t k:Int):∃ N' L',hazard_Yard_PutBy t k ((n:Int),(m:Int),N,S,L)=some ((putA n m A t k).1,(putA n m A t k).2.1,N',L')∧Rp N' S L' (putA n m A t k).2.2:=by
  unfold hazard_Yard_PutBy hazard_isThread hazard_isNode hazard_isIn putA
  rw [fails5 hI.n1]
  have h4:=hI.n4
  by_cases h:(0≤t∧t<n)∧0≤k∧k<8
  · obtain ⟨i,rfl⟩:∃ i:Nat,k=(i:Int):=⟨k.toNat,by omega⟩
    obtain ⟨u,rfl⟩:∃ u:Nat,t=(u:Int):=⟨t.toNat,by omega⟩
    have hi:i<8:=by omega
    have hu:u<n:=by omega
    have hk:=hR.nd i hi
    simp only [Int.toNat_natCast]
    by_cases h3:A.N i=1
    · have hIp:=hI.putm hu hi h3
      have hfew:=hIp.few (t:=u)
      have hLu:(putM A u i).L u=A.L u++[(i:Int)]:=upd_same _ _ _
      rw [hLu] at hfew
      simp at hfew
      have hRp:=hR.put (t:=u) (by omega) hi (by omega)
      have h0:=hR.cn u (by omega)
      have e0:(intAt T69 L (u*9)).toNat*1=(A.L u).length:=by rw [h0]; simp
      have e1:intAt T69 (setInt T69 L (u*9+1+(intAt T69 L (u*9)).toNat*1) (i:Int)) (u*9)=((A.L u).length:Int):=by rw [e0,ls_set L _ (by omega) (by omega),if_neg (by omega),h0]
      have e2:=hRp.cn u (by omega)
      rw [hLu] at e2
      have hadd:hazard_list_add (u*9) (i:Int) ((n:Int),(m:Int),setInt T63 N (i*1) 2,S,L)=some ():=by
        unfold hazard_list_add
        simp only [e1]
        simp only [e0,h0]
        rw [ck_pos (by omega),ck_pos (by omega),ck_pos (by omega),ck_pos (by omega),ck_pos (by omega),ck_pos (by rw [inK_i64]; omega),ck_pos (by omega)]
      simp only [hk,h3,h,and_self,if_true,Option.bind_some]
      rw [if_neg (by simp),ck_pos (by first|trivial|omega),ck_pos (by first|trivial|omega),ck_pos (by first|trivial|omega),ck_pos (by first|trivial|omega),hadd]
      simp only [Option.bind_some]
      rw [ck_pos (by first|trivial|omega),ck_pos (by first|trivial|omega)]
      simp only [e2]
      have hlen:((A.L u++[(i:Int)]).length:Int)=((A.L u).length:Int)+1:=by simp
      rw [hlen]
      by_cases h6:((A.L u).length:Int)+1<(m:Int)
      · simp only [if_pos (decide_eq_true h6),if_pos h6]
        exact ⟨_,_,rfl,hRp⟩
      · obtain ⟨N',L',h7,h8⟩:=swept_eq hIp hRp hu
        have h9:¬ decide (((A.L u).length:Int)+1<(m:Int))=true:=by simpa using h6
        simp only [if_neg h9,if_neg h6,h7]
        exact ⟨N',L',rfl,h8⟩
    · refine ⟨N,L,?_,?_⟩
      · simp [h,hk,h3]
      · simp only [h,h3,and_self,if_true,if_false]; exact hR
  · exact ⟨N,L,by simp [h],by rw [if_neg h]; exact hR⟩
end
end Go.Proofs.YtcckpmeepcoafaaDoor
