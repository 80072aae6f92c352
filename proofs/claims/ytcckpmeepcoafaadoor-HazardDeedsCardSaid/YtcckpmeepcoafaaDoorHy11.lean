import Derived.Test.YtcckpmeepcoafaaDoorHy5
import Derived.Test.YtcckpmeepcoafaaDoorHy9
namespace Go.Proofs.YtcckpmeepcoafaaDoor
open Go.RowKit
set_option linter.unusedVariables false
set_option linter.unusedSimpArgs false
set_option linter.constructorNameAsVariable false
set_option maxRecDepth 10000
section
variable {n m:Nat} {N:El T63} {S:El T65} {L:El T69} {X:El T66} {Y:List (Int×Int)} {Z:List (List Int)} {A:Mo}
theorem sameI_eq (l:List Int) (hl:l.length≤1000):linealref06_SameInts l l=some true:=by
  unfold linealref06_SameInts
  rw [if_neg (by simp)]
  obtain ⟨r,h1,h2⟩:=scan1 l (fun _=>True) (fun r:Sum Unit Unit=>r=Sum.inr ()) (body:=linealref06_SameInts_b1 l l) trivial (fun k x hx _=>by
    left
    refine ⟨?_,trivial⟩
    have hk:=(List.getElem?_eq_some_iff.1 hx).1
    have c1:((k:Nat):Int)<(l.length:Int):=by omega
    unfold linealref06_SameInts_b1
    rw [if_pos (decide_eq_true c1),ck_pos (show (0:Int)≤(k:Int) by omega),ck_pos c1,ck_pos (show (0:Int)≤(k:Int) by omega),ck_pos c1,if_neg (by simp),ck_pos (inK_small (by omega))]) (fun _=>⟨Sum.inr (),by unfold linealref06_SameInts_b1; rw [if_neg (by simp)],rfl⟩)
  rw [h1,h2]
  rfl
/-! ### What the reference tells -/
theorem rCount_eq (hr:Rr n X Y Z A) (w a b:Int):linealref06_Yard_Count w a b X Y Z=some (cntM A w:Int):=by
  unfold linealref06_Yard_Count
  obtain ⟨r,hr',hg⟩:=scan2 (List.range 8) (fun k (s:Int)=>s=(((List.range k).filter fun j=>decide (A.N j=w)).length:Int)) (fun r=>r=(cntM A w:Int)) (body:=linealref06_Yard_Count_b1 w X) (s0:=0) rfl (fun k x s hx hs=>by
    have hk:k<8:=by simpa using (List.getElem?_eq_some_iff.1 hx).1
    left
    unfold linealref06_Yard_Count_b1
    have hb:((List.range k).filter fun j=>decide (A.N j=w)).length≤k:=by
      have:=List.length_filter_le (fun j=>decide (A.N j=w)) (List.range k)
      simpa using this
    have hat:=hr.nd k hk
    rw [if_pos (decide_eq_true (show ((k:Nat):Int)<8 by omega)),ck_pos (by omega),ck_pos (by simp; omega)]
    simp only [Int.toNat_natCast,Nat.mul_one,hat]
    by_cases h:A.N k=w
    · refine ⟨s+1,?_,?_⟩
      · rw [if_pos (decide_eq_true h),ck_pos (by rw [hs]; exact inK_small (by omega)),ck_pos (inK_small (by omega))]
      · rw [List.range_succ,List.filter_append,List.length_append,hs]
        simp [h]
    · refine ⟨s,?_,?_⟩
      · rw [if_neg (by simpa using h),ck_pos (inK_small (by omega))]
      · rw [List.range_succ,List.filter_append,List.length_append,hs]
        simp [h]) (fun s hs=>⟨s,by unfold linealref06_Yard_Count_b1; rw [if_neg (by simp)],by rw [hs]; simp [cntM]⟩)
  rw [hr',hg]; rfl
theorem rHeld_eq (hI:Iv n m A) (hr:Rr n X Y Z A) (M:Int):linealref06_Yard_Held (n:Int) M X Y Z=some (heldL A):=by
  unfold linealref06_Yard_Held
  obtain ⟨r,hr',hg⟩:=scan2 (List.range 8) (fun k (s:List Int)=>s=((List.range k).map fun j:Nat=>(j:Int)).filter (hld A)) (fun r=>r=heldL A) (body:=linealref06_Yard_Held_b1 (n:Int) M X Y Z) (s0:=[]) rfl (fun k x s hx hs=>by
    have hk:k<8:=by simpa using (List.getElem?_eq_some_iff.1 hx).1
    left
    unfold linealref06_Yard_Held_b1
    have hb:s.length≤k:=by
      have:=List.length_filter_le (hld A) ((List.range k).map fun j:Nat=>(j:Int))
      rw [hs]; simpa using this
    rw [if_pos (decide_eq_true (show ((k:Nat):Int)<8 by omega)),rIsHeld_eq hI hr]
    simp only [Option.bind_some]
    cases h:hld A (k:Int) with
    | true =>
      refine ⟨s++[(k:Int)],?_,?_⟩
      · rw [if_pos rfl,ck_pos (by omega),ck_pos (inK_small (by omega))]
      · rw [List.range_succ,List.map_append,List.filter_append,hs]
        simp [h]
    | false =>
      refine ⟨s,?_,?_⟩
      · rw [if_neg (by simp),ck_pos (inK_small (by omega))]
      · rw [List.range_succ,List.map_append,List.filter_append,hs]
        simp [h]) (fun s hs=>⟨s,by unfold linealref06_Yard_Held_b1; rw [if_neg (by simp)],by rw [hs]; simp [heldL]⟩)
  rw [hr',hg]; rfl
/-! ### A yard is that of the reference -/
theorem is_b1 (hI:Iv n m A) (hR:Rp N S L A) (hr:Rr n X Y Z A):whileO (lineallaw06_Is_b1 ((n:Int),(m:Int),N,S,L) X) 0=some (Sum.inr ()):=by
  obtain ⟨r,h1,h2⟩:=scan1 (List.range 8) (fun _=>True) (fun r:Sum Unit Unit=>r=Sum.inr ()) (body:=lineallaw06_Is_b1 ((n:Int),(m:Int),N,S,L) X) trivial (fun k x hx _=>by
    left
    refine ⟨?_,trivial⟩
    have hk:k<8:=by simpa using (List.getElem?_eq_some_iff.1 hx).1
    have hs:stateA A (k:Int)=(A.N k,0):=by unfold stateA; rw [if_pos (by omega),Int.toNat_natCast]
    have hx2:intAt T66 X (((k:Nat):Int).toNat*1)=A.N k:=by rw [Int.toNat_natCast,Nat.mul_one]; exact hr.nd k hk
    unfold lineallaw06_Is_b1
    rw [if_pos (decide_eq_true (show ((k:Nat):Int)<8 by omega)),state_eq hI.n1 hR,hs,Option.bind_some]
    dsimp only
    rw [if_neg (by simp),ck_pos (show (0:Int)≤(k:Int) by omega),ck_pos (show ((k:Nat):Int)<8 by omega),hx2,if_neg (by simp),ck_pos (inK_small (by omega))]) (fun _=>⟨Sum.inr (),by unfold lineallaw06_Is_b1; rw [if_neg (by simp)],rfl⟩)
  rw [h1,h2]
theorem is_b3 (hI:Iv n m A) (hR:Rp N S L A) (hr:Rr n X Y Z A) {t:Nat} (ht:t<n):whileO (lineallaw06_Is_b3 ((n:Int),(m:Int),N,S,L) Y (t:Int)) 0=some (Sum.inr ()):=by
  have h4:=hI.n4
  have hg:Y.getD ((t:Nat):Int).toNat (0,0)=(A.S (t*2),A.S (t*2+1)):=hr.sl t ht
  have c1:(0:Int)≤(t:Int):=by omega
  have c2:(t:Int)<(Y.length:Int):=by rw [hr.yl]; omega
  have s0:slotA n A (t:Int) 0=(A.S (t*2),0):=by unfold slotA; rw [if_pos (by omega)]; rfl
  have s1:slotA n A (t:Int) 1=(A.S (t*2+1),0):=by unfold slotA; rw [if_pos (by omega)]; rfl
  refine whileO_on (s':=(1:Int)) ?_ (whileO_on (s':=(2:Int)) ?_ (whileO_end ?_))
  · unfold lineallaw06_Is_b3
    rw [if_pos (by simp),slot_eq hI hR,s0,Option.bind_some]
    dsimp only
    rw [if_neg (by simp),ck_pos c1,ck_pos c2,ck_pos (by omega),ck_pos (by omega),if_pos (by simp),hg,if_neg (by simp),ck_pos (by rw [inK_i64]; omega)]
    rfl
  · unfold lineallaw06_Is_b3
    rw [if_pos (by simp),slot_eq hI hR,s1,Option.bind_some]
    dsimp only
    rw [if_neg (by simp),ck_pos c1,ck_pos c2,ck_pos (by omega),ck_pos (by omega),if_neg (by simp),hg,if_neg (by simp),ck_pos (by rw [inK_i64]; omega)]
    rfl
  · unfold lineallaw06_Is_b3
    rw [if_neg (by simp)]
theorem is_b2 (hI:Iv n m A) (hR:Rp N S L A) (hr:Rr n X Y Z A):whileO (lineallaw06_Is_b2 ((n:Int),(m:Int),N,S,L) (n:Int) Y Z) 0=some (Sum.inr ()):=by
  have h4:=hI.n4
  obtain ⟨r,h1,h2⟩:=scan1 (List.range n) (fun _=>True) (fun r:Sum Unit Unit=>r=Sum.inr ()) (body:=lineallaw06_Is_b2 ((n:Int),(m:Int),N,S,L) (n:Int) Y Z) trivial (fun k x hx _=>by
    left
    refine ⟨?_,trivial⟩
    have hk:k<n:=by simpa using (List.getElem?_eq_some_iff.1 hx).1
    have hs:listA n A (k:Int)=(A.L k,0):=by unfold listA; rw [if_pos (by omega),Int.toNat_natCast]
    have hz:Z.getD ((k:Nat):Int).toNat []=A.L k:=hr.ls k hk
    have hf:=hI.few (t:=k)
    unfold lineallaw06_Is_b2
    rw [if_pos (decide_eq_true (show ((k:Nat):Int)<(n:Int) by omega)),list_eq hI hR,hs,Option.bind_some]
    dsimp only
    rw [if_neg (by simp),ck_pos (show (0:Int)≤(k:Int) by omega),ck_pos (show ((k:Nat):Int)<(Z.length:Int) by rw [hr.zl]; omega),hz,sameI_eq _ (by omega),Option.bind_some,if_neg (by simp),is_b3 hI hR hr hk,Option.bind_some]
    unfold lineallaw06_Is_k3
    dsimp only
    rw [ck_pos (inK_small (by omega))]) (fun _=>⟨Sum.inr (),by unfold lineallaw06_Is_b2; rw [if_neg (by simp)],rfl⟩)
  rw [h1,h2]
theorem Is_eq (hI:Iv n m A) (hR:Rp N S L A) (hr:Rr n X Y Z A):lineallaw06_Is ((n:Int),(m:Int),N,S,L) (n:Int) (m:Int) X Y Z=some true:=by
  unfold lineallaw06_Is
  have hl:=heldL_len A
  rw [By_eq hI.n1 hR,Option.bind_some,rCount_eq hr,Option.bind_some,if_neg (by simp),Free_eq hI.n1 hR,Option.bind_some,rCount_eq hr,Option.bind_some,if_neg (by simp),Held_eq hI.n1 hR,Option.bind_some,rHeld_eq hI hr,Option.bind_some,sameI_eq _ (by omega),Option.bind_some,if_neg (by simp),is_b1 hI hR hr,Option.bind_some]
  dsimp only
  unfold lineallaw06_Is_k1
  rw [is_b2 hI hR hr,Option.bind_some]
  rfl
/-! ### The law -/
end
end Go.Proofs.YtcckpmeepcoafaaDoor
