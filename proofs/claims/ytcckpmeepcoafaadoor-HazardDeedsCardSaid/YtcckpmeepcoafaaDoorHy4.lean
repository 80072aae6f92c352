import Derived.Test.YtcckpmeepcoafaaDoorHy3
namespace Go.Proofs.YtcckpmeepcoafaaDoor
open Go.RowKit
set_option linter.unusedVariables false
set_option linter.unusedSimpArgs false
set_option linter.constructorNameAsVariable false
set_option maxRecDepth 10000
section
variable {n m:Nat} {N:El T63} {S:El T65} {L:El T69} {A:Mo}
theorem deed_loop (d:Int×Int×Int×Int) (xs:List Int) (hxs:[d.2.1,d.2.2.1,d.2.2.2].drop (fieldsL.getD (0+d.1.toNat*1) 0).toNat=xs):whileO (hazard_isDeed_1_b1 d) 0=some (if xs.all (fun x=>decide (x=0))=true then .inr () else .inl ()):=by
  have hl:xs.length≤3:=by rw [← hxs,List.length_drop]; simp
  refine whileO_all xs (fun x=>decide (x=0)) (fun k x hx=>?_) ?_
  · have hk:=(List.getElem?_eq_some_iff.1 hx).1
    unfold hazard_isDeed_1_b1
    rw [hxs]
    have c1:((k:Nat):Int)<(xs.length:Int):=by omega
    have hg:xs.getD ((k:Nat):Int).toNat 0=x:=getD_of hx
    rw [if_pos (decide_eq_true c1),ck_pos (show (0:Int)≤(k:Int) by omega),ck_pos c1,hg]
    by_cases h:x=0
    · rw [if_neg (by simp [h]),ck_pos (inK_small (by omega)),if_pos (decide_eq_true h)]
    · rw [if_pos (by simp [h]),if_neg (by simpa using h)]
  · unfold hazard_isDeed_1_b1
    rw [hxs,if_neg (by simp)]
theorem deed_eq (d:Int×Int×Int×Int) (y:Int×Int×El T63×El T65×El T69):hazard_isDeed_1 d y=some (okd d):=by
  obtain ⟨q,a,b,c⟩:=d
  unfold hazard_isDeed_1 hazard_isDeed_1_k1
  by_cases h1:q<1
  · have:okd (q,a,b,c)=false:=by unfold okd; simp; omega
    rw [if_pos (decide_eq_true h1),this]
  · by_cases h6:6<q
    · have:okd (q,a,b,c)=false:=by unfold okd; simp; omega
      rw [if_neg (by simpa using h1),if_pos (decide_eq_true h6),this]
    · rw [if_neg (by simpa using h1),if_neg (by simpa using h6)]
      have hq:q=1∨q=2∨q=3∨q=4∨q=5∨q=6:=by omega
      rcases hq with rfl|rfl|rfl|rfl|rfl|rfl
      all_goals
        dsimp only
        rw [ck_pos (by decide),ck_pos (by decide),ck_pos (by decide),ck_pos (by decide),ck_pos (by decide),deed_loop _ _ rfl]
        simp only [Option.bind_some,okd,fieldsL]
      · by_cases h2:b=0<;>by_cases h3:c=0<;>simp [h2,h3]
      · simp
      · by_cases h3:c=0<;>simp [h3]
      · by_cases h3:c=0<;>simp [h3]
      · by_cases h2:b=0<;>by_cases h3:c=0<;>simp [h2,h3]
      · by_cases h3:c=0<;>simp [h3]
theorem fails1 (hn:1≤n) (M:Int) (d:Int×Int×Int×Int) (c:Int):hazard_Yard_fails ((n:Int),M,N,S,L) d c=some (if okd d=true then 0 else c):=by
  unfold hazard_Yard_fails hazard_Yard_isNone hazard_Yard_fails_k1
  simp only [Option.bind_some,nz hn,deed_eq]
  rw [if_neg (by simp)]
  cases okd d<;>simp [ck,inK_i64]
theorem Do_eq (hI:Iv n m A) (hR:Rp N S L A) (d:Int×Int×Int×Int):∃ N' S' L',hazard_Yard_Do d ((n:Int),(m:Int),N,S,L)=some ((doA n m A d).1,(doA n m A d).2.1,N',S',L')∧Rp N' S' L' (doA n m A d).2.2:=by
  unfold hazard_Yard_Do hazard_isDeed doA
  rw [fails1 hI.n1]
  simp only [Option.bind_some]
  cases hk:okd d with
  | false=>exact ⟨N,S,L,by simp,by simpa using hR⟩
  | true =>
    simp only [if_true,decide_true,Bool.not_true,Bool.false_eq_true,if_false]
    by_cases h1:d.1=1
    · obtain ⟨N',e,hR'⟩:=Take_eq hI hR d.2.1
      simp only [h1,decide_true,if_true,e,Option.bind_some]
      exact ⟨N',S,L,rfl,hR'⟩
    · rw [if_neg (by simpa using h1),if_neg h1]
      by_cases h2:d.1=2
      · obtain ⟨S',e,hR'⟩:=Point_eq hI hR d.2.1 d.2.2.1 d.2.2.2
        simp only [h2,decide_true,if_true,e,Option.bind_some]
        exact ⟨N,S',L,rfl,hR'⟩
      · rw [if_neg (by simpa using h2),if_neg h2]
        by_cases h3:d.1=3
        · obtain ⟨S',e,hR'⟩:=Clear_eq hI hR d.2.1 d.2.2.1
          simp only [h3,decide_true,if_true,e,Option.bind_some]
          exact ⟨N,S',L,rfl,hR'⟩
        · rw [if_neg (by simpa using h3),if_neg h3]
          by_cases h4:d.1=4
          · obtain ⟨N',L',e,hR'⟩:=PutBy_eq hI hR d.2.1 d.2.2.1
            simp only [h4,decide_true,if_true,e,Option.bind_some]
            exact ⟨N',S,L',rfl,hR'⟩
          · rw [if_neg (by simpa using h4),if_neg h4]
            by_cases h5:d.1=5
            · obtain ⟨N',L',e,hR'⟩:=Sweep_eq hI hR d.2.1
              simp only [h5,decide_true,if_true,e,Option.bind_some]
              exact ⟨N',S,L',rfl,hR'⟩
            · rw [if_neg (by simpa using h5),if_neg h5,use_eq hI hR]
              exact ⟨N,S,L,rfl,hR⟩
/-! ### New yards -/
theorem new_inner (t:Nat) (ht:t<4) (S0 T0:El T65) (hS:∀ j,j<2*t→intAt T65 S0 j=-1) (q:Int):∃ S1,whileO (hazard_New_b2 (T0,(t:Int))) (S0,0)=some S1∧∀ j,j<2*(t+1)→intAt T65 S1 j=-1 :=
  scan2 (List.range 2) (fun k s=>∀ j,j<2*t+k→intAt T65 s j=-1) (fun s=>∀ j,j<2*(t+1)→intAt T65 s j=-1) (body:=hazard_New_b2 (T0,(t:Int))) hS (fun k x s hx hp=>by
    have hk:k<2:=by simpa using (List.getElem?_eq_some_iff.1 hx).1
    left
    refine ⟨setInt T65 s ((((t:Nat):Int).toNat*2)+((k:Nat):Int).toNat*1) (-1),?_,fun j hj=>?_⟩
    · unfold hazard_New_b2
      rw [if_pos (decide_eq_true (show ((k:Nat):Int)<2 by omega)),ck_pos (show (0:Int)≤(t:Int) by omega),ck_pos (show (t:Int)<4 by omega),ck_pos (show (0:Int)≤(k:Int) by omega),ck_pos (show (k:Int)<2 by omega),ck_pos (inK_small (by omega))]
    · rw [Int.toNat_natCast,Int.toNat_natCast,sl_set s _ (by omega) (by omega)]
      split
      · rfl
      · exact hp j (by omega)) (fun s hp=>⟨s,by unfold hazard_New_b2; rw [if_neg (by simp)],fun j hj=>hp j (by simp; omega)⟩)
theorem z63 {j:Nat} (h:j<8):intAt T63 (Ty.dflt T63) j=0:=dflt_at (k:=.i64) rfl (by rw [T63_size]; exact h)
theorem z69 {j:Nat} (h:j<36):intAt T69 (Ty.dflt T69) j=0:=dflt_at (k:=.i64) rfl (by rw [T69_size]; exact h)
theorem Rp.new_ {Z:El T63} {S0:El T65} {W:El T69} (hZ:∀ j,j<8→intAt T63 Z j=0) (hW:∀ j,j<36→intAt T69 W j=0) (h:∀ j,j<8→intAt T65 S0 j=-1):Rp Z S0 W newM :=
  ⟨hZ,h,fun t ht=>hW _ (by omega),fun _ _=>Nat.zero_le _,fun t ht k x hx=>(by cases hx),fun j hj=>by rw [hW j hj]; omega⟩
theorem new_loop (Z:El T65):∃ S0,whileO hazard_New_b1 (Z,0)=some S0∧∀ j,j<8→intAt T65 S0 j=-1:=by
  refine scan2 (List.range 4) (fun k s=>∀ j,j<2*k→intAt T65 s j=-1) (fun s=>∀ j,j<8→intAt T65 s j=-1) (body:=hazard_New_b1) (s0:=Z) (fun j hj=>by omega) (fun k x s hx hp=>?_) (fun s hp=>⟨s,?_,fun j hj=>hp j (by simp; omega)⟩)
  · have hk:k<4:=by simpa using (List.getElem?_eq_some_iff.1 hx).1
    left
    obtain ⟨S1,e1,e2⟩:=new_inner k hk s s hp 0
    refine ⟨S1,?_,e2⟩
    unfold hazard_New_b1
    rw [if_pos (decide_eq_true (show ((k:Nat):Int)<4 by omega)),e1,Option.bind_some]
    unfold hazard_New_k2
    rw [ck_pos (inK_small (by omega))]
  · unfold hazard_New_b1; rw [if_neg (by simp)]
theorem New_run {a b:Int} (ha:1≤a∧a≤4) (hb:1≤b∧b≤4):∃ S0,hazard_New a b=some (Sum.inr S0)∧∀ j,j<8→intAt T65 S0 j=-1:=by
  obtain ⟨S0,h1,h2⟩:=new_loop (Ty.dflt T65)
  refine ⟨S0,?_,h2⟩
  unfold hazard_New
  rw [if_neg (by simp; omega),if_neg (by simp; omega),if_neg (by simp; omega),if_neg (by simp; omega),h1,Option.bind_some]
  unfold hazard_New_k1
  rfl
theorem New_eq {a b:Int} (ha:1≤a∧a≤4) (hb:1≤b∧b≤4):∃ S0,hazard_New a b=some (Sum.inr S0)∧Rp (Ty.dflt T63) S0 (Ty.dflt T69) newM:=by
  obtain ⟨S0,h1,h2⟩:=New_run ha hb
  exact ⟨S0,h1,Rp.new_ (fun j hj=>z63 hj) (fun j hj=>z69 hj) h2⟩
def behind (n m:Nat) (A:Mo) (ds:List (Int×Int×Int×Int)):Mo:=ds.foldl (fun A d=>(doA n m A d).2.2) A
theorem Iv.behind_ (h:Iv n m A):∀ (ds:List (Int×Int×Int×Int)),Iv n m (behind n m A ds):=by
  intro ds
  induction ds generalizing A with
  | nil=>exact h
  | cons d ds ih=>exact ih (h.do d)
/-! ### Lists of numbers -/
end
end Go.Proofs.YtcckpmeepcoafaaDoor
