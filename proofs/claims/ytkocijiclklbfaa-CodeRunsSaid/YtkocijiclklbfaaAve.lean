import Derived.Test.YtkocijiclklbfaaAvd
namespace Go.Proofs.Ytkocijiclklbfaa
open Go.RowKit
set_option linter.constructorNameAsVariable false
set_option linter.unusedSimpArgs false
set_option linter.unusedVariables false
/-! ### Names of the rows of a row -/
theorem inm_ex:∃ f:Nat→Nat→Nat,∀ b i,f b i=(i+1)*1000000+b:=⟨fun b i=>(i+1)*1000000+b,fun _ _=>rfl⟩
noncomputable def inm:Nat→Nat→Nat:=Classical.choose inm_ex
theorem inm_eq (b i:Nat):inm b i=(i+1)*1000000+b:=Classical.choose_spec inm_ex b i
noncomputable def rowsC (b n:Nat):List AVal:=(List.range n).map fun i=>.own (inm b i)
noncomputable def rowsL (b:Nat) (e:TypeId) (t:Ty) (xss:List (List (El t))):List (Nat×ABlk):=(List.range xss.length).map fun i=>(inm b i,.arr e t (xss.getD i []))
def smallH (h:List (Nat×ABlk)):Bool:=h.all (fun p=>decide (p.1<1000000))
def smallI (l:List Nat):Bool:=l.all (fun b=>decide (b<1000000))
theorem inm_inj {b i j:Nat} (h:inm b i=inm b j):i=j:=by rw [inm_eq,inm_eq] at h; omega
theorem inm_big (b i:Nat):1000000≤inm b i:=by rw [inm_eq]; omega
theorem rowsC_len (b n:Nat):(rowsC b n).length=n:=by simp [rowsC]
theorem rowsC_get {b n i:Nat} (h:i<n):(rowsC b n)[i]?=some (.own (inm b i)):=by simp [rowsC,h]
theorem hpGet_map {b:Nat} (f:Nat→ABlk):∀ (l:List Nat) (c:Nat),hpGet (l.map fun i=>(inm b i,f i)) c=(l.find? fun i=>decide (c=inm b i)).map f
 | [],c=>rfl
 | i::r,c=>by
  rw [List.map_cons]
  unfold hpGet
  by_cases h:c=inm b i
  ·rw [if_pos h,List.find?_cons_of_pos (by simpa using h)]; rfl
  ·rw [if_neg h,List.find?_cons_of_neg (by simpa using h)]; exact hpGet_map f r c
theorem find_range {n i:Nat} {p:Nat→Bool} (hi:i<n) (hp:p i=true) (hu:∀ j,p j=true→j=i):(List.range n).find? p=some i:=by
 rw [List.find?_range_eq_some]
 refine ⟨hp,by simpa using hi,fun j hj=>?_⟩
 cases hc:p j with
 | false=>rfl
 | true=>have:=hu j hc; omega
theorem hpGet_rows_at {b:Nat} {e:TypeId} {t:Ty} {xss:List (List (El t))} {i:Nat} (hi:i<xss.length):hpGet (rowsL b e t xss) (inm b i)=some (.arr e t (xss.getD i [])):=by
 unfold rowsL
 rw [hpGet_map (fun i=>ABlk.arr e t (xss.getD i []))]
 rw [find_range hi (by simp) (fun j hj=>(inm_inj (by simpa using hj)).symm)]; rfl
theorem hpGet_rows {b:Nat} {e:TypeId} {t:Ty} {xss:List (List (El t))} {c:Nat} {B:ABlk} (h:hpGet (rowsL b e t xss) c=some B):∃ i,i<xss.length∧c=inm b i∧B=.arr e t (xss.getD i []):=by
 unfold rowsL at h
 rw [hpGet_map (fun i=>ABlk.arr e t (xss.getD i []))] at h
 cases hf:(List.range xss.length).find? (fun i=>decide (c=inm b i)) with
 | none=>rw [hf] at h; cases h
 | some i =>
  rw [hf] at h
  injection h with h
  have h1:=List.find?_some hf
  have h2:=List.mem_of_find?_eq_some hf
  exact ⟨i,by simpa using h2,by simpa using h1,h.symm⟩
theorem hpGet_rows_none {b:Nat} {e:TypeId} {t:Ty} {xss:List (List (El t))} {c:Nat} (h:∀ i,i<xss.length→c≠inm b i):hpGet (rowsL b e t xss) c=none:=by
 cases hc:hpGet (rowsL b e t xss) c with
 | none=>rfl
 | some B=>obtain ⟨i,hi,e1,_⟩:=hpGet_rows hc; exact absurd e1 (h i hi)
theorem hpGet_small {h:List (Nat×ABlk)} (hs:smallH h=true) {c:Nat} (hc:1000000≤c):hpGet h c=none:=by
 induction h with
 | nil=>rfl
 | cons p r ih =>
  obtain ⟨b,B⟩:=p
  unfold smallH at hs
  simp only [List.all_cons,Bool.and_eq_true,decide_eq_true_eq] at hs
  unfold hpGet
  rw [if_neg (by omega)]
  exact ih hs.2
theorem hpGet_rows_small {b:Nat} {e:TypeId} {t:Ty} {xss:List (List (El t))} {c:Nat} (hc:c<1000000):hpGet (rowsL b e t xss) c=none :=
 hpGet_rows_none fun i _ hi=>by have:=inm_big b i; omega
theorem hpGet_two_small {h:List (Nat×ABlk)} {b:Nat} {e:TypeId} {t:Ty} {xss:List (List (El t))} {c:Nat} (hc:c<1000000):hpGet (h++rowsL b e t xss) c=hpGet h c:=by
 rw [hp_append,hpGet_rows_small hc]
 cases hpGet h c<;>rfl
theorem hpGet_two_at {h:List (Nat×ABlk)} (hs:smallH h=true) {b:Nat} {e:TypeId} {t:Ty} {xss:List (List (El t))} {i:Nat} (hi:i<xss.length):hpGet (h++rowsL b e t xss) (inm b i)=some (.arr e t (xss.getD i [])):=by
 rw [hp_append,hpGet_small hs (inm_big b i),hpGet_rows_at hi]
theorem clean_extra {x:AVal} {K L:List Nat} (h:∀ b∈x.ids,b ∉ L):x.clean (K++L)=x.clean K:=by
 unfold AVal.clean
 have:(K++L).any (fun b=>x.has b)=K.any fun b=>x.has b:=by
  rw [List.any_append]
  have:L.any (fun b=>x.has b)=false:=by
   rw [List.any_eq_false]
   intro b hb hx
   exact h b (mem_ids x b hx) hb
  rw [this,Bool.or_false]
 rw [this]
noncomputable def inms (b n:Nat):List Nat:=(List.range n).map (inm b)
section
variable {P:Program} {T:Tab} {n:Nat} {ds:List Deferred} {A0 L0:Nat→Prop} {w0:Old} {η:Nat→Value} {s:ASt} {a:Act} {w:World}
variable {ro:Option Nat} {Q:Exit→ASt→Prop} {g:Gh} {o:Oper} {ops rs:List Oper} {l:List (Nat×AVal)} {h:List (Nat×ABlk)}
end
end Go.Proofs.Ytkocijiclklbfaa
/-! ### Rows behind a memory that is written out -/
namespace Go.Proofs.Ytkocijiclklbfaa
open Go.RowKit
set_option linter.constructorNameAsVariable false
set_option linter.unusedSimpArgs false
set_option linter.unusedVariables false
def two (h r:List (Nat×ABlk)):List (Nat×ABlk):=h++r
section
variable {b:Nat} {e:TypeId} {t:Ty} {xss:List (List (El t))} {h:List (Nat×ABlk)}
theorem hpGet_two_lit {c:Nat} (hc:c<1000000):hpGet (two h (rowsL b e t xss)) c=hpGet h c:=hpGet_two_small hc
theorem append_two (x r:List (Nat×ABlk)):x++two h r=two (x++h) r:=(List.append_assoc x h r).symm
theorem cleanH_app (K:List Nat):∀ (x y:List (Nat×ABlk)),cleanH K (x++y)=cleanH K x++cleanH K y
 | [],_=>rfl
 | (c,B)::r,y=>by
  have ih:=cleanH_app K r y
  have e1:∀ z,cleanH K ((c,B)::z)=if K.contains c then cleanH K z else (c,B.clean K)::cleanH K z:=fun z=>rfl
  rw [List.cons_append,e1,e1,ih]
  split<;>rfl
theorem cleanH_rowsL {K:List Nat} (hK:smallI K=true):cleanH K (rowsL b e t xss)=rowsL b e t xss:=by
 have key:∀ (l:List Nat) (f:Nat→List (El t)),cleanH K (l.map fun i=>(inm b i,ABlk.arr e t (f i)))=l.map fun i=>(inm b i,ABlk.arr e t (f i)):=by
  intro l f
  induction l with
  | nil=>rfl
  | cons i r ih =>
   rw [List.map_cons]
   unfold cleanH
   have:K.contains (inm b i)=false:=by
    cases hc:K.contains (inm b i) with
    | false=>rfl
    | true =>
     have:=List.all_eq_true.1 hK (inm b i) (by simpa using hc)
     have h2:=inm_big b i
     simp only [decide_eq_true_eq] at this
     omega
   rw [this,ih]; rfl
 exact key _ _
theorem cleanH_two {K:List Nat} (hK:smallI K=true):cleanH K (two h (rowsL b e t xss))=two (cleanH K h) (rowsL b e t xss):=by
 unfold two
 rw [cleanH_app,cleanH_rowsL hK]
theorem smallI_nil:smallI []=true:=rfl
theorem smallI_cons (x:Nat) (r:List Nat):smallI (x::r)=(decide (x<1000000)&&smallI r):=rfl
theorem smallH_nil:smallH []=true:=rfl
theorem smallH_cons (c:Nat) (B:ABlk) (r:List (Nat×ABlk)):smallH ((c,B)::r)=(decide (c<1000000)&&smallH r):=rfl
theorem fitsH_app (s:ASt):∀ (x y:List (Nat×ABlk)),fitsH s (x++y)=(fitsH s x∧fitsH s y)
 | [],y=>by simp [fitsH]
 | (c,B)::r,y=>by
  rw [List.cons_append]
  simp only [fitsH]
  rw [fitsH_app s r y,and_assoc]
theorem fitsH_two (s:ASt) (r:List (Nat×ABlk)):fitsH s (two h r)=(fitsH s h∧fitsH s r):=fitsH_app s h r
theorem fitsH_of {s:ASt}:∀ {l:List (Nat×ABlk)},(∀ p∈l,s.H p.1=some p.2)→fitsH s l
 | [],_=>trivial
 | p::r,h=>⟨h p (List.mem_cons_self ..),fitsH_of fun q hq=>h q (List.mem_cons_of_mem _ hq)⟩
theorem fitsH_self {σ:Nat→AVal} {g:Gh} (hs:smallH h=true):fitsH ⟨σ,hpGet (two h (rowsL b e t xss)),g⟩ (rowsL b e t xss):=by
 refine fitsH_of fun p hp=>?_
 unfold rowsL at hp
 obtain ⟨i,hi,rfl⟩:=List.mem_map.1 hp
 exact hpGet_two_at hs (by simpa using hi)
theorem fitsH_selfT {σ:Nat→AVal} {g:Gh} (hs:smallH h=true):fitsH ⟨σ,hpGet (two h (rowsL b e t xss)),g⟩ (rowsL b e t xss)=True:=eq_true (fitsH_self hs)
def smallR (rn:List (Nat×Nat)):Bool:=rn.all fun p=>decide (p.1<1000000)&&decide (p.2<1000000)
theorem smallR_nil:smallR []=true:=rfl
theorem smallR_cons (x y:Nat) (r:List (Nat×Nat)):smallR ((x,y)::r)=((decide (x<1000000)&&decide (y<1000000))&&smallR r):=rfl
theorem look_big:∀ {rn:List (Nat×Nat)},smallR rn=true→∀ {c:Nat},1000000≤c→look rn c=c
 | [],_,c,_=>rfl
 | (x,y)::r,h,c,hc=>by
  rw [smallR_cons] at h
  simp only [Bool.and_eq_true,decide_eq_true_eq] at h
  unfold look
  rw [if_neg (by omega)]
  exact look_big h.2 hc
theorem not_in_small {N:List Nat} (hN:smallI N=true) {c:Nat} (hc:1000000≤c):N.contains c=false:=by
 cases h:N.contains c with
 | false=>rfl
 | true =>
  have:=List.all_eq_true.1 hN c (by simpa using h)
  simp only [decide_eq_true_eq] at this
  omega
theorem LeL_rows {H:AHeap} {D N:List Nat} {rn:List (Nat×Nat)} (hN:smallI N=true) (hr:smallR rn=true) (k:Nat):LeL H D N (look rn) (rowsC b k) (rowsC b k):=by
 have key:∀ (l:List Nat),LeL H D N (look rn) (l.map fun i=>AVal.own (inm b i)) (l.map fun i=>AVal.own (inm b i)):=by
  intro l
  induction l with
  | nil=>unfold LeL; trivial
  | cons i r ih =>
   rw [List.map_cons]
   unfold LeL
   refine ⟨?_,ih⟩
   unfold LeV
   exact ⟨(look_big hr (inm_big b i)).symm,not_in_small hN (inm_big b i)⟩
 exact key _
theorem LeL_rowsT {H:AHeap} {D N:List Nat} {rn:List (Nat×Nat)} (hN:smallI N=true) (hr:smallR rn=true) (k:Nat):LeL H D N (look rn) (rowsC b k) (rowsC b k)=True:=eq_true (LeL_rows hN hr k)
theorem rowsC_clean {K:List Nat} (hK:smallI K=true) (k:Nat):(rowsC b k).map (AVal.clean K)=rowsC b k:=by
 unfold rowsC
 rw [List.map_map]
 refine List.map_congr_left fun i _=>?_
 show AVal.clean K (.own (inm b i))=_
 rw [clean_own,if_neg]
 have:=not_in_small hK (inm_big b i)
 rw [this]; simp
end
end Go.Proofs.Ytkocijiclklbfaa
