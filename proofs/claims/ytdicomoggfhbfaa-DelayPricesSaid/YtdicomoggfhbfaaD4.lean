import Derived.Test.YtdicomoggfhbfaaD2
namespace Go.Proofs.Ytdicomoggfhbfaa
open Go.RowKit
set_option linter.unusedVariables false
set_option linter.unusedSimpArgs false
def nConf (x:Acs):Nat:=sumN x.length fun t=>sumN (x.getD t []).length fun a=>sumN t fun u=>sumN (x.getD u []).length fun b=>(conf x (t:Int) (a:Int) (u:Int) (b:Int)).toNat
/-! ### What is deleted -/
theorem clear_take {α:Type} (l:List α) (z:α) {i:Nat} (hi:i≤l.length):(((l.take i)++(List.replicate ((l.length:Int) - (i:Int)).toNat z))++(l.drop (i+((l.length:Int) - (i:Int)).toNat))).take i=l.take i:=by
  rw [List.append_assoc,List.take_append_of_le_length (by rw [List.length_take]; omega),List.take_take,Nat.min_self]
theorem del_loop {α:Type} (s:List α) (p:α→Bool) (i0:Nat) {x0:α} (hx0:s[i0]?=some x0) (hp0:p x0=true) (hi0:∀ y∈s.take i0,p y=false) {body:List α×Int×Int→Option (Step (List α×Int×Int) (List α×Int))}
    (hb:∀ (l:List α) (i j:Nat) (x:α),l.length=s.length→i<j→l[j]?=some x→x∈s→body (l,(i:Int),(j:Int))=some (.next (if p x=true then (l,(i:Int),(j:Int)+1) else (l.set i x,(i:Int)+1,(j:Int)+1))))
    (hd:∀ (l:List α) (i:Nat),l.length=s.length→body (l,(i:Int),(s.length:Int))=some (.done (l,(i:Int)))) :
    ∃ (l:List α) (i:Nat),whileO body (s,(i0:Int),(i0:Int)+1)=some (l,(i:Int))∧l.length=s.length∧i<s.length∧l.take i=s.filter fun x=>!p x:=by
  have hlt:=(List.getElem?_eq_some_iff.1 hx0).1
  have hf0:∀ (l:List α),(∀ y∈l,p y=false)→l.filter (fun x=>!p x)=l:=fun l h=>List.filter_eq_self.2 fun y hy=>by rw [h y hy]; rfl
  obtain ⟨r,e,l,i,rfl,h1,h2,h3⟩:=whileO_inv (S:=List α×Int×Int) (R:=List α×Int) (body:=body) (fun st=>∃ (l:List α) (i j:Nat),st=(l,(i:Int),(j:Int))∧l.length=s.length∧i<j∧j≤s.length∧l.take i=(s.take j).filter (fun x=>!p x)∧l.drop j=s.drop j) (fun st=>s.length - st.2.2.toNat)
    (fun r=>∃ (l:List α) (i:Nat),r=(l,(i:Int))∧l.length=s.length∧i<s.length∧l.take i=s.filter fun x=>!p x)
    (by
      rintro st ⟨l,i,j,rfl,hl,hij,hj,ht,hdr⟩
      by_cases hjl:j<s.length
      · have hjx:l[j]?=some (s[j]):=by
          have:(l.drop j)[0]?=(s.drop j)[0]?:=by rw [hdr]
          rw [List.getElem?_drop,List.getElem?_drop,Nat.add_zero] at this
          rw [this]; exact List.getElem?_eq_getElem hjl
        have hsj:s[j]?=some (s[j]):=List.getElem?_eq_getElem hjl
        have hd1:l.drop (j+1)=s.drop (j+1):=by
          have:=congrArg (List.drop 1) hdr
          rwa [List.drop_drop,List.drop_drop] at this
        refine .inl ⟨_,hb l i j _ hl hij hjx (List.getElem_mem hjl),?_,?_⟩
        · cases hp:p (s[j]) with
          | true =>
            rw [if_pos rfl]
            refine ⟨l,i,j+1,by simp,hl,by omega,by omega,?_,hd1⟩
            rw [ht,take_one hsj,List.filter_append]
            simp [hp]
          | false =>
            rw [if_neg (by simp)]
            refine ⟨l.set i (s[j]),i+1,j+1,by simp,by rw [List.length_set,hl],by omega,by omega,?_,?_⟩
            · have hset:(l.set i (s[j]))[i]?=some (s[j]):=by rw [List.getElem?_set,if_pos rfl,if_pos (by omega)]
              rw [take_one hset,List.take_set_of_le (Nat.le_refl i),ht,take_one hsj,List.filter_append]
              simp [hp]
            · rw [List.drop_set_of_lt (by omega),hd1]
        · cases hp:p (s[j]) with
          | true=>rw [if_pos rfl]; simp only; omega
          | false=>rw [if_neg (by simp)]; simp only; omega
      · have:j=s.length:=by omega
        subst this
        exact .inr ⟨_,hd l i hl,l,i,rfl,hl,by omega,by rw [ht,List.take_length]⟩)
    (s,(i0:Int),(i0:Int)+1) ⟨s,i0,i0+1,by simp,rfl,by omega,by omega,by rw [take_one hx0,List.filter_append,hf0 _ hi0]; simp [hp0],rfl⟩
  exact ⟨l,i,e,h1,h2,h3⟩
theorem delF {α:Type} (s:List α) (p:α→Bool) (hs:few s) {idx:Option Int} (hi:idx=some (idxI p s)) {body:List α×Int×Int→Option (Step (List α×Int×Int) (List α×Int))} {k1:List α×Int→Option (List α)}
    (hb:∀ (l:List α) (i j:Nat) (x:α),l.length=s.length→i<j→l[j]?=some x→x∈s→body (l,(i:Int),(j:Int))=some (.next (if p x=true then (l,(i:Int),(j:Int)+1) else (l.set i x,(i:Int)+1,(j:Int)+1))))
    (hd:∀ (l:List α) (i:Nat),l.length=s.length→body (l,(i:Int),(s.length:Int))=some (.done (l,(i:Int))))
    (hk:∀ (l:List α) (i:Nat),i<l.length→k1 (l,(i:Int))=some (l.take i)) :
    (idx.bind fun v0=>if (decide (v0=(-1)))=true then some s else ck (InK .i64 (v0+1)) <| (whileO body (s,v0,v0+1)).bind fun r1=>k1 r1)=some (s.filter fun x=>!p x):=by
  rw [hi,Option.bind_some]
  unfold idxI
  cases h:s.findIdx? p with
  | none =>
    rw [List.findIdx?_eq_none_iff] at h
    rw [if_pos (by simp)]
    rw [List.filter_eq_self.2 fun y hy=>by simp [h y hy]]
  | some k =>
    obtain ⟨hk1,hp,hlt⟩:=List.findIdx?_eq_some_iff_getElem.1 h
    simp only
    rw [if_neg (by simp),ck_pos (by unfold few at hs; rw [inK_i64]; omega)]
    obtain ⟨l,i,e,e1,e2,e3⟩:=del_loop s p k (List.getElem?_eq_getElem hk1) hp (fun y hy=>by
      obtain ⟨j,hj,rfl⟩:=List.getElem_of_mem hy
      rw [List.getElem_take]
      rw [List.length_take] at hj
      have:=hlt j (by omega)
      simpa using this) hb hd
    rw [e,Option.bind_some,hk l i (by omega),e3]
theorem stas_len {x:Acs} (hv:vld x=true):(stas x).length≤48:=by
  have hlen:=vld_len hv
  have hr:=vld_row hv
  have gen:∀ {β:Type} (n c m:Nat) (f:Nat→List β),n≤m→(∀ k,(f k).length≤c)→((List.range n).flatMap f).length≤m*c:=by
    intro β n c m f hn hf
    have:∀ k,((List.range k).flatMap f).length≤k*c:=by
      intro k
      induction k with
      | zero=>simp
      | succ k ih =>
        rw [List.range_succ,List.flatMap_append,List.length_append,Nat.succ_mul]
        have:=hf k
        simp only [List.flatMap_cons,List.flatMap_nil,List.append_nil]; omega
    exact Nat.le_trans (this n) (Nat.mul_le_mul_right c hn)
  unfold stas
  exact gen _ 16 3 _ hlen.2.1 fun t=>gen _ 4 4 _ (hr t) fun a=>gen _ 1 4 _ (hr t) fun b=>by split<;>simp
theorem mem_stas {x:Acs} {s:Sta}:s∈stas x↔isSt x s=true:=by
  unfold stas
  simp only [List.mem_flatMap,List.mem_range]
  constructor
  · rintro ⟨t,ht,a,ha,b,hb,h⟩
    split at h
    · rename_i hs
      simp only [List.mem_singleton] at h
      rw [h]; exact hs
    · simp at h
  · intro h
    obtain ⟨t,a,b⟩:=s
    have hA:hasA x t a=true∧hasA x t b=true:=by
      unfold isSt isPr at h
      simp only [Bool.or_eq_true,Bool.and_eq_true,decide_eq_true_eq] at h
      rcases h with ⟨e,h⟩|h
      · subst e; exact ⟨h,h⟩
      · exact ⟨h.1,h.2.1⟩
    obtain ⟨h1,h2,h3,h4⟩:=hasA_iff.1 hA.1
    obtain ⟨_,_,k3,k4⟩:=hasA_iff.1 hA.2
    refine ⟨t.toNat,by omega,a.toNat,by omega,b.toNat,by omega,?_⟩
    rw [Int.toNat_of_nonneg h1,Int.toNat_of_nonneg h3,Int.toNat_of_nonneg k3,if_pos h]; simp
theorem few_stas {x:Acs} (hv:vld x=true):few (stas x):=few_of (stas_len hv)
def oneB (s:Sta):Bool:=decide (s.2.1=s.2.2)
def prs (x:Acs):List Sta:=(stas x).filter fun s=>!oneB s
theorem pairs_eq {x:Acs} (hv:vld x=true):delay_accesses_pairs x=some (prs x):=by
  unfold delay_accesses_pairs
  rw [stations_eq hv,Option.bind_some]
  have hf:=few_stas hv
  generalize hs:stas x=s at hf
  have hidx:slices_IndexFunc_5 s=some (idxI oneB s):=by
    unfold slices_IndexFunc_5
    rw [whileO_first s oneB (fun k a hk=>by
      obtain ⟨hlt,hik⟩:=few_in hf hk
      unfold slices_IndexFunc_5_b1 delay_isOne oneB
      rw [if_pos (decide_eq_true (by omega)),ck_pos (by omega),ck_pos (by omega),Int.toNat_natCast,getD_of hk,Option.bind_some]
      by_cases e:a.2.1=a.2.2<;>simp [e,ck_pos hik]) (by unfold slices_IndexFunc_5_b1; rw [if_neg (by simp)]),Option.bind_some]
    unfold idxI slices_IndexFunc_5_k1
    cases s.findIdx? oneB<;>rfl
  have:=delF s oneB hf hidx (body:=slices_DeleteFunc_b1) (k1:=slices_DeleteFunc_k1) (fun l i j y hl hij hj _=>by
    have hjl:=(List.getElem?_eq_some_iff.1 hj).1
    have hf':few l:=by unfold few at *; omega
    obtain ⟨_,hik⟩:=few_in hf' hj
    unfold slices_DeleteFunc_b1 delay_isOne oneB
    simp only
    rw [if_pos (decide_eq_true (by omega)),ck_pos (by omega),ck_pos (by omega),Int.toNat_natCast,getD_of hj,Option.bind_some]
    by_cases e:y.2.1=y.2.2
    · rw [if_neg (by simp [e]),ck_pos hik,if_pos (by simp [e])]
    · rw [if_pos (by simp [e]),ck_pos (by omega),ck_pos (by omega),ck_pos (by rw [inK_i64] at *; omega),ck_pos hik,if_neg (by simp [e]),Int.toNat_natCast]) (fun l i hl=>by
      unfold slices_DeleteFunc_b1
      simp only
      rw [if_neg (by simp [hl])]) (fun l i hi=>by
        unfold slices_DeleteFunc_k1
        simp only
        rw [Int.toNat_natCast,ck_pos (by omega),ck_pos (by omega),ck_pos (by omega),ck_pos (by omega),ck_pos (by omega),ck_pos (by simp only [List.length_append,List.length_take,List.length_replicate,List.length_drop]; omega),clear_take l _ (by omega)])
  have e:slices_DeleteFunc s=some (s.filter fun x=>!oneB x):=by unfold slices_DeleteFunc; exact this
  rw [e,Option.bind_some]
  unfold prs
  rw [hs]
def mts (x:Acs) (r s:Sta):Bool:=conf x r.1 r.2.2 s.1 s.2.1
def lastS (l:List Sta):Sta:=l.getD (l.length - 1) (0,0,0)
def goes (x:Acs) (l:List Sta) (s:Sta):Bool:=decide (l.length=0) || (!l.any (fun o=>decide (o.1=s.1))&&mts x (lastS l) s)
def clos (x:Acs) (l:List Sta):Bool:=l.any (fun s=>!oneB s)&&mts x (lastS l) (l.getD 0 (0,0,0))
theorem isSt_has {x:Acs} {s:Sta} (h:isSt x s=true):hasA x s.1 s.2.1=true∧hasA x s.1 s.2.2=true:=by
  unfold isSt isPr at h
  simp only [Bool.or_eq_true,Bool.and_eq_true,decide_eq_true_eq] at h
  rcases h with ⟨e,h⟩|h
  · rw [← e]; exact ⟨h,h⟩
  · exact ⟨h.1,h.2.1⟩
theorem meets_eq {x:Acs} {r s:Sta} (hr:isSt x r=true) (hs:isSt x s=true):delay_accesses_meets x r s=some (mts x r s):=by
  unfold delay_accesses_meets mts
  rw [conf_eq (isSt_has hr).2 (isSt_has hs).1]; rfl
theorem goesOn_eq {x:Acs} {l:List Sta} {s:Sta} (hl:∀ o∈l,isSt x o=true) (hs:isSt x s=true) (hf:few l):delay_accesses_goesOn x l s=some (goes x l s):=by
  unfold delay_accesses_goesOn goes
  by_cases h0:l.length=0
  · rw [if_pos (decide_eq_true (by omega))]; simp [h0]
  · rw [if_neg (by rw [decide_eq_true_eq]; omega)]
    have hidx:slices_IndexFunc_4 l s=some (idxI (fun o=>decide (o.1=s.1)) l):=by
      unfold slices_IndexFunc_4
      rw [whileO_first l (fun o=>decide (o.1=s.1)) (fun k a hk=>by
        obtain ⟨hlt,hik⟩:=few_in hf hk
        unfold slices_IndexFunc_4_b1 delay_accesses_goesOn_1
        rw [if_pos (decide_eq_true (by omega)),ck_pos (by omega),ck_pos (by omega),Int.toNat_natCast,getD_of hk,Option.bind_some]
        by_cases e:a.1=s.1<;>simp [e,ck_pos hik]) (by unfold slices_IndexFunc_4_b1; rw [if_neg (by simp)]),Option.bind_some]
      unfold idxI slices_IndexFunc_4_k1
      cases l.findIdx? (fun o=>decide (o.1=s.1))<;>rfl
    unfold slices_ContainsFunc_4
    rw [hidx,Option.bind_some,Option.bind_some,idxI_any]
    cases l.any (fun o=>decide (o.1=s.1)) with
    | true=>simp [h0]
    | false =>
      rw [if_pos (show (!false)=true from rfl)]
      have e:((l.length:Int) - 1).toNat=l.length - 1:=by omega
      unfold few at hf
      rw [ck_pos (by rw [inK_i64]; omega),ck_pos (by omega),ck_pos (by omega),e,meets_eq (r:=l.getD (l.length - 1) (0,0,0)) (hl _ (getD_in (by omega))) hs]
      simp [h0,lastS]
theorem isClosed_eq {x:Acs} {l:List Sta} (hl:∀ o∈l,isSt x o=true) (hf:few l):delay_accesses_isClosed x l=some (clos x l):=by
  unfold delay_accesses_isClosed clos
  have hidx:slices_IndexFunc_3 l=some (idxI (fun s=>!oneB s) l):=by
    unfold slices_IndexFunc_3
    rw [whileO_first l (fun s=>!oneB s) (fun k a hk=>by
      obtain ⟨hlt,hik⟩:=few_in hf hk
      unfold slices_IndexFunc_3_b1 delay_accesses_isClosed_1 delay_isOne oneB
      rw [if_pos (decide_eq_true (by omega)),ck_pos (by omega),ck_pos (by omega),Int.toNat_natCast,getD_of hk,Option.bind_some,Option.bind_some]
      by_cases e:a.2.1=a.2.2<;>simp [e,ck_pos hik]) (by unfold slices_IndexFunc_3_b1; rw [if_neg (by simp)]),Option.bind_some]
    unfold idxI slices_IndexFunc_3_k1
    cases l.findIdx? (fun s=>!oneB s)<;>rfl
  unfold slices_ContainsFunc_3
  rw [hidx,Option.bind_some,Option.bind_some,idxI_any]
  cases h:l.any (fun s=>!oneB s) with
  | false=>simp
  | true =>
    have h0:0<l.length:=by
      rcases Nat.eq_zero_or_pos l.length with e|e
      · rw [List.eq_nil_of_length_eq_zero e] at h; simp at h
      · exact e
    rw [if_pos rfl]
    have e:((l.length:Int) - 1).toNat=l.length - 1:=by omega
    unfold few at hf
    rw [ck_pos (by rw [inK_i64]; omega),ck_pos (by omega),ck_pos (by omega),ck_pos (by omega),e,meets_eq (r:=l.getD (l.length - 1) (0,0,0)) (hl _ (getD_in (by omega))) (hl _ (getD_in h0))]
    rfl
/-! ### Going over them -/
def extS (x:Acs) (S:List Sta) (l:List Sta):List (List Sta):=S.flatMap fun s=>if goes x l s=true then [l++[s]] else []
def L2 (x:Acs):List (List Sta):=((stas x).map fun s=>[s]).flatMap (extS x (stas x))
def L3 (x:Acs):List (List Sta):=(L2 x).flatMap (extS x (stas x))
def circs (x:Acs):List (List Sta):=(L2 x++L3 x).filter (clos x)
theorem appL {α β:Type} (xs:List α) (c:Nat) (f:α→List β) (hc:∀ y∈xs,(f y).length≤c) (a0:List β) {body:List β×Int→Option (Step (List β×Int) (List β))}
    (h:∀ (k:Nat) (y:α) (l:List β),xs[k]?=some y→l.length≤a0.length+xs.length*c→body (l,(k:Int))=some (.next (l++f y,(k:Int)+1))) (hd:∀ l:List β,body (l,(xs.length:Int))=some (.done l)) :
    whileO body (a0,0)=some (a0++xs.flatMap f):=by
  have hle:∀ k,k≤xs.length→((xs.take k).flatMap f).length≤k*c:=by
    intro k
    induction k with
    | zero=>intro _; simp
    | succ k ih =>
      intro hk
      have:=ih (by omega)
      have:=hc _ (List.getElem_mem (show k<xs.length by omega))
      rw [take_one (List.getElem?_eq_getElem (show k<xs.length by omega)),List.flatMap_append,List.length_append,Nat.succ_mul]
      simp only [List.flatMap_cons,List.flatMap_nil,List.append_nil]; omega
  obtain ⟨r,e,hr⟩:=scan2 (R:=List β) xs (fun k l=>l=a0++(xs.take k).flatMap f) (fun r=>r=a0++xs.flatMap f) (body:=body) (s0:=a0) (by simp)
    (fun k y l hk hI=>by
      have hlt:=(List.getElem?_eq_some_iff.1 hk).1
      refine .inl ⟨l++f y,h k y l hk ?_,?_⟩
      · rw [hI,List.length_append]
        have:=hle k (by omega)
        have:=Nat.mul_le_mul_right c (Nat.le_of_lt hlt)
        omega
      · rw [hI,take_one hk,List.flatMap_append,List.append_assoc]; simp)
    (fun l hI=>⟨l,hd l,by rw [List.take_length] at hI; exact hI⟩)
  rw [e,hr]
theorem len_flat {α β:Type} (xs:List α) (c:Nat) (f:α→List β) (hc:∀ y∈xs,(f y).length≤c):(xs.flatMap f).length≤xs.length*c:=by
  induction xs with
  | nil=>simp
  | cons y xs ih =>
    rw [List.flatMap_cons,List.length_append,List.length_cons,Nat.succ_mul]
    have:=ih fun z hz=>hc z (by simp [hz])
    have:=hc y (by simp)
    omega
section
variable {S R:Type}
theorem circ_ext {x:Acs} (hv:vld x=true) {ls:List (List Sta)} {i:Nat} {s:S} {l:List Sta} (hi:ls[i]?=some l) (hl:∀ o∈l,isSt x o=true) (hfl:l.length≤10) (hb:ls.length≤1000000) :
    whileO (delay_accesses_circles_b2 S R x (stas x) (ls,(i:Int),s)) (ls,0)=some (ls++extS x (stas x) l):=by
  have hs:=few_stas hv
  have hsl:=stas_len hv
  refine appL (stas x) 1 (fun s=>if goes x l s=true then [l++[s]] else []) (fun y _=>by split<;>simp) ls (fun k y a hk ha=>?_) (fun a=>?_)
  · obtain ⟨hlt,hik⟩:=few_in hs hk
    have hlist:(ls.getD i [])=l:=getD_of hi
    unfold delay_accesses_circles_b2
    dsimp only
    rw [Int.toNat_natCast,Int.toNat_natCast,hlist,getD_of hk,if_pos (decide_eq_true (by omega)),ck_pos (by omega),ck_pos (by omega),goesOn_eq hl (mem_stas.1 (List.mem_of_getElem? hk)) (few_of hfl),Option.bind_some]
    cases goes x l y with
    | true =>
      rw [if_pos rfl,if_pos rfl,ck_pos (by rw [List.take_length]; omega),ck_pos (by omega),ck_pos hik,List.take_length]
    | false=>rw [if_neg (by simp),if_neg (by simp),ck_pos hik,List.append_nil]
  · unfold delay_accesses_circles_b2
    rw [if_neg (by simp)]
theorem circ_seg {x:Acs} (hv:vld x=true) (yl:List Sta→S→Option (Step S R)):∀ (seg pre post:List (List Sta)) (s:S),(∀ l∈seg,(∀ o∈l,isSt x o=true)∧l.length≤10)→(pre++seg++post++seg.flatMap (extS x (stas x))).length≤1000000 →
    (∀ s',foldY yl (seg.filter (clos x)) s=some (.inl s')→∀ r,whileO (delay_accesses_circles_b1 S R x yl (stas x)) (pre++seg++post++seg.flatMap (extS x (stas x)),((pre.length+seg.length:Nat):Int),s')=some r→whileO (delay_accesses_circles_b1 S R x yl (stas x)) (pre++seg++post,(pre.length:Int),s)=some r) ∧
    (∀ e,foldY yl (seg.filter (clos x)) s=some (.inr e)→whileO (delay_accesses_circles_b1 S R x yl (stas x)) (pre++seg++post,(pre.length:Int),s)=some (.inl e))
  | [],pre,post,s,_,_=>by
    refine ⟨fun s' h r hr=>?_,fun e h=>?_⟩
    · simp only [List.filter_nil,foldY] at h
      injection h with h; injection h with h; subst h
      simpa using hr
    · simp [foldY] at h
  | l::seg,pre,post,s,hs,hb=>by
    have hl:=hs l (by simp)
    have hat:(pre++(l::seg)++post)[pre.length]?=some l:=by simp
    have hbl:(pre++(l::seg)++post).length≤1000000:=by rw [List.length_append] at hb; omega
    have hlt:pre.length<(pre++(l::seg)++post).length:=by simp
    have ih:=fun s=>circ_seg hv yl seg (pre++[l]) (post++extS x (stas x) l) s (fun z hz=>hs z (by simp [hz])) (by
      have:(pre++[l]++seg++(post++extS x (stas x) l)++seg.flatMap (extS x (stas x)))=pre++(l::seg)++post++(l::seg).flatMap (extS x (stas x)):=by simp
      rw [this]; exact hb)
    have hone:∀ s',delay_accesses_circles_k2 S R x (stas x) (pre++(l::seg)++post,(pre.length:Int),s) s'=some (.next (pre++[l]++seg++(post++extS x (stas x) l),(((pre++[l]).length:Nat):Int),s')):=fun s'=>by
      unfold delay_accesses_circles_k2 delay_accesses_circles_k1
      rw [circ_ext hv hat hl.1 hl.2 hbl,Option.bind_some]
      dsimp only
      rw [ck_pos (by rw [inK_i64]; omega)]
      simp
    have hbody:delay_accesses_circles_b1 S R x yl (stas x) (pre++(l::seg)++post,(pre.length:Int),s)=(if clos x l=true then
        (yl l s).bind fun y=>match y with
          | .next s'=>some (.next (pre++[l]++seg++(post++extS x (stas x) l),(((pre++[l]).length:Nat):Int),s'))
          | .done e=>some (.done (Sum.inl e))
        else some (.next (pre++[l]++seg++(post++extS x (stas x) l),(((pre++[l]).length:Nat):Int),s))):=by
      unfold delay_accesses_circles_b1
      dsimp only
      rw [Int.toNat_natCast,getD_of hat,if_pos (decide_eq_true (by omega)),ck_pos (by omega),ck_pos (by omega),isClosed_eq hl.1 (few_of hl.2),Option.bind_some,hone s]
      cases clos x l with
      | false=>rfl
      | true =>
        rw [if_pos rfl,if_pos rfl]
        congr 1
        funext y
        cases y with
        | next s'=>exact hone s'
        | done e=>rfl
    have e2:pre++(l::seg)++post++(l::seg).flatMap (extS x (stas x))=pre++[l]++seg++(post++extS x (stas x) l)++seg.flatMap (extS x (stas x)):=by simp
    have e3:pre.length+(l::seg).length=(pre++[l]).length+seg.length:=by simp; omega
    cases hc:clos x l with
    | false =>
      rw [hc,if_neg (by simp)] at hbody
      have hf:(l::seg).filter (clos x)=seg.filter (clos x):=by simp [hc]
      rw [hf,e2,e3]
      exact ⟨fun s' h r hr=>whileO_on hbody ((ih s).1 s' h r hr),fun e h=>whileO_on hbody ((ih s).2 e h)⟩
    | true =>
      rw [hc,if_pos rfl] at hbody
      have hf:(l::seg).filter (clos x)=l::seg.filter (clos x):=by simp [hc]
      rw [hf,e2,e3]
      simp only [foldY]
      cases hy:yl l s with
      | none=>simp
      | some y =>
        rw [hy,Option.bind_some] at hbody
        simp only [Option.bind_some]
        cases y with
        | next s2=>exact ⟨fun s' h r hr=>whileO_on hbody ((ih s2).1 s' h r hr),fun e h=>whileO_on hbody ((ih s2).2 e h)⟩
        | done e0 =>
          refine ⟨fun s' h r hr=>(by simp at h),fun e h=>?_⟩
          simp at h
          subst h
          exact whileO_end hbody
end
theorem mem_ext {x:Acs} {S:List Sta} {l m:List Sta}:m∈extS x S l↔∃ s∈S,goes x l s=true∧m=l++[s]:=by
  unfold extS
  simp only [List.mem_flatMap]
  constructor
  · rintro ⟨s,hs,h⟩
    split at h
    · rename_i hg; exact ⟨s,hs,hg,by simpa using h⟩
    · simp at h
  · rintro ⟨s,hs,hg,rfl⟩
    exact ⟨s,hs,by rw [if_pos hg]; simp⟩
theorem mem_L2 {x:Acs} {m:List Sta}:m∈L2 x↔∃ r s,isSt x r=true∧isSt x s=true∧goes x [r] s=true∧m=[r,s]:=by
  unfold L2
  simp only [List.mem_flatMap,List.mem_map,mem_ext,mem_stas]
  constructor
  · rintro ⟨l,⟨r,hr,rfl⟩,s,hs,hg,rfl⟩; exact ⟨r,s,hr,hs,hg,rfl⟩
  · rintro ⟨r,s,hr,hs,hg,rfl⟩; exact ⟨_,⟨r,hr,rfl⟩,s,hs,hg,rfl⟩
theorem mem_L3 {x:Acs} {m:List Sta}:m∈L3 x↔∃ r s q,isSt x r=true∧isSt x s=true∧isSt x q=true∧goes x [r] s=true∧goes x [r,s] q=true∧m=[r,s,q]:=by
  unfold L3
  simp only [List.mem_flatMap,mem_L2,mem_ext,mem_stas]
  constructor
  · rintro ⟨l,⟨r,s,hr,hs,hg,rfl⟩,q,hq,hg2,rfl⟩; exact ⟨r,s,q,hr,hs,hq,hg,hg2,rfl⟩
  · rintro ⟨r,s,q,hr,hs,hq,hg,hg2,rfl⟩; exact ⟨_,⟨r,s,hr,hs,hg,rfl⟩,q,hq,hg2,rfl⟩
theorem st_thread {x:Acs} (hv:vld x=true) {s:Sta} (h:isSt x s=true):0≤s.1∧s.1<3:=by
  obtain ⟨h1,h2,_,_⟩:=hasA_iff.1 (isSt_has h).1
  have:=vld_len hv; omega
theorem goes_two {x:Acs} {r s:Sta}:goes x [r] s=(!decide (r.1=s.1)&&mts x r s):=by simp [goes,lastS]
theorem goes_three {x:Acs} {r s q:Sta}:goes x [r,s] q=(!(decide (r.1=q.1) || decide (s.1=q.1))&&mts x s q):=by simp [goes,lastS]
theorem goes_four {x:Acs} {r s q p:Sta}:goes x [r,s,q] p=(!(decide (r.1=p.1) || (decide (s.1=p.1) || decide (q.1=p.1)))&&mts x q p):=by simp [goes,lastS]
theorem L4_nil {x:Acs} (hv:vld x=true):(L3 x).flatMap (extS x (stas x))=[]:=by
  rw [List.flatMap_eq_nil_iff]
  intro l hl
  obtain ⟨r,s,q,hr,hs,hq,h1,h2,rfl⟩:=mem_L3.1 hl
  rw [List.eq_nil_iff_forall_not_mem]
  intro m hm
  obtain ⟨p,hp,hg,_⟩:=mem_ext.1 hm
  rw [goes_two] at h1
  rw [goes_three] at h2
  rw [goes_four] at hg
  simp only [Bool.and_eq_true,Bool.not_eq_true',Bool.or_eq_false_iff,decide_eq_false_iff_not] at h1 h2 hg
  have:=st_thread hv hr
  have:=st_thread hv hs
  have:=st_thread hv hq
  have:=st_thread hv (mem_stas.1 hp)
  omega
theorem ext_len {x:Acs} (hv:vld x=true) (l:List Sta):(extS x (stas x) l).length≤48:=by
  have:=len_flat (stas x) 1 (fun s=>if goes x l s=true then [l++[s]] else []) (fun y _=>by split<;>simp)
  have:=stas_len hv
  unfold extS; omega
theorem circles_eq {S R:Type} {x:Acs} (hv:vld x=true) (yl:List Sta→S→Option (Step S R)) {s0:S} {r:Sum S R} (h:foldY yl (circs x) s0=some r):delay_accesses_circles S R x yl s0=some r:=by
  unfold delay_accesses_circles
  rw [stations_eq hv,Option.bind_some]
  have hsl:=stas_len hv
  have e1:([[]]:List (List Sta)).flatMap (extS x (stas x))=(stas x).map fun s=>[s]:=by
    simp only [List.flatMap_cons,List.flatMap_nil,List.append_nil,extS]
    have:∀ (S:List Sta),(S.flatMap fun s=>if goes x [] s=true then [[]++[s]] else [])=S.map fun s=>[s]:=by
      intro S
      induction S with
      | nil=>rfl
      | cons s S ih=>rw [List.flatMap_cons,ih,List.map_cons]; simp [goes]
    exact this _
  have l1:((stas x).map fun s=>[s]).length≤48:=by rw [List.length_map]; exact hsl
  have l2:(L2 x).length≤48*48:=by
    have:=len_flat ((stas x).map fun s=>[s]) 48 (extS x (stas x)) (fun y _=>ext_len hv y)
    have:=Nat.mul_le_mul_right 48 l1
    unfold L2; omega
  have l3:(L3 x).length≤48*48*48:=by
    have:=len_flat (L2 x) 48 (extS x (stas x)) (fun y _=>ext_len hv y)
    have:=Nat.mul_le_mul_right 48 l2
    unfold L3; omega
  have f0:([[]]:List (List Sta)).filter (clos x)=[]:=by simp [clos]
  have f1:((stas x).map fun s=>[s]).filter (clos x)=[]:=by
    rw [List.filter_eq_nil_iff]
    intro l hl
    obtain ⟨s,_,rfl⟩:=List.mem_map.1 hl
    simp [clos,lastS,mts,conf]
  have s0':=circ_seg (S:=S) (R:=R) hv yl [[]] [] [] s0 (by simp) (by rw [e1]; simp; omega)
  have s1':=circ_seg (S:=S) (R:=R) hv yl ((stas x).map fun s=>[s]) [[]] [] s0 (fun l hl=>by
    obtain ⟨s,hs,rfl⟩:=List.mem_map.1 hl
    exact ⟨fun o ho=>by simp at ho; subst ho; exact mem_stas.1 hs,by simp⟩) (by
      have:((stas x).map fun s=>[s]).flatMap (extS x (stas x))=L2 x:=rfl
      rw [this]; simp only [List.length_append,List.length_cons,List.length_nil]; omega)
  have s2':=fun s=>circ_seg (S:=S) (R:=R) hv yl (L2 x) ([[]]++(stas x).map fun s=>[s]) [] s (fun l hl=>by
    obtain ⟨r,s,hr,hs,_,rfl⟩:=mem_L2.1 hl
    exact ⟨fun o ho=>by simp at ho; rcases ho with rfl|rfl<;>assumption,by simp⟩) (by
      have:(L2 x).flatMap (extS x (stas x))=L3 x:=rfl
      rw [this]; simp only [List.length_append,List.length_cons,List.length_nil]; omega)
  have s3':=fun s=>circ_seg (S:=S) (R:=R) hv yl (L3 x) ([[]]++((stas x).map fun s=>[s])++L2 x) [] s (fun l hl=>by
    obtain ⟨r,s,q,hr,hs,hq,_,_,rfl⟩:=mem_L3.1 hl
    exact ⟨fun o ho=>by simp at ho; rcases ho with rfl|rfl|rfl<;>assumption,by simp⟩) (by
      rw [L4_nil hv]; simp only [List.length_append,List.length_cons,List.length_nil]; omega)
  rw [f0,e1] at s0'
  rw [f1,show ((stas x).map fun s=>[s]).flatMap (extS x (stas x))=L2 x from rfl] at s1'
  have h0:∀ r,whileO (delay_accesses_circles_b1 S R x yl (stas x)) ([[]]++((stas x).map fun s=>[s])++L2 x,(([[]]++(stas x).map fun s=>[s]).length:Int),s0)=some r→whileO (delay_accesses_circles_b1 S R x yl (stas x)) ([[]],0,s0)=some r:=fun r hr=>by
    refine s0'.1 s0 rfl r ?_
    have:=s1'.1 s0 rfl r (by simpa [Int.add_comm,Int.add_assoc,Int.add_left_comm] using hr)
    simpa using this
  unfold circs at h
  rw [List.filter_append,foldY_append] at h
  cases h2:foldY yl ((L2 x).filter (clos x)) s0 with
  | none=>rw [h2] at h; cases h
  | some r2 =>
    rw [h2,Option.bind_some] at h
    cases r2 with
    | inr e =>
      simp only at h
      injection h with h
      subst h
      have:=(s2' s0).2 e h2
      rw [h0 _ (by simpa [Int.add_comm,Int.add_assoc,Int.add_left_comm] using this)]; rfl
    | inl s2 =>
      simp only at h
      have k2:=(s2' s0).1 s2 h2
      rw [show (L2 x).flatMap (extS x (stas x))=L3 x from rfl] at k2
      cases r with
      | inr e =>
        have k3:=(s3' s2).2 e h
        have:=k2 (.inl e) (by simpa [Int.add_comm,Int.add_assoc,Int.add_left_comm] using k3)
        rw [h0 _ (by simpa [Int.add_comm,Int.add_assoc,Int.add_left_comm] using this)]; rfl
      | inl s3 =>
        have k3:=(s3' s2).1 s3 h (.inr s3) (whileO_end (by
          unfold delay_accesses_circles_b1
          rw [L4_nil hv,if_neg (by rw [decide_eq_true_eq]; simp only [List.length_append,List.length_nil,List.length_cons]; omega)]))
        have:=k2 (.inr s3) (by simpa [Int.add_comm,Int.add_assoc,Int.add_left_comm] using k3)
        rw [h0 _ (by simpa [Int.add_comm,Int.add_assoc,Int.add_left_comm] using this)]; rfl
theorem fold_count:∀ (l:List (List Sta)) (c:Nat),c+l.length≤100000000→foldY delay_Circles_y1 l (c:Int)=some (.inl ((c+l.length:Nat):Int))
  | [],c,_=>rfl
  | y::l,c,h=>by
    have hy:delay_Circles_y1 y (c:Int)=some (.next ((c:Int)+1)):=by
      unfold delay_Circles_y1
      rw [ck_pos (by rw [inK_i64]; simp at h; omega)]
    simp only [foldY]
    rw [hy,Option.bind_some]
    have:=fold_count l (c+1) (by simp at h; omega)
    simp only
    rw [show (c:Int)+1=((c+1:Nat):Int) by omega,this]
    simp; omega
theorem circs_len {x:Acs} (hv:vld x=true):(circs x).length≤1000000:=by
  have hsl:=stas_len hv
  have l1:((stas x).map fun s=>[s]).length≤48:=by rw [List.length_map]; exact hsl
  have l2:(L2 x).length≤48*48:=by
    have:=len_flat ((stas x).map fun s=>[s]) 48 (extS x (stas x)) (fun y _=>ext_len hv y)
    have:=Nat.mul_le_mul_right 48 l1
    unfold L2; omega
  have l3:(L3 x).length≤48*48*48:=by
    have:=len_flat (L2 x) 48 (extS x (stas x)) (fun y _=>ext_len hv y)
    have:=Nat.mul_le_mul_right 48 l2
    unfold L3; omega
  have:=List.length_filter_le (clos x) (L2 x++L3 x)
  rw [List.length_append] at this
  unfold circs; omega
theorem Circles_eq (x:Acs):delay_Circles x=some (if vld x=true then (((circs x).length:Nat):Int) else 0,if vld x=true then 0 else 90):=by
  unfold delay_Circles
  rw [of_eq,Option.bind_some]
  cases hv:vld x with
  | false=>rfl
  | true =>
    simp only [if_true]
    rw [if_neg (by simp)]
    have:=circs_len hv
    have hf:=fold_count (circs x) 0 (by omega)
    rw [Nat.zero_add] at hf
    have hf2:=circles_eq (R:=Empty) hv _ hf
    rw [show ((0:Nat):Int)=0 from rfl] at hf2
    rw [hf2]; rfl
theorem Awake_eq:lineallaw09_Awake=some true:=by
  unfold lineallaw09_Awake
  rw [Circles_eq,Option.bind_some]
  have h1:vld [[(0,true),(1,false)],[(1,true),(0,false)]]=true:=by decide +kernel
  have h2:(circs [[(0,true),(1,false)],[(1,true),(0,false)]]).length=2:=by decide +kernel
  rw [h1,h2]; rfl
end Go.Proofs.Ytdicomoggfhbfaa
