import Derived.Test.YtdicomoggfhbfaaD13
import Derived.Test.YtdicomoggfhbfaaD4
import Derived.Test.YtdicomoggfhbfaaD15
namespace Go.Proofs.Ytdicomoggfhbfaa
open Go.RowKit
set_option linter.unusedVariables false
set_option linter.unusedSimpArgs false
theorem perm_of {α:Type} [BEq α] [LawfulBEq α]:∀ {xs ys:List α},xs.Nodup→(∀ a∈xs,a∈ys)→ys.length≤xs.length→xs.Perm ys
  | [],ys,_,_,h=>by
    have:ys=[]:=List.eq_nil_of_length_eq_zero (by simpa using h)
    rw [this]
  | a::xs,ys,hn,hs,hl=>by
    have hn':=List.nodup_cons.1 hn
    have ha:=hs a (by simp)
    have:=perm_of (xs:=xs) (ys:=ys.erase a) hn'.2 (fun b hb=>by
      have hne:b≠a:=fun e=>hn'.1 (e▸hb)
      exact (List.mem_erase_of_ne hne).2 (hs b (by simp [hb]))) (by rw [List.length_erase_of_mem ha]; simp at hl; omega)
    exact (this.cons a).trans (List.perm_cons_erase ha).symm
def rngI (n:Nat):List Int:=(List.range n).map fun (k:Nat)=>(k:Int)
def thrB (n:Nat) (l:List Int):Bool:=(rngI n).all (fun k=>l.contains k)&&decide (l.length=n)
def renX (x:Acs) (th:List Int):Acs:=th.map fun t=>x.getD t.toNat []
def chs:List Fen→List (List Fen)
  | []=>[[]]
  | f::r=>(chs r).map (fun l=>f::l)++chs r
theorem mem_chs:∀ {L l:List Fen},l∈chs L↔l.Sublist L
  | [],l=>by simp [chs]
  | f::r,l=>by
    unfold chs
    rw [List.mem_append,List.mem_map,List.sublist_cons_iff]
    constructor
    · rintro (⟨m,hm,rfl⟩|h)
      · exact .inr ⟨m,rfl,mem_chs.1 hm⟩
      · exact .inl (mem_chs.1 h)
    · rintro (h|⟨m,rfl,hm⟩)
      · exact .inr (mem_chs.2 h)
      · exact .inl ⟨m,mem_chs.2 hm,rfl⟩
theorem chs_len:∀ L:List Fen,(chs L).length=2 ^ L.length
  | []=>rfl
  | f::r=>by unfold chs; rw [List.length_append,List.length_map,chs_len r,List.length_cons,Nat.pow_succ]; omega
theorem pow9 {n:Nat} (h:n≤9):2 ^ n≤512:=Nat.le_trans (Nat.pow_le_pow_right (by omega) h) (by decide)
/-! ### Which comes first -/
def ltB (a b:Fen):Bool:=decide (a.1<b.1) || (decide (a.1=b.1)&&decide (a.2<b.2))
theorem ltB_iff {a b:Fen}:ltB a b=true↔ltF a b:=by unfold ltB ltF; simp
def lexF:List Fen→List Fen→Bool
  | [],[]=>false
  | [],_::_=>true
  | _::_,[]=>false
  | a::l,b::m=>if a=b then lexF l m else ltB a b
theorem lexF_asym:∀ {l m:List Fen},lexF l m=true→lexF m l=false
  | [],[],h=>by simp [lexF] at h
  | [],_::_,_=>rfl
  | _::_,[],h=>by simp [lexF] at h
  | a::l,b::m,h=>by
    unfold lexF at h ⊢
    by_cases e:a=b
    · rw [if_pos e] at h; rw [if_pos e.symm]; exact lexF_asym h
    · rw [if_neg e,ltB_iff] at h
      rw [if_neg fun c=>e c.symm]
      cases hb:ltB b a with
      | false=>rfl
      | true=>exact absurd (ltF_trans h (ltB_iff.1 hb)) ltF_irr
theorem lexF_tot:∀ {l m:List Fen},lexF l m=false→l=m∨lexF m l=true
  | [],[],_=>.inl rfl
  | [],_::_,h=>by simp [lexF] at h
  | _::_,[],_=>.inr rfl
  | a::l,b::m,h=>by
    unfold lexF at h ⊢
    by_cases e:a=b
    · rw [if_pos e] at h; rw [if_pos e.symm]
      rcases lexF_tot h with h|h
      · exact .inl (by rw [e,h])
      · exact .inr h
    · rw [if_neg e] at h
      rw [if_neg fun c=>e c.symm]
      refine .inr (ltB_iff.2 ?_)
      have h1:¬ ltF a b:=fun c=>by rw [ltB_iff.2 c] at h; cases h
      have h2:¬ (a.1=b.1∧a.2=b.2):=fun c=>e (Prod.ext c.1 c.2)
      unfold ltF at *; omega
theorem lexF_trans:∀ {l m k:List Fen},lexF l m=true→lexF m k=true→lexF l k=true
  | [],[],_,h,_=>by simp [lexF] at h
  | [],_::_,[],_,h=>by simp [lexF] at h
  | [],_::_,_::_,_,_=>rfl
  | _::_,[],_,h,_=>by simp [lexF] at h
  | _::_,_::_,[],_,h=>by simp [lexF] at h
  | a::l,b::m,c::k,h,g=>by
    unfold lexF at h g ⊢
    by_cases e:a=b
    · subst e
      rw [if_pos rfl] at h
      by_cases e2:a=c
      · rw [if_pos e2] at g ⊢; exact lexF_trans h g
      · rw [if_neg e2] at g ⊢; exact g
    · rw [if_neg e,ltB_iff] at h
      by_cases e2:b=c
      · subst e2; rw [if_neg e]; exact ltB_iff.2 h
      · rw [if_neg e2,ltB_iff] at g
        have:=ltF_trans h g
        rw [if_neg fun c'=>by rw [c'] at this; exact ltF_irr this]
        exact ltB_iff.2 this
def betr (cs:Cos) (m l:List Fen):Prop:=cstF cs m<cstF cs l∨(cstF cs m=cstF cs l∧(l=m∨lexF m l=true))
def isBest (x:Acs) (cs:Cos) (m:List Fen):Prop:=(m.Sublist (fens x)∧enB m (need x)=true)∧∀ l:List Fen,l.Sublist (fens x)→enB l (need x)=true→betr cs m l
theorem betr_le {cs:Cos} {m l:List Fen} (h:betr cs m l):cstF cs m≤cstF cs l:=by
  unfold betr at h; omega
theorem betr_refl (cs:Cos) (m:List Fen):betr cs m m:=.inr ⟨rfl,.inl rfl⟩
theorem betr_trans {cs:Cos} {a b c:List Fen} (h:betr cs a b) (g:betr cs b c):betr cs a c:=by
  unfold betr at *
  rcases h with h|⟨h,h'⟩
  · exact .inl (by omega)
  · rcases g with g|⟨g,g'⟩
    · exact .inl (by omega)
    · refine .inr ⟨by omega,?_⟩
      rcases h' with rfl|h'
      · exact g'
      · rcases g' with rfl|g'
        · exact .inr h'
        · exact .inr (lexF_trans h' g')
theorem best_uniq {x:Acs} {cs:Cos} {m n:List Fen} (h:isBest x cs m) (g:isBest x cs n):m=n:=by
  have h1:=h.2 n g.1.1 g.1.2
  have g1:=g.2 m h.1.1 h.1.2
  unfold betr at h1 g1
  rcases h1 with h1|⟨_,h1⟩
  · omega
  · rcases g1 with g1|⟨_,g1⟩
    · omega
    · rcases h1 with h1|h1
      · exact h1.symm
      · rcases g1 with g1|g1
        · exact g1
        · rw [lexF_asym h1] at g1; cases g1
theorem cstF_nil (cs:Cos):cstF cs []=0:=rfl
theorem cstF_cons (cs:Cos) (f:Fen) (l:List Fen):cstF cs (f::l)=atC cs f+cstF cs l:=by simp [cstF]
theorem cstF_append (cs:Cos) (l m:List Fen):cstF cs (l++m)=cstF cs l+cstF cs m:=by simp [cstF]
theorem cstF_bnd {x:Acs} {cs:Cos} (hc:areC x cs=true):∀ {l:List Fen},(∀ f∈l,f∈fens x)→(l.length:Int)≤cstF cs l∧cstF cs l≤9*(l.length:Int)
  | [],_=>by simp [cstF_nil]
  | f::l,h=>by
    have ih:=cstF_bnd hc (l:=l) fun g hg=>h g (by simp [hg])
    have:=(atC_bnd hc (h f (by simp))).2.2.2.2
    rw [cstF_cons,List.length_cons]
    omega
theorem chs_pair:∀ {L:List Fen},L.Pairwise ltF→(chs L).Pairwise fun l m=>lexF l m=true∨m <+: l
  | [],_=>by simp [chs]
  | f::r,h=>by
    rw [List.pairwise_cons] at h
    have ih:=chs_pair h.2
    unfold chs
    rw [List.pairwise_append,List.pairwise_map]
    refine ⟨ih.imp fun {l m} c=>?_,ih,fun a ha m hm=>?_⟩
    · rcases c with c|c
      · exact .inl (by unfold lexF; rw [if_pos rfl]; exact c)
      · exact .inr (by rw [List.cons_prefix_cons]; exact ⟨rfl,c⟩)
    · obtain ⟨l,hl,rfl⟩:=List.mem_map.1 ha
      cases m with
      | nil=>exact .inr (List.nil_prefix)
      | cons b m =>
        have hb:b∈r:=(mem_chs.1 hm).subset (by simp)
        have:=h.1 b hb
        refine .inl ?_
        unfold lexF
        rw [if_neg fun c=>by rw [c] at this; exact ltF_irr this]
        exact ltB_iff.2 this
theorem sub_fens {x:Acs} {l:List Fen} (h:l.Sublist (fens x)):∀ f∈l,f∈fens x:=fun f hf=>h.subset hf
theorem chs_q {x:Acs} {cs:Cos} (hc:areC x cs=true):(chs (fens x)).Pairwise fun l m=>cstF cs l=cstF cs m→(m=l∨lexF l m=true) :=
  List.Pairwise.imp_of_mem (fun {l m} hl hm h e=>by
    rcases h with h|⟨s,rfl⟩
    · exact .inr h
    · rw [cstF_append] at e
      have:=(cstF_bnd hc (l:=s) fun f hf=>sub_fens (mem_chs.1 hl) f (by simp [hf])).1
      have:s=[]:=List.length_eq_zero_iff.1 (by omega)
      subst this
      exact .inl (by simp)) (chs_pair (fens_asc x))
theorem fens_en (x:Acs):enB (fens x) (need x)=true:=by
  unfold enB
  rw [List.all_eq_true]
  intro p hp
  obtain ⟨h1,_⟩:=mem_need.1 hp
  unfold isPr at h1
  simp only [Bool.and_eq_true,decide_eq_true_eq,hasA_iff] at h1
  obtain ⟨⟨a1,a2,a3,a4⟩,⟨_,_,b3,b4⟩,h3,_⟩:=h1
  unfold heldB
  rw [List.any_eq_true]
  refine ⟨(p.1,p.2.1),mem_fens.2 ⟨a1,a2,a3,by simp only; omega⟩,?_⟩
  unfold hldB
  simp only [Bool.and_eq_true,decide_eq_true_eq]
  exact ⟨trivial,by omega,h3⟩
/-! ### The program's side -/
theorem Grow2_eq {n:Int} (h:0≤n) (h2:n≤100000):slices_Grow_2 n=some ():=by
  unfold slices_Grow_2
  rw [if_neg (by rw [decide_eq_true_eq]; omega),ck_pos (by rw [inK_i64]; omega),ck_pos (by rw [inK_i64]; omega)]
  by_cases h0:(0:Int)<n - (0 - 0)
  · rw [if_pos (decide_eq_true h0),ck_pos h0,ck_pos (by omega),ck_pos (by omega),ck_pos (by omega),ck_pos (by omega)]
  · rw [if_neg (by rw [decide_eq_true_eq]; exact h0)]
theorem Concat2_eq {a b:List Fen} (ha:a.length≤100) (hb:b.length≤100):slices_Concat_2 [a,b]=some (a++b):=by
  have hlen:∀ y∈[a,b],y.length≤100:=by simp [ha,hb]
  have hx3:few [a,b]:=few_of (n:=2) (by simp)
  obtain ⟨r,e,hr1⟩:=scan2 (S:=Int) (R:=Int) [a,b] (fun k s=>0≤s∧s≤100*k) (fun s=>0≤s∧s≤1000) (body:=slices_Concat_2_b1 [a,b]) (s0:=0) ⟨by omega,by omega⟩
    (fun k y s hk hI=>by
      obtain ⟨hlt,hik⟩:=few_in hx3 hk
      have hy:y.length≤100:=hlen y (List.mem_of_getElem? hk)
      have hlt2:k<2:=hlt
      refine .inl ⟨s+(y.length:Int),?_,by omega,by omega⟩
      unfold slices_Concat_2_b1
      dsimp only
      rw [Int.toNat_natCast,getD_of hk,if_pos (decide_eq_true (by omega)),ck_pos (by omega),ck_pos (by omega),ck_pos (by rw [inK_i64]; omega),if_neg (by rw [decide_eq_true_eq]; omega),ck_pos hik])
    (fun s hI=>⟨s,by unfold slices_Concat_2_b1; rw [if_neg (by simp)],hI.1,by have:=hI.2; simp at this; omega⟩)
  have w2:=appL [a,b] 100 (fun y=>y) (fun y hy=>hlen y hy) [] (body:=slices_Concat_2_b2 [a,b]) (fun k y l hk hl=>by
    obtain ⟨hlt,hik⟩:=few_in hx3 hk
    have hlt2:k<2:=hlt
    have hy:y.length≤100:=hlen y (List.mem_of_getElem? hk)
    simp only [List.length_nil,List.length_cons] at hl
    unfold slices_Concat_2_b2
    dsimp only
    rw [Int.toNat_natCast,getD_of hk,if_pos (decide_eq_true (by omega)),ck_pos (by omega),ck_pos (by omega),ck_pos (by omega),ck_pos hik]) (fun l=>by unfold slices_Concat_2_b2; rw [if_neg (by simp)])
  unfold slices_Concat_2
  rw [e,Option.bind_some]
  unfold slices_Concat_2_k1
  rw [Grow2_eq hr1.1 (by omega),Option.bind_some,w2,Option.bind_some]
  unfold slices_Concat_2_k2
  simp
theorem choices_eq:∀ (L:List Fen) (n:Nat),L.length<n→L.length≤9→delay_choices n L=some (chs L)
  | L,0,h,_=>by omega
  | [],n+1,_,_=>rfl
  | f::r,n+1,h,h9=>by
    simp only [List.length_cons] at h h9
    show delay_choicesF (delay_choices n) (f::r)=_
    unfold delay_choicesF
    rw [if_neg (by rw [decide_eq_true_eq,List.length_cons]; omega),ck_pos (by rw [List.length_cons]; omega),List.drop_one,List.tail_cons,choices_eq r n (by omega) (by omega),Option.bind_some]
    have hlen:(chs r).length≤512:=by rw [chs_len]; exact pow9 (by omega)
    have hf:few (chs r):=few_of hlen
    rw [appL (chs r) 1 (fun l=>[f::l]) (fun y _=>by simp) [] (body:=delay_choices_b1 (f::r) (chs r)) (fun k y l hk hl=>by
      obtain ⟨hlt,hik⟩:=few_in hf hk
      have hy:=(mem_chs.1 (List.mem_of_getElem? hk)).length_le
      simp only [List.length_nil] at hl
      unfold delay_choices_b1
      dsimp only
      rw [Int.toNat_natCast,getD_of hk,if_pos (decide_eq_true (by omega)),ck_pos (by omega),ck_pos (by omega),ck_pos (by rw [List.length_cons]; omega),Concat2_eq (by simp) (by omega),Option.bind_some,ck_pos (by omega),ck_pos hik]
      rfl) (fun l=>by unfold delay_choices_b1; rw [if_neg (by simp)]),Option.bind_some,List.nil_append,flat_map1]
    show delay_choices_k1 (chs r) _=some ((chs r).map (fun l=>f::l)++chs r)
    unfold delay_choices_k1
    rw [ck_pos (by rw [List.length_map]; omega)]
theorem clear_take2 {α:Type} (l:List α) {i n:Nat} (d:List α) (h:i≤l.length):((l.take i++d)++l.drop n).take i=l.take i:=by
  rw [List.append_assoc,List.take_append_of_le_length (by rw [List.length_take]; omega),List.take_take,Nat.min_self]
theorem DeleteFunc4_eq {L:List Fen} (h9:L.length≤9) (x:Acs) {nd:List Sta} (hn:few nd) (cs:Cos):slices_DeleteFunc_4 (chs L) (x,nd,cs)=some ((chs L).filter fun l=>enB l nd):=by
  have hlen:(chs L).length≤512:=by rw [chs_len]; exact pow9 h9
  have hf:few (chs L):=few_of hlen
  have hm:∀ l∈chs L,l.length≤9:=fun l hl=>Nat.le_trans (mem_chs.1 hl).length_le h9
  generalize chs L=s at hlen hf hm
  have hidx:slices_IndexFunc_11 s (x,nd,cs)=some (idxI (fun l=>!enB l nd) s):=by
    unfold slices_IndexFunc_11
    rw [whileO_first s (fun l=>!enB l nd) (fun k a hk=>by
      obtain ⟨hlt,hik⟩:=few_in hf hk
      unfold slices_IndexFunc_11_b1 delay_offer_cheapest_1
      rw [if_pos (decide_eq_true (by omega)),ck_pos (by omega),ck_pos (by omega),Int.toNat_natCast,getD_of hk,holdAll_eq (few_of (hm a (List.mem_of_getElem? hk))) hn,Option.bind_some,Option.bind_some]
      cases enB a nd<;>simp [ck_pos hik]) (by unfold slices_IndexFunc_11_b1; rw [if_neg (by simp)]),Option.bind_some]
    unfold idxI slices_IndexFunc_11_k1
    cases s.findIdx? (fun l=>!enB l nd)<;>rfl
  have:=delF s (fun l=>!enB l nd) hf hidx (body:=slices_DeleteFunc_4_b1 (x,nd,cs)) (k1:=slices_DeleteFunc_4_k1) (fun l i j y hl hij hj hy=>by
    have hjl:=(List.getElem?_eq_some_iff.1 hj).1
    have hf':few l:=by unfold few at *; omega
    obtain ⟨_,hik⟩:=few_in hf' hj
    unfold slices_DeleteFunc_4_b1 delay_offer_cheapest_1
    simp only
    rw [if_pos (decide_eq_true (by omega)),ck_pos (by omega),ck_pos (by omega),Int.toNat_natCast,getD_of hj,holdAll_eq (few_of (hm y hy)) hn,Option.bind_some,Option.bind_some]
    cases enB y nd with
    | false=>rw [if_neg (by simp),ck_pos hik,if_pos (by simp)]
    | true=>rw [if_pos (by simp),ck_pos (by omega),ck_pos (by omega),ck_pos (by rw [inK_i64] at *; omega),ck_pos hik,if_neg (by simp),Int.toNat_natCast]) (fun l i hl=>by
      unfold slices_DeleteFunc_4_b1
      simp only
      rw [if_neg (by simp [hl])]) (fun l i hi=>by
        unfold slices_DeleteFunc_4_k1
        simp only
        rw [Int.toNat_natCast,ck_pos (by omega),ck_pos (by omega),ck_pos (by omega),ck_pos (by omega),ck_pos (by omega),ck_pos (by simp only [List.length_append,List.length_take,List.length_replicate,List.length_drop]; omega),clear_take2 l _ (by omega)])
  have e:slices_DeleteFunc_4 s (x,nd,cs)=some (s.filter fun l=>!!enB l nd):=by unfold slices_DeleteFunc_4; exact this
  rw [e]
  simp only [Bool.not_not]
theorem scanF {α S R:Type} (xs:List α) (j:Nat) (hj:j≤xs.length) (I:Nat→S→Prop) (G:R→Prop) {body:S×Int→Option (Step (S×Int) R)} {s0:S} (h0:I j s0)
    (h:∀ (k:Nat) (x:α) (s:S),xs[k]?=some x→j≤k→I k s→∃ s',body (s,(k:Int))=some (.next (s',(k:Int)+1))∧I (k+1) s')
    (hd:∀ s,I xs.length s→∃ r,body (s,(xs.length:Int))=some (.done r)∧G r):∃ r,whileO body (s0,(j:Int))=some r∧G r:=by
  refine whileO_inv (S:=S×Int) (fun s:S×Int=>∃ k:Nat,s.2=(k:Int)∧j≤k∧k≤xs.length∧I k s.1) (fun s:S×Int=>xs.length - s.2.toNat) G ?_ (s0,(j:Int)) ⟨j,rfl,Nat.le_refl _,hj,h0⟩
  rintro ⟨s,q⟩ ⟨k,hq,hjk,hk,hI⟩
  simp only at hq hI
  subst hq
  by_cases hlt:k<xs.length
  · obtain ⟨s',h1,h2⟩:=h k _ s (List.getElem?_eq_getElem hlt) hjk hI
    exact .inl ⟨_,h1,⟨k+1,by simp,by omega,by omega,h2⟩,by simp only; omega⟩
  · have:k=xs.length:=by omega
    subst this
    exact .inr (hd s hI)
theorem cheapest2_eq {x:Acs} {cs:Cos} (hc:areC x cs=true) (nd:List Sta) {a b:List Fen} (ha:a.Sublist (fens x)) (hb:b.Sublist (fens x)) (hv:vld x=true):∃ v,delay_offer_cheapest_2 a b (x,nd,cs)=some v∧decide (v<0)=decide (cstF cs a<cstF cs b):=by
  have h9:=fens_len hv
  have la:=ha.length_le
  have lb:=hb.length_le
  unfold delay_offer_cheapest_2 delay_offer_cost
  dsimp only
  rw [costOf_eq hc (by omega) (sub_fens ha),Option.bind_some,Option.bind_some,costOf_eq hc (by omega) (sub_fens hb),Option.bind_some,Option.bind_some]
  unfold cmp_Compare cmp_isNaN
  rw [Option.bind_some,Option.bind_some]
  by_cases h1:cstF cs a<cstF cs b
  · rw [if_pos (decide_eq_true h1)]; exact ⟨_,rfl,by simp [h1]⟩
  · rw [if_neg (by rw [decide_eq_true_eq]; exact h1)]
    by_cases h2:cstF cs b<cstF cs a
    · rw [if_pos (decide_eq_true h2)]; exact ⟨_,rfl,by simp [h1]⟩
    · rw [if_neg (by rw [decide_eq_true_eq]; exact h2)]; exact ⟨_,rfl,by simp [h1]⟩
theorem cheapest_eq {x:Acs} {cs:Cos} (hv:vld x=true) (hc:areC x cs=true):∃ m,delay_offer_cheapest (x,need x,cs)=some m∧isBest x cs m:=by
  have h9:=fens_len hv
  unfold delay_offer_cheapest
  dsimp only
  rw [fences_eq hv,Option.bind_some,choices_eq (fens x) fuel (by unfold fuel; omega) h9,Option.bind_some,DeleteFunc4_eq h9 x (need_few hv) cs,Option.bind_some]
  have hlen:((chs (fens x)).filter fun l=>enB l (need x)).length≤512:=Nat.le_trans (List.length_filter_le _ _) (by rw [chs_len]; exact pow9 h9)
  have hQ:=(chs_q hc).filter fun l=>enB l (need x)
  have hmem:∀ l,l∈((chs (fens x)).filter fun l=>enB l (need x))↔l.Sublist (fens x)∧enB l (need x)=true:=fun l=>by rw [List.mem_filter,mem_chs]
  have hne:fens x∈((chs (fens x)).filter fun l=>enB l (need x)):=(hmem _).2 ⟨List.Sublist.refl _,fens_en x⟩
  generalize ((chs (fens x)).filter fun l=>enB l (need x))=s at hlen hQ hmem hne
  have h1:0<s.length:=List.length_pos_of_mem hne
  have hf:few s:=few_of hlen
  unfold slices_MinFunc
  rw [if_neg (by rw [decide_eq_true_eq]; omega),ck_pos (by omega)]
  obtain ⟨r,e,hr⟩:=scanF (S:=List Fen) (R:=List Fen) s 1 (by omega) (fun k m=>m∈s.take k∧∀ l∈s.take k,betr cs m l) (fun m=>m∈s∧∀ l∈s,betr cs m l) (body:=slices_MinFunc_b1 s (x,need x,cs)) (s0:=s.getD 0 [])
    (by
      cases s with
      | nil=>simp at h1
      | cons a s=>simp [betr_refl])
    (fun k y m hk hjk hI=>by
      obtain ⟨hlt,hik⟩:=few_in hf hk
      have hy:=List.mem_of_getElem? hk
      have hms:=List.mem_of_mem_take hI.1
      obtain ⟨v,hv1,hv2⟩:=cheapest2_eq hc (need x) ((hmem y).1 hy).1 ((hmem m).1 hms).1 hv
      unfold slices_MinFunc_b1
      dsimp only
      rw [Int.toNat_natCast,getD_of hk,if_pos (decide_eq_true (by omega)),ck_pos (by omega),ck_pos (by omega),hv1,Option.bind_some,hv2]
      rw [take_one hk]
      by_cases hlt2:cstF cs y<cstF cs m
      · rw [if_pos (decide_eq_true hlt2),ck_pos (by omega),ck_pos (by omega),ck_pos hik]
        refine ⟨y,rfl,by simp,fun l hl=>?_⟩
        rcases List.mem_append.1 hl with hl|hl
        · have:=betr_le (hI.2 l hl)
          exact .inl (by omega)
        · rw [List.mem_singleton] at hl; subst hl; exact betr_refl cs _
      · rw [if_neg (by rw [decide_eq_true_eq]; exact hlt2),ck_pos hik]
        refine ⟨m,rfl,by simp [hI.1],fun l hl=>?_⟩
        rcases List.mem_append.1 hl with hl|hl
        · exact hI.2 l hl
        · rw [List.mem_singleton] at hl
          subst hl
          have hp:=hQ.sublist (List.take_sublist (k+1) s)
          rw [take_one hk,List.pairwise_append] at hp
          have hp:=hp.2.2 m hI.1 l (by simp)
          by_cases e:cstF cs m=cstF cs l
          · exact .inr ⟨e,hp e⟩
          · exact .inl (by omega))
    (fun m hI=>⟨m,by unfold slices_MinFunc_b1; rw [if_neg (by simp)],by rw [List.take_length] at hI; exact hI⟩)
  have e':whileO (slices_MinFunc_b1 s (x,need x,cs)) (s.getD 0 [],1)=some r:=e
  rw [e',Option.bind_some]
  unfold slices_MinFunc_k1
  rw [Option.bind_some]
  exact ⟨r,rfl,(hmem r).1 hr.1,fun l h2 h3=>hr.2 l ((hmem l).2 ⟨h2,h3⟩)⟩
theorem offerOf_eq (x:Acs) (cs:Cos):delay_offerOf x cs=some (if vld x=true then (if areC x cs=true then (x,need x,cs,0) else ([],[],[],2)) else ([],[],[],90)):=by
  unfold delay_offerOf
  rw [of_eq,Option.bind_some]
  cases hv:vld x with
  | false=>rfl
  | true =>
    simp only [if_true]
    rw [if_neg (by simp),areCosts_eq hv,Option.bind_some]
    cases hc:areC x cs with
    | false=>rfl
    | true=>rw [if_neg (by simp),onCircles_eq hv]; rfl
end Go.Proofs.Ytdicomoggfhbfaa
