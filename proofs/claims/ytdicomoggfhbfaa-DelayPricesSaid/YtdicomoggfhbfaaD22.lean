import Derived.Test.YtdicomoggfhbfaaD20
import Derived.Test.YtdicomoggfhbfaaD10
namespace Go.Proofs.Ytdicomoggfhbfaa
open Go.RowKit
set_option linter.unusedVariables false
set_option linter.unusedSimpArgs false
theorem need_len {x:Acs} (hv:vld x=true):(need x).length≤48:=Nat.le_trans (List.length_filter_le _ _) (Nat.le_trans (List.length_filter_le _ _) (stas_len hv))
def okP (v:Int):Bool:=decide (0≤v)&&decide (v<101)
def drwT (f:Fen) (nd:List Sta) (ps:List Int) (i:Nat):Int:=if hldB f (nd.getD i (0,0,0))=true then ps.getD i 0 else 0
def drwN (f:Fen) (nd:List Sta) (ps:List Int) (n:Nat):Int:=((List.range n).map (drwT f nd ps)).sum
def drw (f:Fen) (nd:List Sta) (ps:List Int):Int:=drwN f nd ps nd.length
theorem drwN_succ (f:Fen) (nd:List Sta) (ps:List Int) (n:Nat):drwN f nd ps (n+1)=drwN f nd ps n+drwT f nd ps n:=by
  unfold drwN
  rw [List.range_succ,List.map_append,List.sum_append]
  simp
theorem drwT_bnd {f:Fen} {nd:List Sta} {ps:List Int} (h:∀ v∈ps,0≤v∧v≤100) (i:Nat):0≤drwT f nd ps i∧drwT f nd ps i≤100:=by
  unfold drwT
  split
  · by_cases hi:i<ps.length
    · exact h _ (getD_in hi)
    · rw [List.getD_eq_getElem?_getD,List.getElem?_eq_none (by omega)]; simp
  · omega
theorem drwN_bnd {f:Fen} {nd:List Sta} {ps:List Int} (h:∀ v∈ps,0≤v∧v≤100) (n:Nat):0≤drwN f nd ps n∧drwN f nd ps n≤100*n:=by
  induction n with
  | zero=>simp [drwN]
  | succ n ih =>
    rw [drwN_succ]
    have:=drwT_bnd (f:=f) (nd:=nd) h n
    omega
theorem left_eq {x:Acs} {cs:Cos} (hc:areC x cs=true) {nd:List Sta} (hn:nd.length≤48) {ps:List Int} (hl:ps.length=nd.length) (hp:∀ v∈ps,0≤v∧v≤100) {f:Fen} (hf:f∈fens x):delay_offer_left (x,nd,cs) f ps=some (atC cs f - drw f nd ps):=by
  obtain ⟨g1,g2,g3,g4,g5,g6⟩:=atC_bnd hc hf
  unfold delay_offer_left
  dsimp only
  rw [ck_pos g1,ck_pos g2,ck_pos g3,ck_pos g4]
  show (whileO (delay_offer_left_b1 (x,nd,cs) f ps) (atC cs f,0)).bind _=_
  obtain ⟨r,e,hr⟩:=scan2 (S:=Int) (R:=Int) nd (fun k s=>s=atC cs f - drwN f nd ps k) (fun r=>r=atC cs f - drw f nd ps) (body:=delay_offer_left_b1 (x,nd,cs) f ps) (s0:=atC cs f) (by simp [drwN])
    (fun k p s hk hI=>by
      obtain ⟨hlt,hik⟩:=few_in (few_of (n:=48) hn) hk
      have b1:=drwN_bnd (f:=f) (nd:=nd) hp k
      have b2:=drwT_bnd (f:=f) (nd:=nd) hp k
      have hs:=drwN_succ f nd ps k
      unfold drwT at b2 hs
      rw [getD_of hk] at b2 hs
      unfold delay_offer_left_b1
      dsimp only
      rw [Int.toNat_natCast,getD_of hk,if_pos (decide_eq_true (by omega)),ck_pos (by omega),ck_pos (by omega),holds_eq,Option.bind_some]
      cases hh:hldB f p with
      | true =>
        rw [hh,if_pos rfl] at b2 hs
        rw [if_pos rfl,ck_pos (by omega),ck_pos (by omega),ck_pos (by rw [inK_i64]; omega),ck_pos hik]
        exact .inl ⟨_,rfl,by omega⟩
      | false =>
        rw [hh,if_neg (by simp)] at hs
        rw [if_neg (by simp),ck_pos hik]
        exact .inl ⟨_,rfl,by omega⟩)
    (fun s hI=>⟨s,by unfold delay_offer_left_b1; rw [if_neg (by simp)],hI⟩)
  rw [e,Option.bind_some,hr]
  rfl
theorem isBelow_okP (v:Int):delay_offer_arePrices_1 v=some (!okP v):=by
  unfold delay_offer_arePrices_1
  rw [isBelow_eq]; rfl
theorem arePrices_eq (x:Acs) {nd:List Sta} (hn:nd.length≤48) (cs:Cos) (ps:List Int):delay_offer_arePrices (x,nd,cs) ps=some (decide (ps.length=nd.length)&&ps.all okP):=by
  unfold delay_offer_arePrices
  dsimp only
  by_cases h:ps.length=nd.length
  · have hf:few ps:=few_of (n:=48) (by omega)
    have hidx:slices_IndexFunc_12 ps=some (idxI (fun v=>!okP v) ps):=by
      unfold slices_IndexFunc_12
      rw [whileO_first ps (fun v=>!okP v) (fun k a hk=>by
        obtain ⟨hlt,hik⟩:=few_in hf hk
        unfold slices_IndexFunc_12_b1
        rw [Int.toNat_natCast,getD_of hk,if_pos (decide_eq_true (by omega)),ck_pos (by omega),ck_pos (by omega),isBelow_okP,Option.bind_some]
        cases okP a<;>simp [ck_pos hik]) (by unfold slices_IndexFunc_12_b1; rw [if_neg (by simp)]),Option.bind_some]
      unfold idxI slices_IndexFunc_12_k1
      cases ps.findIdx? (fun v=>!okP v)<;>rfl
    unfold slices_ContainsFunc_8
    rw [if_pos (decide_eq_true (by omega)),hidx,Option.bind_some,Option.bind_some,idxI_any,List.not_any_eq_all_not,decide_eq_true h]
    simp
  · rw [if_neg (by rw [decide_eq_true_eq]; omega),decide_eq_false h]; rfl
def prvB (x:Acs) (cs:Cos) (ps:List Int) (c:Int):Bool:=decide (c≤ps.sum)&&(fens x).all fun f=>decide (drw f (need x) ps≤atC cs f)
def errP (x:Acs) (cs:Cos) (ps:List Int) (c:Int):Int:=if errO x cs=0 then (if (decide (ps.length=(need x).length)&&ps.all okP)=true∧0≤c∧c≤1000 then 0 else 2) else errO x cs
theorem okP_all {ps:List Int} (h:ps.all okP=true):∀ v∈ps,0≤v∧v≤100:=fun v hv=>by
  rw [List.all_eq_true] at h
  have:=h v hv
  unfold okP at this
  simp only [Bool.and_eq_true,decide_eq_true_eq] at this
  omega
theorem isProved_eq {x:Acs} (hv:vld x=true) {cs:Cos} (hc:areC x cs=true) {ps:List Int} (hl:ps.length=(need x).length) (hp:∀ v∈ps,0≤v∧v≤100) (c:Int):delay_offer_isProved (x,need x,cs) ps c=some (prvB x cs ps c):=by
  have hn:=need_len hv
  have hfs:=fens_len hv
  unfold delay_offer_isProved
  obtain ⟨r,e,hr⟩:=scan2 (S:=Int) (R:=Int) ps (fun k s=>s=(ps.take k).sum∧0≤s∧s≤100*k) (fun r=>r=ps.sum) (body:=delay_offer_isProved_b1 ps) (s0:=0) ⟨by simp,by simp,by simp⟩
    (fun k v s hk hI=>by
      obtain ⟨hlt,hik⟩:=few_in (few_of (n:=48) (by omega)) hk
      have:=hp v (List.mem_of_getElem? hk)
      unfold delay_offer_isProved_b1
      dsimp only
      rw [Int.toNat_natCast,getD_of hk,if_pos (decide_eq_true (by omega)),ck_pos (by omega),ck_pos (by omega),ck_pos (by rw [inK_i64]; omega),ck_pos hik]
      exact .inl ⟨_,rfl,by rw [take_one hk,List.sum_append,hI.1]; simp,by omega,by omega⟩)
    (fun s hI=>⟨s,by unfold delay_offer_isProved_b1; rw [if_neg (by simp)],by rw [List.take_length] at hI; exact hI.1⟩)
  rw [e,Option.bind_some,hr]
  unfold delay_offer_isProved_k1 prvB
  by_cases h:c≤ps.sum
  · have hff:few (fens x):=few_of hfs
    have hidx:slices_IndexFunc_13 (fens x) (x,need x,cs) ps=some (idxI (fun f=>!decide (drw f (need x) ps≤atC cs f)) (fens x)):=by
      unfold slices_IndexFunc_13
      rw [whileO_first (fens x) (fun f=>!decide (drw f (need x) ps≤atC cs f)) (fun k a hk=>by
        obtain ⟨hlt,hik⟩:=few_in hff hk
        unfold slices_IndexFunc_13_b1 delay_offer_isProved_1
        rw [Int.toNat_natCast,getD_of hk,if_pos (decide_eq_true (by omega)),ck_pos (by omega),ck_pos (by omega),left_eq hc hn hl hp (List.mem_of_getElem? hk),Option.bind_some,Option.bind_some]
        by_cases e:drw a (need x) ps≤atC cs a
        · rw [if_neg (by rw [decide_eq_true_eq]; omega),ck_pos hik,if_neg (by simp [e])]
        · rw [if_pos (decide_eq_true (by omega)),if_pos (by simp [e])]) (by unfold slices_IndexFunc_13_b1; rw [if_neg (by simp)]),Option.bind_some]
      unfold idxI slices_IndexFunc_13_k1
      cases (fens x).findIdx? (fun f=>!decide (drw f (need x) ps≤atC cs f))<;>rfl
    unfold slices_ContainsFunc_9
    rw [if_pos (decide_eq_true h)]
    dsimp only
    rw [fences_eq hv,Option.bind_some,hidx,Option.bind_some,Option.bind_some,idxI_any,List.not_any_eq_all_not,decide_eq_true h]
    simp
  · rw [if_neg (by rw [decide_eq_true_eq]; exact h),decide_eq_false h]; rfl
theorem Prove_eq (x:Acs) (cs:Cos) (ps:List Int) (c:Int):delay_Prove x cs ps c=some (if errP x cs ps c=0 then prvB x cs ps c else false,errP x cs ps c):=by
  unfold delay_Prove
  rw [offerOf_eq,Option.bind_some]
  unfold errP errO
  cases hv:vld x with
  | false=>rfl
  | true =>
    cases hc:areC x cs with
    | false=>rfl
    | true =>
      simp only [if_true]
      rw [if_neg (by simp),arePrices_eq x (need_len hv),Option.bind_some]
      cases hp:(decide (ps.length=(need x).length)&&ps.all okP) with
      | false=>rw [if_pos (show (!false)=true from rfl)]; simp
      | true =>
        rw [if_neg (by simp),isBelow_eq,Option.bind_some]
        by_cases h:0≤c∧c≤1000
        · have e:(decide (0≤c)&&decide (c<1001))=true:=by simp; omega
          have hE:(if true=true∧0≤c∧c≤1000 then (0:Int) else 2)=0:=if_pos ⟨rfl,h⟩
          rw [e,if_neg (by simp),hE,if_pos rfl]
          rw [Bool.and_eq_true,decide_eq_true_eq] at hp
          rw [isProved_eq hv hc hp.1 (okP_all hp.2)]; rfl
        · have e:(decide (0≤c)&&decide (c<1001))=false:=by simp; omega
          have hE:(if true=true∧0≤c∧c≤1000 then (0:Int) else 2)=2:=if_neg fun k=>h k.2
          rw [e,if_pos (show (!false)=true from rfl),hE]; rfl
theorem refProve_eq {x:Acs} (hx:x.length≤20) (cs:Cos) (ps:List Int) (c:Int):linealref09_Prove x cs ps c=some (if errP x cs ps c=0 then prvB x cs ps c else false,errP x cs ps c):=by
  unfold linealref09_Prove
  rw [priced_eq hx,Option.bind_some]
  unfold errP
  by_cases h0:errO x cs=0
  · obtain ⟨hv,hc⟩:=errO_zero.1 h0
    have hn:=need_len hv
    have hfs:=fens_len hv
    rw [if_neg (by simp [h0]),refneeded_eq hv,Option.bind_some,if_pos h0]
    by_cases hl:ps.length=(need x).length
    · rw [if_neg (by simp [hl])]
      by_cases hc1:c<0
      · have hE:(if (decide (ps.length=(need x).length)&&ps.all okP)=true∧0≤c∧c≤1000 then (0:Int) else 2)=2:=if_neg fun k=>by omega
        rw [if_pos (decide_eq_true hc1),hE]; rfl
      · rw [if_neg (by rw [decide_eq_true_eq]; exact hc1)]
        by_cases hc2:1000<c
        · have hE:(if (decide (ps.length=(need x).length)&&ps.all okP)=true∧0≤c∧c≤1000 then (0:Int) else 2)=2:=if_neg fun k=>by omega
          rw [if_pos (decide_eq_true hc2),hE]; rfl
        · rw [if_neg (by rw [decide_eq_true_eq]; exact hc2),decide_eq_true hl,Bool.true_and]
          obtain ⟨r,e,hr⟩:=scan2 (S:=Int) (R:=Sum Unit Int) ps (fun k s=>(ps.take k).all okP=true∧s=(ps.take k).sum∧0≤s∧s≤100*k) (fun r=>match r with|.inl _=>ps.all okP=false|.inr s=>ps.all okP=true∧s=ps.sum) (body:=linealref09_Prove_b1 ps) (s0:=0) ⟨by simp,by simp,by simp,by simp⟩
            (fun k v s hk hI=>by
              obtain ⟨hlt,hik⟩:=few_in (few_of (n:=48) (by omega)) hk
              have hbad:okP v=false→ps.all okP=false:=fun h=>by
                cases ha:ps.all okP with
                | false=>rfl
                | true=>rw [List.all_eq_true] at ha; rw [ha v (List.mem_of_getElem? hk)] at h; cases h
              unfold linealref09_Prove_b1
              dsimp only
              rw [Int.toNat_natCast,getD_of hk,if_pos (decide_eq_true (by omega)),ck_pos (by omega),ck_pos (by omega)]
              by_cases h1:v<0
              · rw [if_pos (decide_eq_true h1)]
                exact .inr ⟨_,rfl,hbad (by unfold okP; rw [decide_eq_false (show ¬ 0≤v by omega)]; rfl)⟩
              · rw [if_neg (by rw [decide_eq_true_eq]; exact h1)]
                by_cases h2:100<v
                · rw [if_pos (decide_eq_true h2)]
                  exact .inr ⟨_,rfl,hbad (by unfold okP; rw [decide_eq_false (show ¬ v<101 by omega),Bool.and_false])⟩
                · rw [if_neg (by rw [decide_eq_true_eq]; exact h2),ck_pos (by rw [inK_i64]; omega),ck_pos hik]
                  have hok:okP v=true:=by unfold okP; simp; omega
                  exact .inl ⟨_,rfl,by rw [take_one hk,List.all_append,hI.1]; simp [hok],by rw [take_one hk,List.sum_append,hI.2.1]; simp,by omega,by omega⟩)
            (fun s hI=>⟨.inr s,by unfold linealref09_Prove_b1; rw [if_neg (by simp)],by rw [List.take_length] at hI; exact ⟨hI.1,hI.2.1⟩⟩)
          rw [e,Option.bind_some]
          cases r with
          | inl u=>simp only at hr ⊢; rw [hr]; simp
          | inr s =>
            simp only at hr ⊢
            obtain ⟨hok,rfl⟩:=hr
            have hp:=okP_all hok
            have hE:(if true=true∧0≤c∧c≤1000 then (0:Int) else 2)=0:=if_pos ⟨rfl,by omega,by omega⟩
            rw [hok,hE,if_pos rfl]
            unfold linealref09_Prove_k1
            rw [AllFences_eq hv,Option.bind_some]
            rw [whileO_all (fens x) (fun f=>decide (drw f (need x) ps≤atC cs f)) (body:=linealref09_Prove_b2 cs ps (need x) (fens x)) (fun k f hk=>by
              obtain ⟨hlt,hik⟩:=few_in (few_of hfs) hk
              obtain ⟨g1,g2,g3,g4,g5,g6⟩:=atC_bnd hc (List.mem_of_getElem? hk)
              have inner:whileO (linealref09_Prove_b3 ps (need x) (fens x) (k:Int)) (0,0)=some (drw f (need x) ps):=by
                obtain ⟨r,e,hr⟩:=scan2 (S:=Int) (R:=Int) (need x) (fun j s=>s=drwN f (need x) ps j) (fun r=>r=drw f (need x) ps) (body:=linealref09_Prove_b3 ps (need x) (fens x) (k:Int)) (s0:=0) (by simp [drwN])
                  (fun j p s hj hI=>by
                    obtain ⟨hlt2,hik2⟩:=few_in (few_of (n:=48) hn) hj
                    have b1:=drwN_bnd (f:=f) (nd:=need x) hp j
                    have b2:=drwT_bnd (f:=f) (nd:=need x) hp j
                    have hs:=drwN_succ f (need x) ps j
                    unfold drwT at b2 hs
                    rw [getD_of hj] at b2 hs
                    unfold linealref09_Prove_b3
                    dsimp only
                    rw [Int.toNat_natCast,Int.toNat_natCast,getD_of hj,getD_of hk,if_pos (decide_eq_true (by omega)),ck_pos (by omega),ck_pos (by omega),refholds_eq,Option.bind_some]
                    cases hh:hldB f p with
                    | true =>
                      rw [hh,if_pos rfl] at b2 hs
                      rw [if_pos rfl,ck_pos (by omega),ck_pos (by omega),ck_pos (by rw [inK_i64]; omega),ck_pos hik2]
                      exact .inl ⟨_,rfl,by omega⟩
                    | false =>
                      rw [hh,if_neg (by simp)] at hs
                      rw [if_neg (by simp),ck_pos hik2]
                      exact .inl ⟨_,rfl,by omega⟩)
                  (fun s hI=>⟨s,by unfold linealref09_Prove_b3; rw [if_neg (by simp)],hI⟩)
                rw [e,hr]
              unfold linealref09_Prove_b2
              rw [if_pos (decide_eq_true (by omega)),ck_pos (by omega),ck_pos (by omega),inner,Option.bind_some]
              unfold linealref09_Prove_k4 linealref09_Prove_k3
              rw [Int.toNat_natCast,getD_of hk,ck_pos g1,ck_pos g2,ck_pos g3,ck_pos g4]
              show (if decide (atC cs f<drw f (need x) ps)=true then _ else _)=_
              by_cases e:drw f (need x) ps≤atC cs f
              · rw [if_neg (by rw [decide_eq_true_eq]; omega),ck_pos hik,if_pos (decide_eq_true e)]
              · rw [if_pos (decide_eq_true (by omega)),if_neg (by rw [decide_eq_true_eq]; exact e)]) (by unfold linealref09_Prove_b2; rw [if_neg (by simp)]),Option.bind_some]
            unfold prvB
            cases ha:((fens x).all fun f=>decide (drw f (need x) ps≤atC cs f)) with
            | true=>rw [if_pos rfl,Bool.and_true]; rfl
            | false=>rw [if_neg (by simp),Bool.and_false]
    · rw [if_pos (by simp; omega),decide_eq_false hl]; simp
  · rw [if_pos (by simp [h0]),if_neg h0,if_neg h0]
def sumZ {α:Type} (l:List α) (F:α→Int):Int:=(l.map F).sum
theorem sumZ_nil {α:Type} (F:α→Int):sumZ [] F=0:=rfl
theorem sumZ_cons {α:Type} (a:α) (l:List α) (F:α→Int):sumZ (a::l) F=F a+sumZ l F:=by simp [sumZ]
theorem sumZ_append {α:Type} (a b:List α) (F:α→Int):sumZ (a++b) F=sumZ a F+sumZ b F:=by simp [sumZ]
theorem sumZ_congr {α:Type} {l:List α} {F G:α→Int} (h:∀ a∈l,F a=G a):sumZ l F=sumZ l G:=by
  unfold sumZ; rw [List.map_congr_left h]
theorem sumZ_flat {α β:Type} (l:List α) (g:α→List β) (F:β→Int):sumZ (l.flatMap g) F=sumZ l (fun a=>sumZ (g a) F):=by
  induction l with
  | nil=>rfl
  | cons a l ih=>rw [List.flatMap_cons,sumZ_append,ih,sumZ_cons]
theorem sumZ_mono {α:Type} {l:List α} {F G:α→Int} (h:∀ a∈l,F a≤G a):sumZ l F≤sumZ l G:=by
  induction l with
  | nil=>exact Int.le_refl _
  | cons a l ih =>
    rw [sumZ_cons,sumZ_cons]
    have:=h a (by simp)
    have:=ih fun b hb=>h b (by simp [hb])
    omega
theorem sumZ_nonneg {α:Type} {l:List α} {F:α→Int} (h:∀ a∈l,0≤F a):0≤sumZ l F:=by
  induction l with
  | nil=>exact Int.le_refl _
  | cons a l ih =>
    rw [sumZ_cons]
    have:=h a (by simp)
    have:=ih fun b hb=>h b (by simp [hb])
    omega
def drwP (f:Fen) (nd:List Sta) (P:Sta→Int):Int:=sumZ nd fun p=>if hldB f p=true then P p else 0
def updP (P:Sta→Int) (p:Sta) (v:Int):Sta→Int:=fun q=>if q=p then v else P q
theorem range_getD {α:Type} (l:List α) (d:α):(List.range l.length).map (fun i=>l.getD i d)=l:=by
  refine List.ext_getElem? fun k=>?_
  rw [List.getElem?_map]
  by_cases h:k<l.length
  · rw [List.getElem?_range h,List.getElem?_eq_getElem h,Option.map_some,getD_of (List.getElem?_eq_getElem h)]
  · rw [List.getElem?_eq_none (by simp; omega),List.getElem?_eq_none (by omega)]; rfl
theorem drw_map (f:Fen) (nd:List Sta) (P:Sta→Int):drw f nd (nd.map P)=drwP f nd P:=by
  unfold drw drwN drwP sumZ
  have h:(List.range nd.length).map (drwT f nd (nd.map P))=((List.range nd.length).map fun i=>nd.getD i (0,0,0)).map fun p=>if hldB f p=true then P p else 0:=by
    rw [List.map_map]
    refine List.map_congr_left fun i hi=>?_
    unfold drwT
    simp only [Function.comp_apply]
    rw [getD_mapS (List.mem_range.1 hi) P 0 (0,0,0)]
  rw [h,range_getD]
theorem set_map {nd:List Sta} (hn:nd.Nodup) {P:Sta→Int} {k:Nat} {p:Sta} (hk:nd[k]?=some p) (v:Int):(nd.map P).set k v=nd.map (updP P p v):=by
  refine List.ext_getElem? fun j=>?_
  have hkl:=(List.getElem?_eq_some_iff.1 hk).1
  rw [List.getElem?_set,List.length_map,List.getElem?_map,List.getElem?_map]
  by_cases h:k=j
  · subst h
    rw [if_pos rfl,if_pos hkl,hk,Option.map_some]
    unfold updP
    rw [if_pos rfl]
  · rw [if_neg h]
    cases hj:nd[j]? with
    | none=>rfl
    | some q =>
      rw [Option.map_some,Option.map_some]
      unfold updP
      rw [if_neg fun e=>?_]
      subst e
      obtain ⟨h1,h2⟩:=List.getElem?_eq_some_iff.1 hk
      obtain ⟨g1,g2⟩:=List.getElem?_eq_some_iff.1 hj
      unfold List.Nodup at hn
      rw [List.pairwise_iff_getElem] at hn
      rcases Nat.lt_or_gt_of_ne h with c|c
      · exact hn _ _ h1 g1 c (h2.trans g2.symm)
      · exact hn _ _ g1 h1 c (g2.trans h2.symm)
theorem drwP_upd {f:Fen} {P:Sta→Int} {p:Sta} {v:Int}:∀ {nd:List Sta},nd.Nodup→p∈nd→drwP f nd (updP P p v)=drwP f nd P+(if hldB f p=true then v - P p else 0)
  | [],_,h=>by simp at h
  | q::nd,hn,h=>by
    have hn':=List.nodup_cons.1 hn
    unfold drwP
    rw [sumZ_cons,sumZ_cons]
    by_cases e:q=p
    · subst e
      have:sumZ nd (fun r=>if hldB f r=true then updP P q v r else 0)=sumZ nd fun r=>if hldB f r=true then P r else 0:=sumZ_congr fun r hr=>by
        have:r≠q:=fun c=>hn'.1 (c▸hr)
        unfold updP
        rw [if_neg this]
      rw [this]
      unfold updP
      rw [if_pos rfl]
      split<;>omega
    · have h2:p∈nd:=by
        rcases List.mem_cons.1 h with h|h
        · exact absurd h.symm e
        · exact h
      have ih:=drwP_upd (f:=f) (P:=P) (v:=v) hn'.2 h2
      unfold drwP at ih
      rw [ih]
      have:updP P p v q=P q:=by unfold updP; rw [if_neg e]
      rw [this]
      omega
def ltSB (q p:Sta):Bool:=decide (q.1<p.1) || (decide (q.1=p.1)&&(decide (q.2.1<p.2.1) || (decide (q.2.1=p.2.1)&&decide (q.2.2<p.2.2))))
theorem ltSB_iff {q p:Sta}:ltSB q p=true↔ltS q p:=by unfold ltSB ltS; simp
def befB (q p:Sta):Bool:=decide (q.2.2<p.2.2) || (decide (q.2.2=p.2.2)&&ltSB q p)
theorem befB_iff {q p:Sta}:befB q p=true↔q.2.2<p.2.2∨(q.2.2=p.2.2∧ltS q p):=by unfold befB; simp [ltSB_iff]
def bfS (f:Fen) (nd:List Sta) (P:Sta→Int) (p:Sta):Int:=sumZ nd fun q=>if (hldB f q&&befB q p)=true then P q else 0
def eqn (x:Acs) (cs:Cos) (nd:List Sta) (P:Sta→Int) (p:Sta):Prop:=(∀ f∈fens x,hldB f p=true→P p≤atC cs f - bfS f nd P p)∧∃ f∈fens x,hldB f p=true∧P p=atC cs f - bfS f nd P p
def dn (nd:List Sta) (e:Int) (k:Nat) (p:Sta):Prop:=p∈nd∧(p.2.2<e∨(p.2.2=e∧p∈nd.take k))
def prI (x:Acs) (cs:Cos) (nd:List Sta) (e:Int) (k:Nat) (P:Sta→Int):Prop :=
  (∀ p,0≤P p∧P p≤9)∧(∀ f∈fens x,drwP f nd P≤atC cs f)∧(∀ p,¬ dn nd e k p→P p=0)∧∀ p,dn nd e k p→eqn x cs nd P p
theorem ltS_asym {a b:Sta} (h:ltS a b):¬ ltS b a:=by unfold ltS at *; omega
theorem take_lt {nd:List Sta} (ha:nd.Pairwise ltS) {k:Nat} {p q:Sta} (hk:nd[k]?=some p) (hq:q∈nd):q∈nd.take k↔ltS q p:=by
  obtain ⟨h1,h2⟩:=List.getElem?_eq_some_iff.1 hk
  have hs:=List.take_append_drop k nd
  rw [drop_cons hk] at hs
  have ha':=ha
  rw [← hs,List.pairwise_append,List.pairwise_cons] at ha'
  constructor
  · intro h; exact ha'.2.2 q h p (by simp)
  · intro h
    rw [← hs] at hq
    rcases List.mem_append.1 hq with c|c
    · exact c
    · rcases List.mem_cons.1 c with c|c
      · subst c; exact absurd h (ltS_asym h)
      · exact absurd h (ltS_asym (ha'.2.1.1 q c))
theorem prI_step {x:Acs} {cs:Cos} {nd:List Sta} (hnd:nd.Nodup) (ha:nd.Pairwise ltS) {e:Int} {k:Nat} {P:Sta→Int} {p:Sta} (hk:nd[k]?=some p) (he:p.2.2=e) (h:prI x cs nd e k P) {v:Int} (hv0:0≤v) (hv9:v≤9)
    (h1:∀ f∈fens x,hldB f p=true→v≤atC cs f - drwP f nd P) (h2:∃ f∈fens x,hldB f p=true∧v=atC cs f - drwP f nd P):prI x cs nd e (k+1) (updP P p v):=by
  obtain ⟨i1,i2,i3,i4⟩:=h
  have hp:p∈nd:=List.mem_of_getElem? hk
  have hself:¬ ltS p p:=fun c=>ltS_asym c c
  have hpd:¬ dn nd e k p:=by
    rintro ⟨_,c|⟨_,c⟩⟩
    · omega
    · exact hself ((take_lt ha hk hp).1 c)
  have hp0:=i3 p hpd
  have hS:∀ f,bfS f nd P p=drwP f nd P:=fun f=>sumZ_congr fun q hq=>by
    by_cases hb:befB q p=true
    · rw [hb,Bool.and_true]
    · have:P q=0:=i3 q (by
        rintro ⟨_,c|⟨c1,c⟩⟩
        · exact hb (befB_iff.2 (.inl (by omega)))
        · exact hb (befB_iff.2 (.inr ⟨by omega,(take_lt ha hk hq).1 c⟩)))
      rw [this]; simp
  have hSu:∀ f q,(q=p∨dn nd e k q)→bfS f nd (updP P p v) q=bfS f nd P q:=fun f q hq=>sumZ_congr fun r hr=>by
    by_cases e2:r=p
    · subst e2
      have:befB r q=false:=by
        cases hb:befB r q with
        | false=>rfl
        | true =>
          exfalso
          rw [befB_iff] at hb
          rcases hq with rfl|⟨hq1,c|⟨c1,c⟩⟩
          · rcases hb with hb|hb
            · omega
            · exact hself hb.2
          · omega
          · rcases hb with hb|hb
            · omega
            · exact ltS_asym hb.2 ((take_lt ha hk hq1).1 c)
      rw [this]; simp
    · unfold updP; rw [if_neg e2]
  refine ⟨fun q=>?_,fun f hf=>?_,fun q hq=>?_,fun q hq=>?_⟩
  · unfold updP; split
    · exact ⟨hv0,hv9⟩
    · exact i1 q
  · rw [drwP_upd hnd hp,hp0]
    have:=i2 f hf
    by_cases hh:hldB f p=true
    · rw [if_pos hh]; have:=h1 f hf hh; omega
    · rw [if_neg hh]; omega
  · have hne:q≠p:=fun c=>hq (by subst c; exact ⟨hp,.inr ⟨he,by rw [take_one hk]; simp⟩⟩)
    unfold updP
    rw [if_neg hne]
    refine i3 q fun c=>hq ⟨c.1,c.2.imp id fun d=>⟨d.1,?_⟩⟩
    rw [take_one hk]; exact List.mem_append_left _ d.2
  · by_cases e2:q=p
    · subst e2
      have hu:updP P q v q=v:=by unfold updP; rw [if_pos rfl]
      unfold eqn
      rw [hu]
      refine ⟨fun f hf hh=>?_,?_⟩
      · rw [hSu f q (.inl rfl),hS]; exact h1 f hf hh
      · obtain ⟨f,hf,hh,hv⟩:=h2
        exact ⟨f,hf,hh,by rw [hSu f q (.inl rfl),hS]; exact hv⟩
    · have hq':dn nd e k q:=by
        refine ⟨hq.1,hq.2.imp id fun d=>⟨d.1,?_⟩⟩
        have:=d.2
        rw [take_one hk] at this
        rcases List.mem_append.1 this with c|c
        · exact c
        · exact absurd (List.mem_singleton.1 c) e2
      have hu:updP P p v q=P q:=by unfold updP; rw [if_neg e2]
      obtain ⟨j1,f,hf,hh,j2⟩:=i4 q hq'
      unfold eqn
      rw [hu]
      refine ⟨fun g hg hh=>?_,f,hf,hh,?_⟩
      · rw [hSu g q (.inr hq')]; exact j1 g hg hh
      · rw [hSu f q (.inr hq')]; exact j2
theorem prI_dn {x:Acs} {cs:Cos} {nd:List Sta} {e e':Int} {k k':Nat} {P:Sta→Int} (hd:∀ p,dn nd e k p↔dn nd e' k' p) (h:prI x cs nd e k P):prI x cs nd e' k' P :=
  ⟨h.1,h.2.1,fun p hp=>h.2.2.1 p fun c=>hp ((hd p).1 c),fun p hp=>h.2.2.2 p ((hd p).2 hp)⟩
theorem pr_hold {x:Acs} {p:Sta} (hp:isPr x p=true):∃ f∈fens x,hldB f p=true:=by
  unfold isPr at hp
  simp only [Bool.and_eq_true,decide_eq_true_eq,hasA_iff] at hp
  obtain ⟨⟨a1,a2,a3,a4⟩,⟨_,_,b3,b4⟩,h3,_⟩:=hp
  refine ⟨(p.1,p.2.1),mem_fens.2 ⟨a1,a2,a3,by simp only; omega⟩,?_⟩
  unfold hldB
  simp only [Bool.and_eq_true,decide_eq_true_eq]
  exact ⟨trivial,by omega,h3⟩
theorem most_eq {x:Acs} (hv:vld x=true) {cs:Cos} (hc:areC x cs=true) {nd:List Sta} (hn:nd.length≤48) {P:Sta→Int} (hP:∀ p,0≤P p∧P p≤9) (hfe:∀ f∈fens x,drwP f nd P≤atC cs f) (h0:∀ f,0≤drwP f nd P) {p:Sta} (hp:isPr x p=true) :
    ∃ v,delay_offer_most (x,nd,cs) p (nd.map P)=some v∧0≤v∧v≤9∧(∀ f∈fens x,hldB f p=true→v≤atC cs f - drwP f nd P)∧∃ f∈fens x,hldB f p=true∧v=atC cs f - drwP f nd P:=by
  have hfs:=fens_len hv
  unfold delay_offer_most
  dsimp only
  rw [fences_eq hv,Option.bind_some]
  obtain ⟨r,e,hr⟩:=scan2 (S:=Int) (R:=Int) (fens x) (fun k m=>0≤m∧m≤9∧(∀ f∈(fens x).take k,hldB f p=true→m≤atC cs f - drwP f nd P)∧(m=9∨∃ f∈fens x,hldB f p=true∧m=atC cs f - drwP f nd P))
    (fun v=>0≤v∧v≤9∧(∀ f∈fens x,hldB f p=true→v≤atC cs f - drwP f nd P)∧∃ f∈fens x,hldB f p=true∧v=atC cs f - drwP f nd P) (body:=delay_offer_most_b1 (x,nd,cs) p (nd.map P) (fens x)) (s0:=9) ⟨by omega,by omega,by simp,.inl rfl⟩
    (fun k f m hk hI=>by
      obtain ⟨hlt,hik⟩:=few_in (few_of (n:=9) hfs) hk
      have hf:=List.mem_of_getElem? hk
      obtain ⟨j1,j2,j3,j4⟩:=hI
      unfold delay_offer_most_b1
      dsimp only
      rw [Int.toNat_natCast,getD_of hk,if_pos (decide_eq_true (by omega)),ck_pos (by omega),ck_pos (by omega),holds_eq,Option.bind_some]
      cases hh:hldB f p with
      | false =>
        rw [if_neg (by simp),ck_pos hik]
        refine .inl ⟨_,rfl,j1,j2,fun g hg hgh=>?_,j4⟩
        rw [take_one hk] at hg
        rcases List.mem_append.1 hg with hg|hg
        · exact j3 g hg hgh
        · rw [List.mem_singleton] at hg; subst hg; rw [hh] at hgh; cases hgh
      | true =>
        have hle:=hfe f hf
        have hle0:=h0 f
        rw [if_pos rfl,left_eq hc hn (by simp) (fun v hv=>by obtain ⟨q,_,rfl⟩:=List.mem_map.1 hv; have:=hP q; omega) hf,Option.bind_some,ck_pos hik,drw_map]
        refine .inl ⟨_,rfl,by omega,by omega,fun g hg hgh=>?_,?_⟩
        · rw [take_one hk] at hg
          rcases List.mem_append.1 hg with hg|hg
          · have:=j3 g hg hgh; omega
          · rw [List.mem_singleton] at hg; subst hg; omega
        · by_cases c:m≤atC cs f - drwP f nd P
          · have:min m (atC cs f - drwP f nd P)=m:=by omega
            rw [this]; exact j4
          · exact .inr ⟨f,hf,hh,by omega⟩)
    (fun m hI=>⟨m,by unfold delay_offer_most_b1; rw [if_neg (by simp)],hI.1,hI.2.1,by have:=hI.2.2.1; rw [List.take_length] at this; exact this,by
      rcases hI.2.2.2 with c|c
      · obtain ⟨f,hf,hh⟩:=pr_hold hp
        have h3:=hI.2.2.1
        rw [List.take_length] at h3
        have:=h3 f hf hh
        have:=h0 f
        have:=(atC_bnd hc hf).2.2.2.2.2
        exact ⟨f,hf,hh,by omega⟩
      · exact c⟩)
  rw [e,Option.bind_some]
  exact ⟨r,rfl,hr⟩
theorem dn_end {nd:List Sta} (e:Int) (p:Sta):dn nd e nd.length p↔dn nd (e+1) 0 p:=by
  unfold dn
  rw [List.take_length,List.take_zero]
  simp only [List.not_mem_nil,and_false,or_false]
  constructor
  · rintro ⟨h,c|c⟩<;>exact ⟨h,by omega⟩
  · rintro ⟨h,c⟩
    refine ⟨h,?_⟩
    by_cases c2:p.2.2<e
    · exact .inl c2
    · exact .inr ⟨by omega,h⟩
theorem prices_eq {x:Acs} (hv:vld x=true) {cs:Cos} (hc:areC x cs=true):∃ P,delay_offer_prices (x,need x,cs)=some ((need x).map P)∧prI x cs (need x) 4 0 P:=by
  have hn:=need_len hv
  have hnd:=need_nodup x
  have ha:=need_asc x
  have hpr:∀ p∈need x,isPr x p=true:=fun p hp=>(mem_need.1 hp).1
  generalize need x=nd at hn hnd ha hpr
  unfold delay_offer_prices
  dsimp only
  rw [ck_pos (by omega)]
  obtain ⟨r,e,hr⟩:=scan2 (S:=List Int) (R:=List Int) (List.range 4) (fun k ps=>∃ P,ps=nd.map P∧prI x cs nd (k:Int) 0 P) (fun ps=>∃ P,ps=nd.map P∧prI x cs nd 4 0 P) (body:=delay_offer_prices_b1 (x,nd,cs)) (s0:=List.replicate nd.length (0:Int))
    ⟨fun _=>0,by rw [List.map_const'],fun p=>⟨Int.le_refl _,by simp⟩,fun f hf=>by
      have:drwP f nd (fun _=>0)=0:=by
        unfold drwP
        rw [sumZ_congr (G:=fun _=>0) fun q _=>by simp]
        unfold sumZ
        rw [List.map_const']
        simp
      rw [this]
      have:=(atC_bnd hc hf).2.2.2.2; omega,fun p _=>rfl,fun p hp=>by
      obtain ⟨h1,h2|h2⟩:=hp
      · have h3:=hpr p h1
        unfold isPr at h3
        simp only [Bool.and_eq_true,hasA_iff] at h3
        have:=h3.2.1.2.2.1
        omega
      · simp at h2⟩
    (fun k y ps hk hI=>by
      have hlt:k<4:=by have:=(List.getElem?_eq_some_iff.1 hk).1; simpa using this
      obtain ⟨P,rfl,hP⟩:=hI
      unfold delay_offer_prices_b1
      dsimp only
      rw [if_pos (decide_eq_true (by omega))]
      obtain ⟨r2,e2,P2,hr2,hP2⟩:=scan2 (S:=List Int) (R:=List Int) nd (fun j ps=>∃ P,ps=nd.map P∧prI x cs nd (k:Int) j P) (fun ps=>∃ P,ps=nd.map P∧prI x cs nd ((k+1:Nat):Int) 0 P) (body:=delay_offer_prices_b2 (x,nd,cs) (nd.map P,(k:Int))) (s0:=nd.map P) ⟨P,rfl,hP⟩
        (fun j p ps hj hI=>by
          obtain ⟨hlt2,hik⟩:=few_in (few_of (n:=48) hn) hj
          have hp:=List.mem_of_getElem? hj
          obtain ⟨Q,rfl,hQ⟩:=hI
          unfold delay_offer_prices_b2
          dsimp only
          rw [Int.toNat_natCast,getD_of hj,if_pos (decide_eq_true (by omega)),ck_pos (by omega),ck_pos (by omega)]
          by_cases he:p.2.2=(k:Int)
          · obtain ⟨v,hv1,hv2,hv3,hv4,hv5⟩:=most_eq hv hc hn hQ.1 hQ.2.1 (fun f=>sumZ_nonneg fun q _=>by split; exact (hQ.1 q).1; exact Int.le_refl _) (hpr p hp)
            rw [if_pos (decide_eq_true he),hv1,Option.bind_some,ck_pos (by omega),ck_pos (by rw [List.length_map]; omega),ck_pos hik]
            exact .inl ⟨_,rfl,updP Q p v,set_map hnd hj v,prI_step hnd ha hj he hQ hv2 hv3 hv4 hv5⟩
          · rw [if_neg (by rw [decide_eq_true_eq]; exact he),ck_pos hik]
            refine .inl ⟨_,rfl,Q,rfl,prI_dn (fun q=>?_) hQ⟩
            unfold dn
            rw [take_one hj]
            constructor
            · rintro ⟨h1,h2|⟨h2,h3⟩⟩
              · exact ⟨h1,.inl h2⟩
              · exact ⟨h1,.inr ⟨h2,List.mem_append_left _ h3⟩⟩
            · rintro ⟨h1,h2|⟨h2,h3⟩⟩
              · exact ⟨h1,.inl h2⟩
              · rcases List.mem_append.1 h3 with h3|h3
                · exact ⟨h1,.inr ⟨h2,h3⟩⟩
                · rw [List.mem_singleton] at h3; subst h3; exact absurd h2 he)
        (fun ps hI=>⟨ps,by unfold delay_offer_prices_b2; rw [if_neg (by simp)],by
          obtain ⟨Q,rfl,hQ⟩:=hI
          exact ⟨Q,rfl,prI_dn (fun q=>by rw [dn_end]; simp) hQ⟩⟩)
      rw [e2,Option.bind_some]
      unfold delay_offer_prices_k2
      dsimp only
      rw [ck_pos (inK_nat20 (by omega))]
      exact .inl ⟨_,rfl,P2,hr2,hP2⟩)
    (fun ps hI=>⟨ps,by unfold delay_offer_prices_b1; rw [if_neg (by simp)],by simpa using hI⟩)
  obtain ⟨P,rfl,hP⟩:=hr
  rw [e,Option.bind_some]
  exact ⟨P,rfl,hP⟩
end Go.Proofs.Ytdicomoggfhbfaa
