import Derived.Test.YtenchhmcjmjlbaaCkp
import Derived.Test.YtenchhmcjmjlbaaGh
namespace Go.Proofs.Ytenchhmcjmjlbaa
open Go.RowKit
set_option linter.unusedVariables false
set_option linter.unusedSimpArgs false
set_option maxRecDepth 10000
abbrev HC6:=Int×Int×Int×Int×Int×Int
theorem hwithin_eq (n a b:Int):history_within n a b=some (decide (a≤n)&&decide (n≤b)):=by
  unfold history_within
  by_cases h:a≤n<;>simp [h]
def bef (c d:HC6):Bool:=!decide (c.2.2.2.2.2=0)&&decide (c.2.2.2.2.2<d.2.2.2.2.1)
theorem before_eq (c d:HC6):history_before c d=some (bef c d):=by
  unfold history_before bef
  by_cases h:c.2.2.2.2.2=0<;>simp [h]
def apartC (c d:HC6):Bool:=!decide (c.2.2.2.2.1=d.2.2.2.2.1)&&!decide (c.2.2.2.2.1=d.2.2.2.2.2)&&!decide (c.2.2.2.2.2=d.2.2.2.2.1)&&!(!decide (c.2.2.2.2.2=0)&&decide (c.2.2.2.2.2=d.2.2.2.2.2))&&(!decide (c.1=d.1) || bef c d || bef d c)
theorem apart_k1 (c d:HC6):history_apart_k1 c d=some (!decide (c.1=d.1) || bef c d || bef d c):=by
  unfold history_apart_k1
  rw [before_eq,Option.bind_some,before_eq,Option.bind_some]
  by_cases h:c.1=d.1<;>simp [h]
  cases bef c d<;>simp
theorem apart_eq (c d:HC6):history_apart c d=some (apartC c d):=by
  unfold history_apart apartC
  rw [apart_k1]
  generalize (!decide (c.1=d.1) || bef c d || bef d c)=X
  cases decide (c.2.2.2.2.1=d.2.2.2.2.1)<;>cases decide (c.2.2.2.2.1=d.2.2.2.2.2)<;>cases decide (c.2.2.2.2.2=d.2.2.2.2.1)<;>cases decide (c.2.2.2.2.2=d.2.2.2.2.2)<;>cases decide (c.2.2.2.2.2=0)<;>simp
def inB (a n b:Int):Bool:=decide (a≤n)&&decide (n≤b)
def okC (c:HC6):Bool:=inB 0 c.1 3&&inB 0 c.2.1 1&&inB 0 c.2.2.1 3&&inB 0 c.2.2.2.1 9&&inB 1 c.2.2.2.2.1 100&&((decide (c.2.2.2.2.2=0)&&decide (c.2.2.2.1=0)) || (decide (c.2.2.2.2.1<c.2.2.2.2.2)&&decide (c.2.2.2.2.2≤100)))
theorem isCall_k2 (c:HC6) (b1 b2:Bool):history_isCall_k2 c b1 b2=some (inB 0 c.1 3&&inB 0 c.2.1 1&&inB 0 c.2.2.1 3&&inB 0 c.2.2.2.1 9&&inB 1 c.2.2.2.2.1 100&&(b1 || b2)):=by
  unfold history_isCall_k2
  simp only [hwithin_eq,Option.bind_some]
  unfold inB
  cases (decide (0≤c.1)&&decide (c.1≤3))<;>cases (decide (0≤c.2.1)&&decide (c.2.1≤1))<;>cases (decide (0≤c.2.2.1)&&decide (c.2.2.1≤3))<;>cases (decide (0≤c.2.2.2.1)&&decide (c.2.2.2.1≤9))<;>cases (decide (1≤c.2.2.2.2.1)&&decide (c.2.2.2.2.1≤100))<;>cases b1<;>rfl
theorem hisCall_eq (c:HC6):history_isCall c=some (okC c):=by
  unfold history_isCall history_isCall_k1 okC
  simp only [isCall_k2]
  cases decide (c.2.2.2.2.2=0)<;>cases decide (c.2.2.2.2.1<c.2.2.2.2.2)<;>simp
def okAt (h:List HC6) (k:Nat):Bool:=okC (h.getD k (0,0,0,0,0,0))&&allB k fun j=>apartC (h.getD k (0,0,0,0,0,0)) (h.getD j (0,0,0,0,0,0))
def okH (h:List HC6):Bool:=decide (h.length≤8)&&allB h.length (okAt h)
theorem HValid_eq (h:List HC6):history_Valid h=some (okH h):=by
  unfold history_Valid okH
  by_cases hl:h.length≤8
  · rw [if_neg (by simp; omega),loopB (body:=history_Valid_b1 h) h.length (okAt h) (fun k hk=>?_) (by unfold history_Valid_b1; rw [if_neg (by simp)]),Option.bind_some]
    · cases hh:allB h.length (okAt h)<;>simp [hl,history_Valid_k1]
    · unfold history_Valid_b1 okAt
      rw [if_pos (by simpa using hk),ck_pos (by simp),ck_pos (by omega),Int.toNat_natCast,hisCall_eq,Option.bind_some]
      cases hc:okC (h.getD k (0,0,0,0,0,0)) with
      | false=>simp
      | true =>
        simp only [Bool.not_true,Bool.false_eq_true,if_false,Bool.true_and]
        rw [ck_pos (by simp),ck_pos (by omega),loopB (body:=history_Valid_b2 h (k:Int)) k (fun j=>apartC (h.getD k (0,0,0,0,0,0)) (h.getD j (0,0,0,0,0,0))) (fun j hj=>?_) (by unfold history_Valid_b2; rw [if_neg (by simp; omega)]),Option.bind_some]
        · cases allB k (fun j=>apartC (h.getD k (0,0,0,0,0,0)) (h.getD j (0,0,0,0,0,0))) with
          | false=>rfl
          | true=>simp only [if_true]; unfold history_Valid_k2; rw [ck_pos (inK_small (by omega))]
        · unfold history_Valid_b2
          rw [if_pos (by simp; omega),ck_pos (by simp),ck_pos (by simp; omega),Int.toNat_natCast,Int.toNat_natCast,getD_take hj,apart_eq,Option.bind_some]
          cases apartC (h.getD k (0,0,0,0,0,0)) (h.getD j (0,0,0,0,0,0)) with
          | false=>rfl
          | true=>simp only [Bool.not_true,Bool.false_eq_true,if_false,if_true]; rw [ck_pos (inK_small (by omega))]
  · rw [if_pos (by simp; omega)]; simp [hl]
theorem check_eq (h:List HC6) (b:Bool):history_check h b=some (if okH h=true then (if b=true then 0 else 2) else 20):=by
  unfold history_check
  rw [HValid_eq,Option.bind_some]
  cases okH h<;>cases b<;>rfl
theorem flat_loop (g:HC6→List HC6) (hg:∀ c,(g c).length≤1) (h:List HC6) (hl:h.length≤1000) {body:List HC6×Int→Option (Step (List HC6×Int) (List HC6))}
    (hb:∀ (k:Nat) (x:HC6) (s:List HC6),h[k]?=some x→s.length≤1000→k<h.length→InK .i64 ((k:Int)+1)→body (s,(k:Int))=some (.next (s++g x,(k:Int)+1))) (hd:∀ s,body (s,(h.length:Int))=some (.done s)):whileO body ([],0)=some (h.flatMap g):=by
  have hfl:∀ l:List HC6,(l.flatMap g).length≤l.length:=by
    intro l
    induction l with
    | nil=>simp
    | cons a r ih=>have:=hg a; simp only [List.flatMap_cons,List.length_append,List.length_cons]; omega
  obtain ⟨r,er,hr⟩:=scan2 (R:=List HC6) h (fun k (s:List HC6)=>s=(h.take k).flatMap g) (fun r=>r=h.flatMap g) (body:=body) (s0:=[]) (by simp) (fun k x s hk hI=>by
    obtain ⟨hlt,hin⟩:=few_in (few_of hl) hk
    have hsl:s.length≤1000:=by rw [hI]; have:=hfl (h.take k); rw [List.length_take] at this; omega
    refine .inl ⟨_,hb k x s hk hsl hlt hin,?_⟩
    rw [take_one hk,List.flatMap_append,hI]; simp) (fun s hI=>⟨_,hd s,by rw [hI,List.take_length]⟩)
  rw [er,hr]
def keepIf (p:HC6→Bool) (c:HC6):List HC6:=if p c=true then [c] else []
theorem keepIf_len (p:HC6→Bool) (c:HC6):(keepIf p c).length≤1:=by unfold keepIf; split<;>simp
theorem flat_keep (p:HC6→Bool):∀ h:List HC6,h.flatMap (keepIf p)=h.filter p
  | []=>rfl
  | c::r=>by
    rw [List.flatMap_cons,flat_keep p r,List.filter_cons]
    unfold keepIf
    cases p c<;>rfl
def begun (m:Int) (c:HC6):Bool:=decide (c.2.2.2.2.1≤m)
def cut (m:Int) (c:HC6):HC6:=if m<c.2.2.2.2.2 then (c.1,c.2.1,c.2.2.1,0,c.2.2.2.2.1,0) else c
theorem those4_eq (h:List HC6) (n:Int) (hl:h.length≤1000):history_those h n=some (h.filter (begun n)):=by
  unfold history_those
  rw [flat_loop (keepIf (begun n)) (keepIf_len _) h hl (fun k x s hk hs hlt hin=>?_) (fun s=>by unfold history_those_b1; rw [if_neg (by simp)]),flat_keep]; rfl
  unfold history_those_b1 keepIf begun
  simp only
  rw [if_pos (by simpa using hlt),ck_pos (by simp),ck_pos (by simpa using hlt),Int.toNat_natCast,getD_of hk]
  show (some ()).bind _=_
  rw [Option.bind_some]
  cases decide (x.2.2.2.2.1≤n) with
  | true=>simp only [if_true]; rw [ck_pos (by omega),ck_pos hin]
  | false=>simp only [Bool.false_eq_true,if_false,List.append_nil]; rw [ck_pos hin]
theorem getD_len {α:Type} (p:List α) (a d:α) (s:List α):(p++a::s).getD p.length d=a:=by
  rw [List.getD_eq_getElem?_getD,List.getElem?_append_right (by omega),Nat.sub_self]; rfl
theorem set_len {α:Type} (p:List α) (a b:α) (s:List α):(p++a::s).set p.length b=p++b::s:=by
  rw [List.set_append_right _ _ (by omega),Nat.sub_self]; rfl
theorem until_loop (m:Int) (v:List HC6) (hl:v.length≤1000):whileO (history_Until_1_b1 m v) (v,0)=some (v.map (cut m)):=by
  obtain ⟨r,er,hr⟩:=scan2 (R:=List HC6) v (fun k (s:List HC6)=>s=(v.take k).map (cut m)++v.drop k) (fun r=>r=v.map (cut m)) (body:=history_Until_1_b1 m v) (s0:=v) (by simp) (fun k x s hk hI=>by
    obtain ⟨hlt,hin⟩:=few_in (few_of hl) hk
    have hdv:v.drop k=x::v.drop (k+1):=by
      rw [List.drop_eq_getElem_cons hlt]
      congr 1
      exact (List.getElem?_eq_some_iff.1 hk).2
    rw [hdv] at hI
    have hpl:((v.take k).map (cut m)).length=k:=by simp; omega
    have hg:s.getD k (0,0,0,0,0,0)=x:=by
      have:=getD_len ((v.take k).map (cut m)) x (0,0,0,0,0,0) (v.drop (k+1))
      rw [hpl,← hI] at this
      exact this
    have hset:∀ b,s.set k b=(v.take k).map (cut m)++b::v.drop (k+1):=fun b=>by
      have:=set_len ((v.take k).map (cut m)) x b (v.drop (k+1))
      rw [hpl,← hI] at this
      exact this
    have hset2:∀ b c,(s.set k b).set k c=(v.take k).map (cut m)++c::v.drop (k+1):=fun b c=>by
      rw [hset]
      have:=set_len ((v.take k).map (cut m)) b c (v.drop (k+1))
      rw [hpl] at this
      exact this
    have hgs:∀ b,(s.set k b).getD k (0,0,0,0,0,0)=b:=fun b=>by
      rw [hset]
      have:=getD_len ((v.take k).map (cut m)) b (0,0,0,0,0,0) (v.drop (k+1))
      rw [hpl] at this
      exact this
    have hsl:s.length=v.length:=by rw [hI]; simp; omega
    have htk:(v.take (k+1)).map (cut m)++v.drop (k+1)=(v.take k).map (cut m)++cut m x::v.drop (k+1):=by rw [take_one hk]; simp
    refine .inl ⟨(v.take k).map (cut m)++cut m x::v.drop (k+1),?_,htk.symm⟩
    unfold history_Until_1_b1
    simp only [Int.toNat_natCast,hg]
    rw [if_pos (by simpa using hlt),ck_pos (by simp),ck_pos (by omega)]
    by_cases h1:m<x.2.2.2.2.2
    · rw [if_pos (by simpa using h1),ck_pos (by simp),ck_pos (by omega),ck_pos (by simp),ck_pos (by rw [List.length_set]; omega),ck_pos hin,hset2,hgs]
      unfold cut; rw [if_pos h1]
    · rw [if_neg (by simpa using h1),ck_pos hin]
      unfold cut; rw [if_neg h1,hI]; rfl) (fun s hI=>by
    rw [List.take_length,List.drop_length,List.append_nil] at hI
    unfold history_Until_1_b1
    rw [if_neg (by simp)]
    exact ⟨_,rfl,hI⟩)
  rw [er,hr]
def untilA (h:List HC6) (m:Int):List HC6:=(h.filter (begun m)).map (cut m)
theorem Until_eq (h:List HC6) (m:Int) (hl:h.length≤1000):history_Until h m=some (if okH h=true then (if inB 0 m 100=true then (untilA h m,0) else ([],2)) else ([],20)):=by
  unfold history_Until
  rw [hwithin_eq,Option.bind_some,check_eq,Option.bind_some]
  unfold history_told history_Until_1
  rw [those4_eq h m hl,Option.bind_some,until_loop m _ (Nat.le_trans (List.length_filter_le _ _) hl)]
  show _=some (if okH h=true then (if (decide (0≤m)&&decide (m≤100))=true then _ else _) else _)
  cases okH h<;>cases (decide (0≤m)&&decide (m≤100))<;>rfl
def isThr (n:Int) (c:HC6):Bool:=decide (c.1=n)
theorem those2_eq (h:List HC6) (n:Int) (hl:h.length≤1000):history_those_2 h n=some (h.filter (isThr n)):=by
  unfold history_those_2
  rw [flat_loop (keepIf (isThr n)) (keepIf_len _) h hl (fun k x s hk hs hlt hin=>?_) (fun s=>by unfold history_those_2_b1; rw [if_neg (by simp)]),flat_keep]; rfl
  unfold history_those_2_b1 keepIf isThr
  simp only
  rw [if_pos (by simpa using hlt),ck_pos (by simp),ck_pos (by simpa using hlt),Int.toNat_natCast,getD_of hk]
  show (some ()).bind _=_
  rw [Option.bind_some]
  cases decide (x.1=n) with
  | true=>simp only [if_true]; rw [ck_pos (by omega),ck_pos hin]
  | false=>simp only [Bool.false_eq_true,if_false,List.append_nil]; rw [ck_pos hin]
theorem By_eq (h:List HC6) (n:Int) (hl:h.length≤1000):history_By h n=some (if okH h=true then (if inB 0 n 3=true then (h.filter (isThr n),0) else ([],2)) else ([],20)):=by
  unfold history_By
  rw [hwithin_eq,Option.bind_some,check_eq,Option.bind_some]
  unfold history_told_2 history_By_1
  rw [those2_eq h n hl]
  show _=some (if okH h=true then (if (decide (0≤n)&&decide (n≤3))=true then _ else _) else _)
  cases okH h<;>cases (decide (0≤n)&&decide (n≤3))<;>rfl
end Go.Proofs.Ytenchhmcjmjlbaa
