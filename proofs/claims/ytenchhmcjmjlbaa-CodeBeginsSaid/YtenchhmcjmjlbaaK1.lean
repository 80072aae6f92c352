import Derived.Test.YtenchhmcjmjlbaaCkp
import Derived.Test.YtenchhmcjmjlbaaPk
import Derived.Test.YtenchhmcjmjlbaaGn
namespace Go.Proofs.Ytenchhmcjmjlbaa
open Go.RowKit
set_option linter.unusedVariables false
set_option linter.unusedSimpArgs false
abbrev Ln:Type:=Int×Int×Int×Int
abbrev Cd:Type:=List (List Ln)
abbrev Us:Type:=List (List Int)
def rB (a n:Int):Bool:=decide (0≤a)&&decide (a<n)
theorem rB_iff {a n:Int}:rB a n=true↔0≤a∧a<n:=by unfold rB; simp
def okL (l:Ln) (n:Int):Bool :=
  if l.1=1 then rB l.2.1 4&&(rB l.2.2.1 3&&decide (l.2.2.2=0))
  else if l.1=2 then rB l.2.1 3&&(rB l.2.2.1 4&&decide (l.2.2.2=0))
  else if l.1=3 then rB l.2.1 3&&(rB l.2.2.1 4&&rB l.2.2.2 4)
  else if l.1=4 then rB l.2.1 4&&(rB l.2.2.1 10&&decide (l.2.2.2=0))
  else if l.1=5 then rB l.2.1 4&&(rB l.2.2.1 4&&rB l.2.2.2 4)
  else if l.1=6 then rB l.2.1 4&&(rB l.2.2.1 n&&decide (l.2.2.2=0))
  else if l.1=7 then rB l.2.1 4&&(decide (l.2.2.1=0)&&decide (l.2.2.2=0))
  else false
def fitLn (l:Ln):Prop:=InK .i64 l.1∧InK .i64 l.2.1∧InK .i64 l.2.2.1∧InK .i64 l.2.2.2
theorem isBelow_eq (a n:Int):code_isBelow a n=some (rB a n):=by
  unfold code_isBelow rB
  by_cases h:0≤a
  · rw [if_pos (decide_eq_true h)]; simp [h]
  · rw [if_neg (by simp [h])]; simp [h]
theorem isReg_eq (a:Int):code_isRegister a=some (rB a 4):=by unfold code_isRegister; rw [isBelow_eq]; rfl
theorem isCel_eq (a:Int):code_isCell a=some (rB a 3):=by unfold code_isCell; rw [isBelow_eq]; rfl
theorem within_eq (lo n hi:Int):linealref08_within lo n hi=some (decide (lo≤n)&&decide (n≤hi)):=by
  unfold linealref08_within
  by_cases h:lo≤n
  · rw [if_pos (decide_eq_true h)]; simp [h]
  · rw [if_neg (by simp [h])]; simp [h]
theorem within_rB (n m:Int):linealref08_within 0 n (m - 1)=some (rB n m):=by
  rw [within_eq]
  congr 1
  unfold rB
  congr 1
  exact decide_eq_decide.2 (by omega)
theorem rReg_eq (a:Int):linealref08_isRegister a=some (rB a 4):=by unfold linealref08_isRegister; rw [show (3:Int)=4 - 1 from rfl,within_rB]; rfl
theorem rCel_eq (a:Int):linealref08_isCell a=some (rB a 3):=by unfold linealref08_isCell; rw [show (2:Int)=3 - 1 from rfl,within_rB]; rfl
theorem rNum_eq (a:Int):linealref08_isNumber a=some (rB a 10):=by unfold linealref08_isNumber; rw [show (9:Int)=10 - 1 from rfl,within_rB]; rfl
theorem isLine_eq {l:Ln} (hf:fitLn l) (n:Int):code_isLine l n=some (okL l n):=by
  obtain ⟨d,a,b,c⟩:=l
  obtain ⟨f1,f2,f3,f4⟩:=hf
  simp only at f1 f2 f3 f4
  have f0:InK .i64 0:=by rw [inK_i64]; omega
  unfold code_isLine
  have hb:code_bare (d,a,b,c)=some (if d=3∨d=5 then (b,c) else if d=7 then (0,0) else (b,0)):=by
    unfold code_bare
    simp only
    by_cases h3:d=3
    · subst h3; rfl
    · by_cases h5:d=5
      · subst h5; rfl
      · by_cases h7:d=7
        · subst h7; rfl
        · simp [h3,h5,h7]
  rw [hb,Option.bind_some]
  have g1:InK .i64 (if d=3∨d=5 then (b,c) else if d=7 then ((0:Int),(0:Int)) else (b,0)).1:=by split; exact f3; split; exact f0; exact f3
  have g2:InK .i64 (if d=3∨d=5 then (b,c) else if d=7 then ((0:Int),(0:Int)) else (b,0)).2:=by split; exact f4; split; exact f0; exact f0
  rw [ck_pos f1,ck_pos f2,ck_pos f3,ck_pos f4,ck_pos f1,ck_pos f2,ck_pos g1,ck_pos g2]
  simp only [isReg_eq,isCel_eq,isBelow_eq,Option.bind_some]
  unfold okL
  simp only
  by_cases h1:d=1
  · subst h1; cases rB a 4<;>cases rB b 3<;>by_cases hc:c=0<;>simp [hc]
  · by_cases h2:d=2
    · subst h2; cases rB a 3<;>cases rB b 4<;>by_cases hc:c=0<;>simp [hc]
    · by_cases h3:d=3
      · subst h3; cases rB a 3<;>cases rB b 4<;>cases rB c 4<;>simp
      · by_cases h4:d=4
        · subst h4; cases rB a 4<;>cases rB b 10<;>by_cases hc:c=0<;>simp [hc]
        · by_cases h5:d=5
          · subst h5; cases rB a 4<;>cases rB b 4<;>cases rB c 4<;>simp
          · by_cases h6:d=6
            · subst h6; cases rB a 4<;>cases rB b n<;>by_cases hc:c=0<;>simp [hc]
            · by_cases h7:d=7
              · subst h7; cases rB a 4<;>by_cases hb:b=0<;>by_cases hc:c=0<;>simp [hb,hc]
              · simp [h1,h2,h3,h4,h5,h6,h7]
theorem risLine_eq (l:Ln) {n:Int} (hn:0≤n∧n≤1000):linealref08_isLine l n=some (okL l n):=by
  obtain ⟨d,a,b,c⟩:=l
  unfold linealref08_isLine
  rw [ck_pos (show InK .i64 (n - 1) by rw [inK_i64]; omega)]
  simp only [rReg_eq,rCel_eq,rNum_eq,within_rB,Option.bind_some]
  unfold okL
  simp only
  by_cases h1:d=1
  · subst h1; cases rB a 4<;>cases rB b 3<;>by_cases hc:c=0<;>simp [hc]
  · by_cases h2:d=2
    · subst h2; cases rB a 3<;>cases rB b 4<;>by_cases hc:c=0<;>simp [hc]
    · by_cases h3:d=3
      · subst h3; cases rB a 3<;>cases rB b 4<;>cases rB c 4<;>simp
      · by_cases h4:d=4
        · subst h4; cases rB a 4<;>cases rB b 10<;>by_cases hc:c=0<;>simp [hc]
        · by_cases h5:d=5
          · subst h5; cases rB a 4<;>cases rB b 4<;>cases rB c 4<;>simp
          · by_cases h6:d=6
            · subst h6; cases rB a 4<;>cases rB b n<;>by_cases hc:c=0<;>simp [hc]
            · by_cases h7:d=7
              · subst h7; cases rB a 4<;>by_cases hb:b=0<;>by_cases hc:c=0<;>simp [hb,hc]
              · simp [h1,h2,h3,h4,h5,h6,h7]
/-! ### Calls,code,use -/
def lastL (ls:List Ln):Ln:=ls.getD (ls.length - 1) (0,0,0,0)
def okCl (ls:List Ln):Bool:=(decide (1≤ls.length)&&decide (ls.length≤8))&&(decide ((lastL ls).1=7)&&ls.all fun l=>okL l (ls.length:Int))
def vldC (c:Cd):Bool:=(decide (1≤c.length)&&decide (c.length≤4))&&c.all okCl
def okW (c:Cd) (w:List Int):Bool:=decide (w.length≤3)&&w.all fun o=>rB o (c.length:Int)
def vldU (c:Cd) (u:Us):Bool:=(decide (1≤u.length)&&decide (u.length≤2))&&u.all (okW c)
theorem idx_any {α:Type} (p:α→Bool) (xs:List α):decide (0≤(match xs.findIdx? p with|some k=>(k:Int)|none=>-1))=xs.any p:=by
  cases h:xs.findIdx? p with
  | none =>
    rw [List.findIdx?_eq_none_iff] at h
    have:xs.any p=false:=List.any_eq_false.2 fun x hx=>by simp [h x hx]
    rw [this]; rfl
  | some k =>
    have:xs.any p=true:=by
      rw [List.findIdx?_eq_some_iff_getElem] at h
      obtain ⟨h1,h2,_⟩:=h
      exact List.any_eq_true.2 ⟨_,List.getElem_mem h1,h2⟩
    rw [this]
    exact decide_eq_true (by simp only; omega)
theorem contF {α:Type} (xs:List α) (p:α→Bool) (hf:few xs) {body:Int→Option (Step Int (Sum Int Unit))} (h:∀ (k:Nat) (x:α),xs[k]?=some x→body k=some (if p x=true then .done (.inl (k:Int)) else .next ((k:Int)+1))) (hd:body xs.length=some (.done (.inr ()))) :
    (((whileO body 0).bind fun x=>match x with|.inl r1=>some r1|.inr _=>(some (-1):Option Int)).bind fun v0=>some (decide (0≤v0)))=some (xs.any p):=by
  rw [whileO_first xs p h hd,Option.bind_some]
  rw [← idx_any p xs]
  cases xs.findIdx? p<;>rfl
theorem last_nat {ls:List Ln} (h:1≤ls.length):((ls.length:Int) - 1).toNat=ls.length - 1:=by omega
theorem isCall_eq {ls:List Ln} (hf:∀ l∈ls,fitLn l):code_isCall ls=some (okCl ls):=by
  unfold code_isCall okCl
  by_cases h1:1≤ls.length
  · rw [if_neg (by rw [decide_eq_true_eq]; omega)]
    by_cases h8:ls.length≤8
    · rw [if_neg (by rw [decide_eq_true_eq]; omega),ck_pos (by rw [inK_i64]; omega),ck_pos (by omega),ck_pos (by omega),last_nat h1]
      show (if (!(decide ((lastL ls).1=7)))=true then _ else _)=_
      rw [decide_eq_true h1,decide_eq_true h8]
      by_cases h7:(lastL ls).1=7
      · rw [if_neg (by simp [h7]),decide_eq_true h7]
        have:=contF ls (fun l=>!okL l (ls.length:Int)) (few_of (n:=8) h8) (body:=slices_IndexFunc_2_b1 ls (ls.length:Int)) (fun k l hk=>by
          obtain ⟨hlt,hik⟩:=few_in (few_of (n:=8) h8) hk
          unfold slices_IndexFunc_2_b1 code_isCall_1
          rw [Int.toNat_natCast,getD_of hk,if_pos (decide_eq_true (by omega)),ck_pos (by omega),ck_pos (by omega),isLine_eq (hf l (List.mem_of_getElem? hk)),Option.bind_some,Option.bind_some]
          cases okL l (ls.length:Int)<;>simp [ck_pos hik]) (by unfold slices_IndexFunc_2_b1; rw [if_neg (by simp)])
        have e:slices_ContainsFunc_2 ls (ls.length:Int)=some (ls.any fun l=>!okL l (ls.length:Int)):=this
        rw [e,Option.bind_some,List.not_any_eq_all_not]
        simp
      · rw [if_pos (by simp [h7]),decide_eq_false h7]; simp
    · rw [if_pos (decide_eq_true (by omega)),decide_eq_false h8]; simp
  · rw [if_pos (decide_eq_true (by omega)),decide_eq_false h1]; simp
def fitCd (c:Cd):Prop:=∀ ls∈c,∀ l∈ls,fitLn l
theorem Valid_eq {c:Cd} (hf:fitCd c):code_Valid c=some (vldC c):=by
  unfold code_Valid vldC
  by_cases h1:1≤c.length
  · rw [if_pos (decide_eq_true (by omega)),decide_eq_true h1]
    by_cases h4:c.length≤4
    · rw [if_pos (decide_eq_true (by omega)),decide_eq_true h4]
      have:=contF c (fun ls=>!okCl ls) (few_of (n:=4) h4) (body:=slices_IndexFunc_b1 c) (fun k l hk=>by
        obtain ⟨hlt,hik⟩:=few_in (few_of (n:=4) h4) hk
        unfold slices_IndexFunc_b1 code_Valid_1
        rw [Int.toNat_natCast,getD_of hk,if_pos (decide_eq_true (by omega)),ck_pos (by omega),ck_pos (by omega),isCall_eq (hf l (List.mem_of_getElem? hk)),Option.bind_some,Option.bind_some]
        cases okCl l<;>simp [ck_pos hik]) (by unfold slices_IndexFunc_b1; rw [if_neg (by simp)])
      have e:slices_ContainsFunc c=some (c.any fun ls=>!okCl ls):=this
      rw [e,Option.bind_some,List.not_any_eq_all_not]
      simp
    · rw [if_neg (by rw [decide_eq_true_eq]; omega),decide_eq_false h4]; simp
  · rw [if_neg (by rw [decide_eq_true_eq]; omega),decide_eq_false h1]; simp
theorem isUse_eq (c:Cd) (hc:c.length≤1000) (u:Us):code_isUse c u=some (vldU c u):=by
  unfold code_isUse vldU
  by_cases h1:1≤u.length
  · rw [if_pos (decide_eq_true (by omega)),decide_eq_true h1]
    by_cases h2:u.length≤2
    · rw [if_pos (decide_eq_true (by omega)),decide_eq_true h2]
      have hw:∀ w:List Int,code_isWord c w=some (okW c w):=fun w=>by
        unfold code_isWord okW
        by_cases h3:w.length≤3
        · rw [if_pos (decide_eq_true (by omega)),decide_eq_true h3]
          have:=contF w (fun o=>!rB o (c.length:Int)) (few_of (n:=3) h3) (body:=slices_IndexFunc_4_b1 w c) (fun k o hk=>by
            obtain ⟨hlt,hik⟩:=few_in (few_of (n:=3) h3) hk
            unfold slices_IndexFunc_4_b1 code_isWord_1
            rw [Int.toNat_natCast,getD_of hk,if_pos (decide_eq_true (by omega)),ck_pos (by omega),ck_pos (by omega),isBelow_eq,Option.bind_some,Option.bind_some]
            cases rB o (c.length:Int)<;>simp [ck_pos hik]) (by unfold slices_IndexFunc_4_b1; rw [if_neg (by simp)])
          have e:slices_ContainsFunc_4 w c=some (w.any fun o=>!rB o (c.length:Int)):=this
          rw [e,Option.bind_some,List.not_any_eq_all_not]
          simp
        · rw [if_neg (by rw [decide_eq_true_eq]; omega),decide_eq_false h3]; simp
      have:=contF u (fun w=>!okW c w) (few_of (n:=2) h2) (body:=slices_IndexFunc_3_b1 u c) (fun k w hk=>by
        obtain ⟨hlt,hik⟩:=few_in (few_of (n:=2) h2) hk
        unfold slices_IndexFunc_3_b1 code_isUse_1
        rw [Int.toNat_natCast,getD_of hk,if_pos (decide_eq_true (by omega)),ck_pos (by omega),ck_pos (by omega),hw,Option.bind_some,Option.bind_some]
        cases okW c w<;>simp [ck_pos hik]) (by unfold slices_IndexFunc_3_b1; rw [if_neg (by simp)])
      have e:slices_ContainsFunc_3 u c=some (u.any fun w=>!okW c w):=this
      rw [e,Option.bind_some,List.not_any_eq_all_not]
      simp
    · rw [if_neg (by rw [decide_eq_true_eq]; omega),decide_eq_false h2]; simp
  · rw [if_neg (by rw [decide_eq_true_eq]; omega),decide_eq_false h1]; simp
theorem rValid_eq (c:Cd):linealref08_Valid c=some (vldC c):=by
  unfold linealref08_Valid vldC
  rw [within_eq,Option.bind_some]
  by_cases h:1≤c.length∧c.length≤4
  · have e:(decide ((1:Int)≤(c.length:Int))&&decide ((c.length:Int)≤4))=true:=by simp; omega
    have e2:(decide (1≤c.length)&&decide (c.length≤4))=true:=by simp; omega
    rw [e,e2,if_neg (by simp),Bool.true_and]
    have hf:few c:=few_of h.2
    rw [whileO_all c okCl (body:=linealref08_Valid_b1 c) (fun k ls hk=>by
      obtain ⟨hlt,hik⟩:=few_in hf hk
      unfold linealref08_Valid_b1
      rw [Int.toNat_natCast,getD_of hk,if_pos (decide_eq_true (by omega)),ck_pos (by omega),ck_pos (by omega),within_eq,Option.bind_some]
      unfold okCl
      by_cases h8:1≤ls.length∧ls.length≤8
      · have e3:(decide ((1:Int)≤(ls.length:Int))&&decide ((ls.length:Int)≤8))=true:=by simp; omega
        have e4:(decide (1≤ls.length)&&decide (ls.length≤8))=true:=by simp; omega
        rw [e3,e4,if_neg (by simp),Bool.true_and]
        have hf2:few ls:=few_of h8.2
        rw [whileO_all ls (fun l=>okL l (ls.length:Int)) (body:=linealref08_Valid_b2 c (k:Int)) (fun j l hj=>by
          obtain ⟨hlt2,hik2⟩:=few_in hf2 hj
          unfold linealref08_Valid_b2
          rw [Int.toNat_natCast,Int.toNat_natCast,getD_of hk,getD_of hj,ck_pos (by omega),ck_pos (by omega),if_pos (decide_eq_true (by omega)),ck_pos (by omega),ck_pos (by omega),ck_pos (by omega),ck_pos (by omega),ck_pos (by omega),ck_pos (by omega),risLine_eq l (by omega),Option.bind_some]
          cases okL l (ls.length:Int)<;>simp [ck_pos hik2]) (by
            unfold linealref08_Valid_b2
            rw [Int.toNat_natCast,getD_of hk,ck_pos (by omega),ck_pos (by omega),if_neg (by simp)]),Option.bind_some]
        cases ha:(ls.all fun l=>okL l (ls.length:Int)) with
        | false=>simp
        | true =>
          simp only [if_true]
          unfold linealref08_Valid_k3 linealref08_Valid_k2
          rw [Int.toNat_natCast,getD_of hk,ck_pos (by omega),ck_pos (by omega),ck_pos (by omega),ck_pos (by omega),ck_pos (by rw [inK_i64]; omega),ck_pos (by omega),ck_pos (by omega),last_nat h8.1]
          show (if (!(decide ((lastL ls).1=7)))=true then _ else _)=_
          by_cases h7:(lastL ls).1=7
          · rw [if_neg (by simp [h7]),ck_pos hik,if_pos (by simp [h7])]
          · rw [if_pos (by simp [h7]),if_neg (by simp [h7])]
      · have e3:(decide ((1:Int)≤(ls.length:Int))&&decide ((ls.length:Int)≤8))=false:=by simp; omega
        have e4:(decide (1≤ls.length)&&decide (ls.length≤8))=false:=by simp; omega
        rw [e3,e4,if_pos (show (!false)=true from rfl)]; simp) (by unfold linealref08_Valid_b1; rw [if_neg (by simp)]),Option.bind_some]
    cases c.all okCl<;>rfl
  · have e:(decide ((1:Int)≤(c.length:Int))&&decide ((c.length:Int)≤4))=false:=by simp; omega
    have e2:(decide (1≤c.length)&&decide (c.length≤4))=false:=by simp; omega
    rw [e,e2,if_pos (show (!false)=true from rfl)]; rfl
theorem rIsUse_eq (c:Cd) (hc:c.length≤1000) (u:Us):linealref08_IsUse c u=some (vldU c u):=by
  unfold linealref08_IsUse vldU
  rw [within_eq,Option.bind_some]
  by_cases h:1≤u.length∧u.length≤2
  · have e:(decide ((1:Int)≤(u.length:Int))&&decide ((u.length:Int)≤2))=true:=by simp; omega
    have e2:(decide (1≤u.length)&&decide (u.length≤2))=true:=by simp; omega
    rw [e,e2,if_neg (by simp),Bool.true_and]
    have hf:few u:=few_of h.2
    rw [whileO_all u (okW c) (body:=linealref08_IsUse_b1 c u) (fun k w hk=>by
      obtain ⟨hlt,hik⟩:=few_in hf hk
      unfold linealref08_IsUse_b1
      rw [Int.toNat_natCast,getD_of hk,if_pos (decide_eq_true (by omega)),ck_pos (by omega),ck_pos (by omega)]
      unfold okW
      by_cases h3:w.length≤3
      · rw [if_neg (by rw [decide_eq_true_eq]; omega),decide_eq_true h3,Bool.true_and]
        have hf2:few w:=few_of h3
        rw [whileO_all w (fun o=>rB o (c.length:Int)) (body:=linealref08_IsUse_b2 c u (k:Int)) (fun j o hj=>by
          obtain ⟨hlt2,hik2⟩:=few_in hf2 hj
          unfold linealref08_IsUse_b2
          rw [Int.toNat_natCast,Int.toNat_natCast,getD_of hk,getD_of hj,ck_pos (by omega),ck_pos (by omega),if_pos (decide_eq_true (by omega)),ck_pos (by omega),ck_pos (by omega),ck_pos (by omega),ck_pos (by omega),ck_pos (by rw [inK_i64]; omega),within_rB,Option.bind_some]
          cases rB o (c.length:Int)<;>simp [ck_pos hik2]) (by
            unfold linealref08_IsUse_b2
            rw [Int.toNat_natCast,getD_of hk,ck_pos (by omega),ck_pos (by omega),if_neg (by simp)]),Option.bind_some]
        cases (w.all fun o=>rB o (c.length:Int))<;>simp [linealref08_IsUse_k2,ck_pos hik]
      · rw [if_pos (decide_eq_true (by omega)),decide_eq_false h3]; simp) (by unfold linealref08_IsUse_b1; rw [if_neg (by simp)]),Option.bind_some]
    cases u.all (okW c)<;>rfl
  · have e:(decide ((1:Int)≤(u.length:Int))&&decide ((u.length:Int)≤2))=false:=by simp; omega
    have e2:(decide (1≤u.length)&&decide (u.length≤2))=false:=by simp; omega
    rw [e,e2,if_pos (show (!false)=true from rfl)]; rfl
def errU (c:Cd) (u:Us):Int:=if vldC c=true then (if vldU c u=true then 0 else 81) else 80
theorem vldC_len {c:Cd} (h:vldC c=true):1≤c.length∧c.length≤4:=by
  unfold vldC at h; simp only [Bool.and_eq_true,decide_eq_true_eq] at h; exact h.1
theorem checkUse_eq {c:Cd} (hf:fitCd c) (u:Us):code_checkUse c u=some (errU c u):=by
  unfold code_checkUse code_ValidUse errU
  rw [Valid_eq hf,Option.bind_some]
  cases hv:vldC c with
  | false=>rfl
  | true =>
    rw [if_neg (by simp),isUse_eq c (by have:=vldC_len hv; omega)]
    cases vldU c u<;>rfl
theorem asked_eq (c:Cd) (u:Us):linealref08_asked c u=some (errU c u):=by
  unfold linealref08_asked errU
  rw [rValid_eq,Option.bind_some]
  cases hv:vldC c with
  | false=>rfl
  | true =>
    rw [if_neg (by simp),rIsUse_eq c (by have:=vldC_len hv; omega)]
    cases vldU c u<;>rfl
end Go.Proofs.Ytenchhmcjmjlbaa
