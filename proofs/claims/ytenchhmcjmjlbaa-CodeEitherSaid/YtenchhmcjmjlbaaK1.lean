import Derived.Test.YtenchhmcjmjlbaaCkp
import Derived.Test.YtenchhmcjmjlbaaPk
import Derived.Test.YtenchhmcjmjlbaaGn
namespace Go.Proofs.Ytenchhmcjmjlbaa
open Go.RowKit
set_option linter.unusedVariables false
set_option linter.unusedSimpArgs false
abbrev Ln:Type:=Int×Int×Int×Int
abbrev Cd:Type:=List (List Ln)
abbrev Us:Type:=List (List Int)
def rB (a n:Int):Bool:=decide (0≤a)&&decide (a<n)
theorem m5 {a n:Int}:rB a n=true↔0≤a∧a<n:=by unfold rB; simp
def okL (l:Ln) (n:Int):Bool :=
  if l.1=1 then rB l.2.1 4&&(rB l.2.2.1 3&&decide (l.2.2.2=0))
  else if l.1=2 then rB l.2.1 3&&(rB l.2.2.1 4&&decide (l.2.2.2=0))
  else if l.1=3 then rB l.2.1 3&&(rB l.2.2.1 4&&rB l.2.2.2 4)
  else if l.1=4 then rB l.2.1 4&&(rB l.2.2.1 10&&decide (l.2.2.2=0))
  else if l.1=5 then rB l.2.1 4&&(rB l.2.2.1 4&&rB l.2.2.2 4)
  else if l.1=6 then rB l.2.1 4&&(rB l.2.2.1 n&&decide (l.2.2.2=0))
  else if l.1=7 then rB l.2.1 4&&(decide (l.2.2.1=0)&&decide (l.2.2.2=0))
  else false
def b12 (l:Ln):Prop:=InK .i64 l.1∧InK .i64 l.2.1∧InK .i64 l.2.2.1∧InK .i64 l.2.2.2
theorem W9 (a n:Int):C7 a n=some (rB a n):=by
  unfold C7 rB
  by_cases h:0≤a
  · rw [if_pos (decide_eq_true h)]; simp [h]
  · rw [if_neg (by simp [h])]; simp [h]
theorem b4w (a:Int):n8 a=some (rB a 4):=by unfold n8; rw [W9]; rfl
theorem b4x (a:Int):T3 a=some (rB a 3):=by unfold T3; rw [W9]; rfl
theorem a3K (lo n hi:Int):l7 lo n hi=some (decide (lo≤n)&&decide (n≤hi)):=by
  unfold l7
  by_cases h:lo≤n
  · rw [if_pos (decide_eq_true h)]; simp [h]
  · rw [if_neg (by simp [h])]; simp [h]
theorem X1 (n m:Int):l7 0 n (m - 1)=some (rB n m):=by
  rw [a3K]
  congr 1
  unfold rB
  congr 1
  exact decide_eq_decide.2 (by omega)
theorem b6n (a:Int):j5 a=some (rB a 4):=by unfold j5; rw [show (3:Int)=4 - 1 from rfl,X1]; rfl
theorem b6p (a:Int):y9 a=some (rB a 3):=by unfold y9; rw [show (2:Int)=3 - 1 from rfl,X1]; rfl
theorem b6o (a:Int):F1 a=some (rB a 10):=by unfold F1; rw [show (9:Int)=10 - 1 from rfl,X1]; rfl
theorem b2T {l:Ln} (hf:b12 l) (n:Int):a0C l n=some (okL l n):=by
  obtain ⟨d,a,b,c⟩:=l
  obtain ⟨f1,f2,f3,f4⟩:=hf
  simp only at f1 f2 f3 f4
  have f0:InK .i64 0:=by rw [l4]; omega
  unfold a0C
  have hb:a2u (d,a,b,c)=some (if d=3∨d=5 then (b,c) else if d=7 then (0,0) else (b,0)):=by
    unfold a2u
    simp only
    by_cases h3:d=3
    · subst h3; rfl
    · by_cases h5:d=5
      · subst h5; rfl
      · by_cases h7:d=7
        · subst h7; rfl
        · simp [h3,h5,h7]
  rw [hb,Option.bind_some]
  have g1:InK .i64 (if d=3∨d=5 then (b,c) else if d=7 then ((0:Int),(0:Int)) else (b,0)).1:=by split; exact f3; split; exact f0; exact f3
  have g2:InK .i64 (if d=3∨d=5 then (b,c) else if d=7 then ((0:Int),(0:Int)) else (b,0)).2:=by split; exact f4; split; exact f0; exact f0
  rw [b4 f1,b4 f2,b4 f3,b4 f4,b4 f1,b4 f2,b4 g1,b4 g2]
  simp only [b4w,b4x,W9,Option.bind_some]
  unfold okL
  simp only
  by_cases h1:d=1
  · subst h1; cases rB a 4<;>cases rB b 3<;>by_cases hc:c=0<;>simp [hc]
  · by_cases h2:d=2
    · subst h2; cases rB a 3<;>cases rB b 4<;>by_cases hc:c=0<;>simp [hc]
    · by_cases h3:d=3
      · subst h3; cases rB a 3<;>cases rB b 4<;>cases rB c 4<;>simp
      · by_cases h4:d=4
        · subst h4; cases rB a 4<;>cases rB b 10<;>by_cases hc:c=0<;>simp [hc]
        · by_cases h5:d=5
          · subst h5; cases rB a 4<;>cases rB b 4<;>cases rB c 4<;>simp
          · by_cases h6:d=6
            · subst h6; cases rB a 4<;>cases rB b n<;>by_cases hc:c=0<;>simp [hc]
            · by_cases h7:d=7
              · subst h7; cases rB a 4<;>by_cases hb:b=0<;>by_cases hc:c=0<;>simp [hb,hc]
              · simp [h1,h2,h3,h4,h5,h6,h7]
theorem b08 (l:Ln) {n:Int} (hn:0≤n∧n≤1000):K3 l n=some (okL l n):=by
  obtain ⟨d,a,b,c⟩:=l
  unfold K3
  rw [b4 (show InK .i64 (n - 1) by rw [l4]; omega)]
  simp only [b6n,b6p,b6o,X1,Option.bind_some]
  unfold okL
  simp only
  by_cases h1:d=1
  · subst h1; cases rB a 4<;>cases rB b 3<;>by_cases hc:c=0<;>simp [hc]
  · by_cases h2:d=2
    · subst h2; cases rB a 3<;>cases rB b 4<;>by_cases hc:c=0<;>simp [hc]
    · by_cases h3:d=3
      · subst h3; cases rB a 3<;>cases rB b 4<;>cases rB c 4<;>simp
      · by_cases h4:d=4
        · subst h4; cases rB a 4<;>cases rB b 10<;>by_cases hc:c=0<;>simp [hc]
        · by_cases h5:d=5
          · subst h5; cases rB a 4<;>cases rB b 4<;>cases rB c 4<;>simp
          · by_cases h6:d=6
            · subst h6; cases rB a 4<;>cases rB b n<;>by_cases hc:c=0<;>simp [hc]
            · by_cases h7:d=7
              · subst h7; cases rB a 4<;>by_cases hb:b=0<;>by_cases hc:c=0<;>simp [hb,hc]
              · simp [h1,h2,h3,h4,h5,h6,h7]
/-! ### Calls,code,use -/
def a8m (ls:List Ln):Ln:=ls.getD (ls.length - 1) (0,0,0,0)
def a31 (ls:List Ln):Bool:=(decide (1≤ls.length)&&decide (ls.length≤8))&&(decide ((a8m ls).1=7)&&ls.all fun l=>okL l (ls.length:Int))
def L5 (c:Cd):Bool:=(decide (1≤c.length)&&decide (c.length≤4))&&c.all a31
def okW (c:Cd) (w:List Int):Bool:=decide (w.length≤3)&&w.all fun o=>rB o (c.length:Int)
def I9 (c:Cd) (u:Us):Bool:=(decide (1≤u.length)&&decide (u.length≤2))&&u.all (okW c)
theorem b6A {α:Type} (p:α→Bool) (xs:List α):decide (0≤(match xs.findIdx? p with|some k=>(k:Int)|none=>-1))=xs.any p:=by
  cases h:xs.findIdx? p with
  | none =>
    rw [List.findIdx?_eq_none_iff] at h
    have:xs.any p=false:=List.any_eq_false.2 fun x hx=>by simp [h x hx]
    rw [this]; rfl
  | some k =>
    have:xs.any p=true:=by
      rw [List.findIdx?_eq_some_iff_getElem] at h
      obtain ⟨h1,h2,_⟩:=h
      exact List.any_eq_true.2 ⟨_,List.getElem_mem h1,h2⟩
    rw [this]
    exact decide_eq_true (by simp only; omega)
theorem b19 {α:Type} (xs:List α) (p:α→Bool) (hf:few xs) {body:Int→Option (Step Int (Sum Int Unit))} (h:∀ (k:Nat) (x:α),xs[k]?=some x→body k=some (if p x=true then .done (.inl (k:Int)) else .next ((k:Int)+1))) (hd:body xs.length=some (.done (.inr ()))) :
    (((j7 body 0).bind fun x=>match x with|.inl r1=>some r1|.inr _=>(some (-1):Option Int)).bind fun v0=>some (decide (0≤v0)))=some (xs.any p):=by
  rw [a8L xs p h hd,Option.bind_some]
  rw [← b6A p xs]
  cases xs.findIdx? p<;>rfl
theorem b0a {ls:List Ln} (h:1≤ls.length):((ls.length:Int) - 1).toNat=ls.length - 1:=by omega
theorem b2V {ls:List Ln} (hf:∀ l∈ls,b12 l):a0D ls=some (a31 ls):=by
  unfold a0D a31
  by_cases h1:1≤ls.length
  · rw [if_neg (by rw [decide_eq_true_eq]; omega)]
    by_cases h8:ls.length≤8
    · rw [if_neg (by rw [decide_eq_true_eq]; omega),b4 (by rw [l4]; omega),b4 (by omega),b4 (by omega),b0a h1]
      show (if (!(decide ((a8m ls).1=7)))=true then _ else _)=_
      rw [decide_eq_true h1,decide_eq_true h8]
      by_cases h7:(a8m ls).1=7
      · rw [if_neg (by simp [h7]),decide_eq_true h7]
        have:=b19 ls (fun l=>!okL l (ls.length:Int)) (Z2 (n:=8) h8) (body:=y0 ls (ls.length:Int)) (fun k l hk=>by
          obtain ⟨hlt,hik⟩:=a0O (Z2 (n:=8) h8) hk
          unfold y0 a0o
          rw [Int.toNat_natCast,r8 hk,if_pos (decide_eq_true (by omega)),b4 (by omega),b4 (by omega),b2T (hf l (List.mem_of_getElem? hk)),Option.bind_some,Option.bind_some]
          cases okL l (ls.length:Int)<;>simp [b4 hik]) (by unfold y0; rw [if_neg (by simp)])
        have e:L4 ls (ls.length:Int)=some (ls.any fun l=>!okL l (ls.length:Int)):=this
        rw [e,Option.bind_some,List.not_any_eq_all_not]
        simp
      · rw [if_pos (by simp [h7]),decide_eq_false h7]; simp
    · rw [if_pos (decide_eq_true (by omega)),decide_eq_false h8]; simp
  · rw [if_pos (decide_eq_true (by omega)),decide_eq_false h1]; simp
def a1g (c:Cd):Prop:=∀ ls∈c,∀ l∈ls,b12 l
theorem b0B {c:Cd} (hf:a1g c):a0e c=some (L5 c):=by
  unfold a0e L5
  by_cases h1:1≤c.length
  · rw [if_pos (decide_eq_true (by omega)),decide_eq_true h1]
    by_cases h4:c.length≤4
    · rw [if_pos (decide_eq_true (by omega)),decide_eq_true h4]
      have:=b19 c (fun ls=>!a31 ls) (Z2 (n:=4) h4) (body:=C9 c) (fun k l hk=>by
        obtain ⟨hlt,hik⟩:=a0O (Z2 (n:=4) h4) hk
        unfold C9 a00
        rw [Int.toNat_natCast,r8 hk,if_pos (decide_eq_true (by omega)),b4 (by omega),b4 (by omega),b2V (hf l (List.mem_of_getElem? hk)),Option.bind_some,Option.bind_some]
        cases a31 l<;>simp [b4 hik]) (by unfold C9; rw [if_neg (by simp)])
      have e:O2 c=some (c.any fun ls=>!a31 ls):=this
      rw [e,Option.bind_some,List.not_any_eq_all_not]
      simp
    · rw [if_neg (by rw [decide_eq_true_eq]; omega),decide_eq_false h4]; simp
  · rw [if_neg (by rw [decide_eq_true_eq]; omega),decide_eq_false h1]; simp
theorem b4v (c:Cd) (hc:c.length≤1000) (u:Us):a1j c u=some (I9 c u):=by
  unfold a1j I9
  by_cases h1:1≤u.length
  · rw [if_pos (decide_eq_true (by omega)),decide_eq_true h1]
    by_cases h2:u.length≤2
    · rw [if_pos (decide_eq_true (by omega)),decide_eq_true h2]
      have hw:∀ w:List Int,a0B c w=some (okW c w):=fun w=>by
        unfold a0B okW
        by_cases h3:w.length≤3
        · rw [if_pos (decide_eq_true (by omega)),decide_eq_true h3]
          have:=b19 w (fun o=>!rB o (c.length:Int)) (Z2 (n:=3) h3) (body:=w9 w c) (fun k o hk=>by
            obtain ⟨hlt,hik⟩:=a0O (Z2 (n:=3) h3) hk
            unfold w9 a0n
            rw [Int.toNat_natCast,r8 hk,if_pos (decide_eq_true (by omega)),b4 (by omega),b4 (by omega),W9,Option.bind_some,Option.bind_some]
            cases rB o (c.length:Int)<;>simp [b4 hik]) (by unfold w9; rw [if_neg (by simp)])
          have e:L2 w c=some (w.any fun o=>!rB o (c.length:Int)):=this
          rw [e,Option.bind_some,List.not_any_eq_all_not]
          simp
        · rw [if_neg (by rw [decide_eq_true_eq]; omega),decide_eq_false h3]; simp
      have:=b19 u (fun w=>!okW c w) (Z2 (n:=2) h2) (body:=x8 u c) (fun k w hk=>by
        obtain ⟨hlt,hik⟩:=a0O (Z2 (n:=2) h2) hk
        unfold x8 a0Z
        rw [Int.toNat_natCast,r8 hk,if_pos (decide_eq_true (by omega)),b4 (by omega),b4 (by omega),hw,Option.bind_some,Option.bind_some]
        cases okW c w<;>simp [b4 hik]) (by unfold x8; rw [if_neg (by simp)])
      have e:L3 u c=some (u.any fun w=>!okW c w):=this
      rw [e,Option.bind_some,List.not_any_eq_all_not]
      simp
    · rw [if_neg (by rw [decide_eq_true_eq]; omega),decide_eq_false h2]; simp
  · rw [if_neg (by rw [decide_eq_true_eq]; omega),decide_eq_false h1]; simp
theorem a8c (c:Cd):G0 c=some (L5 c):=by
  unfold G0 L5
  rw [a3K,Option.bind_some]
  by_cases h:1≤c.length∧c.length≤4
  · have e:(decide ((1:Int)≤(c.length:Int))&&decide ((c.length:Int)≤4))=true:=by simp; omega
    have e2:(decide (1≤c.length)&&decide (c.length≤4))=true:=by simp; omega
    rw [e,e2,if_neg (by simp),Bool.true_and]
    have hf:few c:=Z2 h.2
    rw [J5 c a31 (body:=z9 c) (fun k ls hk=>by
      obtain ⟨hlt,hik⟩:=a0O hf hk
      unfold z9
      rw [Int.toNat_natCast,r8 hk,if_pos (decide_eq_true (by omega)),b4 (by omega),b4 (by omega),a3K,Option.bind_some]
      unfold a31
      by_cases h8:1≤ls.length∧ls.length≤8
      · have e3:(decide ((1:Int)≤(ls.length:Int))&&decide ((ls.length:Int)≤8))=true:=by simp; omega
        have e4:(decide (1≤ls.length)&&decide (ls.length≤8))=true:=by simp; omega
        rw [e3,e4,if_neg (by simp),Bool.true_and]
        have hf2:few ls:=Z2 h8.2
        rw [J5 ls (fun l=>okL l (ls.length:Int)) (body:=z8 c (k:Int)) (fun j l hj=>by
          obtain ⟨hlt2,hik2⟩:=a0O hf2 hj
          unfold z8
          rw [Int.toNat_natCast,Int.toNat_natCast,r8 hk,r8 hj,b4 (by omega),b4 (by omega),if_pos (decide_eq_true (by omega)),b4 (by omega),b4 (by omega),b4 (by omega),b4 (by omega),b4 (by omega),b4 (by omega),b08 l (by omega),Option.bind_some]
          cases okL l (ls.length:Int)<;>simp [b4 hik2]) (by
            unfold z8
            rw [Int.toNat_natCast,r8 hk,b4 (by omega),b4 (by omega),if_neg (by simp)]),Option.bind_some]
        cases ha:(ls.all fun l=>okL l (ls.length:Int)) with
        | false=>simp
        | true =>
          simp only [if_true]
          unfold M4 M5
          rw [Int.toNat_natCast,r8 hk,b4 (by omega),b4 (by omega),b4 (by omega),b4 (by omega),b4 (by rw [l4]; omega),b4 (by omega),b4 (by omega),b0a h8.1]
          show (if (!(decide ((a8m ls).1=7)))=true then _ else _)=_
          by_cases h7:(a8m ls).1=7
          · rw [if_neg (by simp [h7]),b4 hik,if_pos (by simp [h7])]
          · rw [if_pos (by simp [h7]),if_neg (by simp [h7])]
      · have e3:(decide ((1:Int)≤(ls.length:Int))&&decide ((ls.length:Int)≤8))=false:=by simp; omega
        have e4:(decide (1≤ls.length)&&decide (ls.length≤8))=false:=by simp; omega
        rw [e3,e4,if_pos (show (!false)=true from rfl)]; simp) (by unfold z9; rw [if_neg (by simp)]),Option.bind_some]
    cases c.all a31<;>rfl
  · have e:(decide ((1:Int)≤(c.length:Int))&&decide ((c.length:Int)≤4))=false:=by simp; omega
    have e2:(decide (1≤c.length)&&decide (c.length≤4))=false:=by simp; omega
    rw [e,e2,if_pos (show (!false)=true from rfl)]; rfl
theorem a8d (c:Cd) (hc:c.length≤1000) (u:Us):G4 c u=some (I9 c u):=by
  unfold G4 I9
  rw [a3K,Option.bind_some]
  by_cases h:1≤u.length∧u.length≤2
  · have e:(decide ((1:Int)≤(u.length:Int))&&decide ((u.length:Int)≤2))=true:=by simp; omega
    have e2:(decide (1≤u.length)&&decide (u.length≤2))=true:=by simp; omega
    rw [e,e2,if_neg (by simp),Bool.true_and]
    have hf:few u:=Z2 h.2
    rw [J5 u (okW c) (body:=A4 c u) (fun k w hk=>by
      obtain ⟨hlt,hik⟩:=a0O hf hk
      unfold A4
      rw [Int.toNat_natCast,r8 hk,if_pos (decide_eq_true (by omega)),b4 (by omega),b4 (by omega)]
      unfold okW
      by_cases h3:w.length≤3
      · rw [if_neg (by rw [decide_eq_true_eq]; omega),decide_eq_true h3,Bool.true_and]
        have hf2:few w:=Z2 h3
        rw [J5 w (fun o=>rB o (c.length:Int)) (body:=A3 c u (k:Int)) (fun j o hj=>by
          obtain ⟨hlt2,hik2⟩:=a0O hf2 hj
          unfold A3
          rw [Int.toNat_natCast,Int.toNat_natCast,r8 hk,r8 hj,b4 (by omega),b4 (by omega),if_pos (decide_eq_true (by omega)),b4 (by omega),b4 (by omega),b4 (by omega),b4 (by omega),b4 (by rw [l4]; omega),X1,Option.bind_some]
          cases rB o (c.length:Int)<;>simp [b4 hik2]) (by
            unfold A3
            rw [Int.toNat_natCast,r8 hk,b4 (by omega),b4 (by omega),if_neg (by simp)]),Option.bind_some]
        cases (w.all fun o=>rB o (c.length:Int))<;>simp [M6,b4 hik]
      · rw [if_pos (decide_eq_true (by omega)),decide_eq_false h3]; simp) (by unfold A4; rw [if_neg (by simp)]),Option.bind_some]
    cases u.all (okW c)<;>rfl
  · have e:(decide ((1:Int)≤(u.length:Int))&&decide ((u.length:Int)≤2))=false:=by simp; omega
    have e2:(decide (1≤u.length)&&decide (u.length≤2))=false:=by simp; omega
    rw [e,e2,if_pos (show (!false)=true from rfl)]; rfl
def a5g (c:Cd) (u:Us):Int:=if L5 c=true then (if I9 c u=true then 0 else 81) else 80
theorem a3d {c:Cd} (h:L5 c=true):1≤c.length∧c.length≤4:=by
  unfold L5 at h; simp only [Bool.and_eq_true,decide_eq_true_eq] at h; exact h.1
theorem a6p {c:Cd} (hf:a1g c) (u:Us):R0 c u=some (a5g c u):=by
  unfold R0 a0p a5g
  rw [b0B hf,Option.bind_some]
  cases hv:L5 c with
  | false=>rfl
  | true =>
    rw [if_neg (by simp),b4v c (by have:=a3d hv; omega)]
    cases I9 c u<;>rfl
theorem b4Y (c:Cd) (u:Us):X9 c u=some (a5g c u):=by
  unfold X9 a5g
  rw [a8c,Option.bind_some]
  cases hv:L5 c with
  | false=>rfl
  | true =>
    rw [if_neg (by simp),a8d c (by have:=a3d hv; omega)]
    cases I9 c u<;>rfl
end Go.Proofs.Ytenchhmcjmjlbaa
