import Derived.Test.YtenchhmcjmjlbaaCkp
import Derived.Test.YtenchhmcjmjlbaaPk
import Derived.Test.YtenchhmcjmjlbaaGn
namespace Go.Proofs.Ytenchhmcjmjlbaa
open Go.RowKit
set_option linter.unusedVariables false
set_option linter.unusedSimpArgs false
abbrev Ln:Type:=Int×Int×Int×Int
abbrev Cd:Type:=List (List Ln)
abbrev Us:Type:=List (List Int)
def rB (a n:Int):Bool:=decide (0≤a)&&decide (a<n)
theorem n8 {a n:Int}:rB a n=true↔0≤a∧a<n:=by unfold rB; simp
def okL (l:Ln) (n:Int):Bool :=
  if l.1=1 then rB l.2.1 4&&(rB l.2.2.1 3&&decide (l.2.2.2=0))
  else if l.1=2 then rB l.2.1 3&&(rB l.2.2.1 4&&decide (l.2.2.2=0))
  else if l.1=3 then rB l.2.1 3&&(rB l.2.2.1 4&&rB l.2.2.2 4)
  else if l.1=4 then rB l.2.1 4&&(rB l.2.2.1 10&&decide (l.2.2.2=0))
  else if l.1=5 then rB l.2.1 4&&(rB l.2.2.1 4&&rB l.2.2.2 4)
  else if l.1=6 then rB l.2.1 4&&(rB l.2.2.1 n&&decide (l.2.2.2=0))
  else if l.1=7 then rB l.2.1 4&&(decide (l.2.2.1=0)&&decide (l.2.2.2=0))
  else false
def a7h (l:Ln):Prop:=InK .i64 l.1∧InK .i64 l.2.1∧InK .i64 l.2.2.1∧InK .i64 l.2.2.2
theorem U5 (a n:Int):D4 a n=some (rB a n):=by
  unfold D4 rB
  by_cases h:0≤a
  · rw [if_pos (decide_eq_true h)]; simp [h]
  · rw [if_neg (by simp [h])]; simp [h]
theorem b2u (a:Int):o6 a=some (rB a 4):=by unfold o6; rw [U5]; rfl
theorem a6f (a:Int):L5 a=some (rB a 3):=by unfold L5; rw [U5]; rfl
theorem a2W (lo n hi:Int):l7 lo n hi=some (decide (lo≤n)&&decide (n≤hi)):=by
  unfold l7
  by_cases h:lo≤n
  · rw [if_pos (decide_eq_true h)]; simp [h]
  · rw [if_neg (by simp [h])]; simp [h]
theorem U7 (n m:Int):l7 0 n (m - 1)=some (rB n m):=by
  rw [a2W]
  congr 1
  unfold rB
  congr 1
  exact decide_eq_decide.2 (by omega)
theorem b4g (a:Int):j5 a=some (rB a 4):=by unfold j5; rw [show (3:Int)=4 - 1 from rfl,U7]; rfl
theorem a7O (a:Int):q8 a=some (rB a 3):=by unfold q8; rw [show (2:Int)=3 - 1 from rfl,U7]; rfl
theorem b4h (a:Int):D8 a=some (rB a 10):=by unfold D8; rw [show (9:Int)=10 - 1 from rfl,U7]; rfl
theorem b05 {l:Ln} (hf:a7h l) (n:Int):Z8 l n=some (okL l n):=by
  obtain ⟨d,a,b,c⟩:=l
  obtain ⟨f1,f2,f3,f4⟩:=hf
  simp only at f1 f2 f3 f4
  have f0:InK .i64 0:=by rw [l3]; omega
  unfold Z8
  have hb:a1C (d,a,b,c)=some (if d=3∨d=5 then (b,c) else if d=7 then (0,0) else (b,0)):=by
    unfold a1C
    simp only
    by_cases h3:d=3
    · subst h3; rfl
    · by_cases h5:d=5
      · subst h5; rfl
      · by_cases h7:d=7
        · subst h7; rfl
        · simp [h3,h5,h7]
  rw [hb,Option.bind_some]
  have g1:InK .i64 (if d=3∨d=5 then (b,c) else if d=7 then ((0:Int),(0:Int)) else (b,0)).1:=by split; exact f3; split; exact f0; exact f3
  have g2:InK .i64 (if d=3∨d=5 then (b,c) else if d=7 then ((0:Int),(0:Int)) else (b,0)).2:=by split; exact f4; split; exact f0; exact f0
  rw [b6 f1,b6 f2,b6 f3,b6 f4,b6 f1,b6 f2,b6 g1,b6 g2]
  simp only [b2u,a6f,U5,Option.bind_some]
  unfold okL
  simp only
  by_cases h1:d=1
  · subst h1; cases rB a 4<;>cases rB b 3<;>by_cases hc:c=0<;>simp [hc]
  · by_cases h2:d=2
    · subst h2; cases rB a 3<;>cases rB b 4<;>by_cases hc:c=0<;>simp [hc]
    · by_cases h3:d=3
      · subst h3; cases rB a 3<;>cases rB b 4<;>cases rB c 4<;>simp
      · by_cases h4:d=4
        · subst h4; cases rB a 4<;>cases rB b 10<;>by_cases hc:c=0<;>simp [hc]
        · by_cases h5:d=5
          · subst h5; cases rB a 4<;>cases rB b 4<;>cases rB c 4<;>simp
          · by_cases h6:d=6
            · subst h6; cases rB a 4<;>cases rB b n<;>by_cases hc:c=0<;>simp [hc]
            · by_cases h7:d=7
              · subst h7; cases rB a 4<;>by_cases hb:b=0<;>by_cases hc:c=0<;>simp [hb,hc]
              · simp [h1,h2,h3,h4,h5,h6,h7]
theorem a9F (l:Ln) {n:Int} (hn:0≤n∧n≤1000):H8 l n=some (okL l n):=by
  obtain ⟨d,a,b,c⟩:=l
  unfold H8
  rw [b6 (show InK .i64 (n - 1) by rw [l3]; omega)]
  simp only [b4g,a7O,b4h,U7,Option.bind_some]
  unfold okL
  simp only
  by_cases h1:d=1
  · subst h1; cases rB a 4<;>cases rB b 3<;>by_cases hc:c=0<;>simp [hc]
  · by_cases h2:d=2
    · subst h2; cases rB a 3<;>cases rB b 4<;>by_cases hc:c=0<;>simp [hc]
    · by_cases h3:d=3
      · subst h3; cases rB a 3<;>cases rB b 4<;>cases rB c 4<;>simp
      · by_cases h4:d=4
        · subst h4; cases rB a 4<;>cases rB b 10<;>by_cases hc:c=0<;>simp [hc]
        · by_cases h5:d=5
          · subst h5; cases rB a 4<;>cases rB b 4<;>cases rB c 4<;>simp
          · by_cases h6:d=6
            · subst h6; cases rB a 4<;>cases rB b n<;>by_cases hc:c=0<;>simp [hc]
            · by_cases h7:d=7
              · subst h7; cases rB a 4<;>by_cases hb:b=0<;>by_cases hc:c=0<;>simp [hb,hc]
              · simp [h1,h2,h3,h4,h5,h6,h7]
/-! ### Calls,code,use -/
def a67 (ls:List Ln):Ln:=ls.getD (ls.length - 1) (0,0,0,0)
def a2B (ls:List Ln):Bool:=(decide (1≤ls.length)&&decide (ls.length≤8))&&(decide ((a67 ls).1=7)&&ls.all fun l=>okL l (ls.length:Int))
def J7 (c:Cd):Bool:=(decide (1≤c.length)&&decide (c.length≤4))&&c.all a2B
def okW (c:Cd) (w:List Int):Bool:=decide (w.length≤3)&&w.all fun o=>rB o (c.length:Int)
def M4 (c:Cd) (u:Us):Bool:=(decide (1≤u.length)&&decide (u.length≤2))&&u.all (okW c)
theorem b4m {α:Type} (p:α→Bool) (xs:List α):decide (0≤(match xs.findIdx? p with|some k=>(k:Int)|none=>-1))=xs.any p:=by
  cases h:xs.findIdx? p with
  | none =>
    rw [List.findIdx?_eq_none_iff] at h
    have:xs.any p=false:=List.any_eq_false.2 fun x hx=>by simp [h x hx]
    rw [this]; rfl
  | some k =>
    have:xs.any p=true:=by
      rw [List.findIdx?_eq_some_iff_getElem] at h
      obtain ⟨h1,h2,_⟩:=h
      exact List.any_eq_true.2 ⟨_,List.getElem_mem h1,h2⟩
    rw [this]
    exact decide_eq_true (by simp only; omega)
theorem a85 {α:Type} (xs:List α) (p:α→Bool) (hf:few xs) {body:Int→Option (Step Int (Sum Int Unit))} (h:∀ (k:Nat) (x:α),xs[k]?=some x→body k=some (if p x=true then .done (.inl (k:Int)) else .next ((k:Int)+1))) (hd:body xs.length=some (.done (.inr ()))) :
    (((i7 body 0).bind fun x=>match x with|.inl r1=>some r1|.inr _=>(some (-1):Option Int)).bind fun v0=>some (decide (0≤v0)))=some (xs.any p):=by
  rw [a7w xs p h hd,Option.bind_some]
  rw [← b4m p xs]
  cases xs.findIdx? p<;>rfl
theorem a8M {ls:List Ln} (h:1≤ls.length):((ls.length:Int) - 1).toNat=ls.length - 1:=by omega
theorem b06 {ls:List Ln} (hf:∀ l∈ls,a7h l):Z9 ls=some (a2B ls):=by
  unfold Z9 a2B
  by_cases h1:1≤ls.length
  · rw [if_neg (by rw [decide_eq_true_eq]; omega)]
    by_cases h8:ls.length≤8
    · rw [if_neg (by rw [decide_eq_true_eq]; omega),b6 (by rw [l3]; omega),b6 (by omega),b6 (by omega),a8M h1]
      show (if (!(decide ((a67 ls).1=7)))=true then _ else _)=_
      rw [decide_eq_true h1,decide_eq_true h8]
      by_cases h7:(a67 ls).1=7
      · rw [if_neg (by simp [h7]),decide_eq_true h7]
        have:=a85 ls (fun l=>!okL l (ls.length:Int)) (G4 (n:=8) h8) (body:=u9 ls (ls.length:Int)) (fun k l hk=>by
          obtain ⟨hlt,hik⟩:=O9 (G4 (n:=8) h8) hk
          unfold u9 X8
          rw [Int.toNat_natCast,j7 hk,if_pos (decide_eq_true (by omega)),b6 (by omega),b6 (by omega),b05 (hf l (List.mem_of_getElem? hk)),Option.bind_some,Option.bind_some]
          cases okL l (ls.length:Int)<;>simp [b6 hik]) (by unfold u9; rw [if_neg (by simp)])
        have e:I6 ls (ls.length:Int)=some (ls.any fun l=>!okL l (ls.length:Int)):=this
        rw [e,Option.bind_some,List.not_any_eq_all_not]
        simp
      · rw [if_pos (by simp [h7]),decide_eq_false h7]; simp
    · rw [if_pos (decide_eq_true (by omega)),decide_eq_false h8]; simp
  · rw [if_pos (decide_eq_true (by omega)),decide_eq_false h1]; simp
def a1y (c:Cd):Prop:=∀ ls∈c,∀ l∈ls,a7h l
theorem a6v {c:Cd} (hf:a1y c):U6 c=some (J7 c):=by
  unfold U6 J7
  by_cases h1:1≤c.length
  · rw [if_pos (decide_eq_true (by omega)),decide_eq_true h1]
    by_cases h4:c.length≤4
    · rw [if_pos (decide_eq_true (by omega)),decide_eq_true h4]
      have:=a85 c (fun ls=>!a2B ls) (G4 (n:=4) h4) (body:=A9 c) (fun k l hk=>by
        obtain ⟨hlt,hik⟩:=O9 (G4 (n:=4) h4) hk
        unfold A9 a0t
        rw [Int.toNat_natCast,j7 hk,if_pos (decide_eq_true (by omega)),b6 (by omega),b6 (by omega),b06 (hf l (List.mem_of_getElem? hk)),Option.bind_some,Option.bind_some]
        cases a2B l<;>simp [b6 hik]) (by unfold A9; rw [if_neg (by simp)])
      have e:M2 c=some (c.any fun ls=>!a2B ls):=this
      rw [e,Option.bind_some,List.not_any_eq_all_not]
      simp
    · rw [if_neg (by rw [decide_eq_true_eq]; omega),decide_eq_false h4]; simp
  · rw [if_neg (by rw [decide_eq_true_eq]; omega),decide_eq_false h1]; simp
theorem b2t (c:Cd) (hc:c.length≤1000) (u:Us):a0N c u=some (M4 c u):=by
  unfold a0N M4
  by_cases h1:1≤u.length
  · rw [if_pos (decide_eq_true (by omega)),decide_eq_true h1]
    by_cases h2:u.length≤2
    · rw [if_pos (decide_eq_true (by omega)),decide_eq_true h2]
      have hw:∀ w:List Int,N6 c w=some (okW c w):=fun w=>by
        unfold N6 okW
        by_cases h3:w.length≤3
        · rw [if_pos (decide_eq_true (by omega)),decide_eq_true h3]
          have:=a85 w (fun o=>!rB o (c.length:Int)) (G4 (n:=3) h3) (body:=o8 w c) (fun k o hk=>by
            obtain ⟨hlt,hik⟩:=O9 (G4 (n:=3) h3) hk
            unfold o8 T0
            rw [Int.toNat_natCast,j7 hk,if_pos (decide_eq_true (by omega)),b6 (by omega),b6 (by omega),U5,Option.bind_some,Option.bind_some]
            cases rB o (c.length:Int)<;>simp [b6 hik]) (by unfold o8; rw [if_neg (by simp)])
          have e:C2 w c=some (w.any fun o=>!rB o (c.length:Int)):=this
          rw [e,Option.bind_some,List.not_any_eq_all_not]
          simp
        · rw [if_neg (by rw [decide_eq_true_eq]; omega),decide_eq_false h3]; simp
      have:=a85 u (fun w=>!okW c w) (G4 (n:=2) h2) (body:=u7 u c) (fun k w hk=>by
        obtain ⟨hlt,hik⟩:=O9 (G4 (n:=2) h2) hk
        unfold u7 a0s
        rw [Int.toNat_natCast,j7 hk,if_pos (decide_eq_true (by omega)),b6 (by omega),b6 (by omega),hw,Option.bind_some,Option.bind_some]
        cases okW c w<;>simp [b6 hik]) (by unfold u7; rw [if_neg (by simp)])
      have e:I5 u c=some (u.any fun w=>!okW c w):=this
      rw [e,Option.bind_some,List.not_any_eq_all_not]
      simp
    · rw [if_neg (by rw [decide_eq_true_eq]; omega),decide_eq_false h2]; simp
  · rw [if_neg (by rw [decide_eq_true_eq]; omega),decide_eq_false h1]; simp
theorem a4A (c:Cd):A4 c=some (J7 c):=by
  unfold A4 J7
  rw [a2W,Option.bind_some]
  by_cases h:1≤c.length∧c.length≤4
  · have e:(decide ((1:Int)≤(c.length:Int))&&decide ((c.length:Int)≤4))=true:=by simp; omega
    have e2:(decide (1≤c.length)&&decide (c.length≤4))=true:=by simp; omega
    rw [e,e2,if_neg (by simp),Bool.true_and]
    have hf:few c:=G4 h.2
    rw [z8 c a2B (body:=x8 c) (fun k ls hk=>by
      obtain ⟨hlt,hik⟩:=O9 hf hk
      unfold x8
      rw [Int.toNat_natCast,j7 hk,if_pos (decide_eq_true (by omega)),b6 (by omega),b6 (by omega),a2W,Option.bind_some]
      unfold a2B
      by_cases h8:1≤ls.length∧ls.length≤8
      · have e3:(decide ((1:Int)≤(ls.length:Int))&&decide ((ls.length:Int)≤8))=true:=by simp; omega
        have e4:(decide (1≤ls.length)&&decide (ls.length≤8))=true:=by simp; omega
        rw [e3,e4,if_neg (by simp),Bool.true_and]
        have hf2:few ls:=G4 h8.2
        rw [z8 ls (fun l=>okL l (ls.length:Int)) (body:=w9 c (k:Int)) (fun j l hj=>by
          obtain ⟨hlt2,hik2⟩:=O9 hf2 hj
          unfold w9
          rw [Int.toNat_natCast,Int.toNat_natCast,j7 hk,j7 hj,b6 (by omega),b6 (by omega),if_pos (decide_eq_true (by omega)),b6 (by omega),b6 (by omega),b6 (by omega),b6 (by omega),b6 (by omega),b6 (by omega),a9F l (by omega),Option.bind_some]
          cases okL l (ls.length:Int)<;>simp [b6 hik2]) (by
            unfold w9
            rw [Int.toNat_natCast,j7 hk,b6 (by omega),b6 (by omega),if_neg (by simp)]),Option.bind_some]
        cases ha:(ls.all fun l=>okL l (ls.length:Int)) with
        | false=>simp
        | true =>
          simp only [if_true]
          unfold K1 K3
          rw [Int.toNat_natCast,j7 hk,b6 (by omega),b6 (by omega),b6 (by omega),b6 (by omega),b6 (by rw [l3]; omega),b6 (by omega),b6 (by omega),a8M h8.1]
          show (if (!(decide ((a67 ls).1=7)))=true then _ else _)=_
          by_cases h7:(a67 ls).1=7
          · rw [if_neg (by simp [h7]),b6 hik,if_pos (by simp [h7])]
          · rw [if_pos (by simp [h7]),if_neg (by simp [h7])]
      · have e3:(decide ((1:Int)≤(ls.length:Int))&&decide ((ls.length:Int)≤8))=false:=by simp; omega
        have e4:(decide (1≤ls.length)&&decide (ls.length≤8))=false:=by simp; omega
        rw [e3,e4,if_pos (show (!false)=true from rfl)]; simp) (by unfold x8; rw [if_neg (by simp)]),Option.bind_some]
    cases c.all a2B<;>rfl
  · have e:(decide ((1:Int)≤(c.length:Int))&&decide ((c.length:Int)≤4))=false:=by simp; omega
    have e2:(decide (1≤c.length)&&decide (c.length≤4))=false:=by simp; omega
    rw [e,e2,if_pos (show (!false)=true from rfl)]; rfl
theorem a60 (c:Cd) (hc:c.length≤1000) (u:Us):E6 c u=some (M4 c u):=by
  unfold E6 M4
  rw [a2W,Option.bind_some]
  by_cases h:1≤u.length∧u.length≤2
  · have e:(decide ((1:Int)≤(u.length:Int))&&decide ((u.length:Int)≤2))=true:=by simp; omega
    have e2:(decide (1≤u.length)&&decide (u.length≤2))=true:=by simp; omega
    rw [e,e2,if_neg (by simp),Bool.true_and]
    have hf:few u:=G4 h.2
    rw [z8 u (okW c) (body:=y5 c u) (fun k w hk=>by
      obtain ⟨hlt,hik⟩:=O9 hf hk
      unfold y5
      rw [Int.toNat_natCast,j7 hk,if_pos (decide_eq_true (by omega)),b6 (by omega),b6 (by omega)]
      unfold okW
      by_cases h3:w.length≤3
      · rw [if_neg (by rw [decide_eq_true_eq]; omega),decide_eq_true h3,Bool.true_and]
        have hf2:few w:=G4 h3
        rw [z8 w (fun o=>rB o (c.length:Int)) (body:=y0 c u (k:Int)) (fun j o hj=>by
          obtain ⟨hlt2,hik2⟩:=O9 hf2 hj
          unfold y0
          rw [Int.toNat_natCast,Int.toNat_natCast,j7 hk,j7 hj,b6 (by omega),b6 (by omega),if_pos (decide_eq_true (by omega)),b6 (by omega),b6 (by omega),b6 (by omega),b6 (by omega),b6 (by rw [l3]; omega),U7,Option.bind_some]
          cases rB o (c.length:Int)<;>simp [b6 hik2]) (by
            unfold y0
            rw [Int.toNat_natCast,j7 hk,b6 (by omega),b6 (by omega),if_neg (by simp)]),Option.bind_some]
        cases (w.all fun o=>rB o (c.length:Int))<;>simp [K4,b6 hik]
      · rw [if_pos (decide_eq_true (by omega)),decide_eq_false h3]; simp) (by unfold y5; rw [if_neg (by simp)]),Option.bind_some]
    cases u.all (okW c)<;>rfl
  · have e:(decide ((1:Int)≤(u.length:Int))&&decide ((u.length:Int)≤2))=false:=by simp; omega
    have e2:(decide (1≤u.length)&&decide (u.length≤2))=false:=by simp; omega
    rw [e,e2,if_pos (show (!false)=true from rfl)]; rfl
def a4O (c:Cd) (u:Us):Int:=if J7 c=true then (if M4 c u=true then 0 else 81) else 80
theorem Y8 {c:Cd} (h:J7 c=true):1≤c.length∧c.length≤4:=by
  unfold J7 at h; simp only [Bool.and_eq_true,decide_eq_true_eq] at h; exact h.1
theorem a87 {c:Cd} (hf:a1y c) (u:Us):T1 c u=some (a4O c u):=by
  unfold T1 X9 a4O
  rw [a6v hf,Option.bind_some]
  cases hv:J7 c with
  | false=>rfl
  | true =>
    rw [if_neg (by simp),b2t c (by have:=Y8 hv; omega)]
    cases M4 c u<;>rfl
theorem b2W (c:Cd) (u:Us):V7 c u=some (a4O c u):=by
  unfold V7 a4O
  rw [a4A,Option.bind_some]
  cases hv:J7 c with
  | false=>rfl
  | true =>
    rw [if_neg (by simp),a60 c (by have:=Y8 hv; omega)]
    cases M4 c u<;>rfl
end Go.Proofs.Ytenchhmcjmjlbaa
