import Derived.Test.YtanaeefeggokkaaGreatCkp
import Derived.Test.YtanaeefeggokkaaGreatPk
import Derived.Test.YtanaeefeggokkaaGreatGn
namespace Go.Proofs.YtanaeefeggokkaaGreat
open Go.RowKit
set_option linter.unusedVariables false
set_option linter.unusedSimpArgs false
abbrev Ln:Type:=Int×Int×Int×Int
abbrev Cd:Type:=List (List Ln)
abbrev Us:Type:=List (List Int)
def rB (a n:Int):Bool:=decide (0≤a)&&decide (a<n)
theorem r7 {a n:Int}:rB a n=true↔0≤a∧a<n:=by unfold rB; simp
def okL (l:Ln) (n:Int):Bool :=
  if l.1=1 then rB l.2.1 4&&(rB l.2.2.1 3&&decide (l.2.2.2=0))
  else if l.1=2 then rB l.2.1 3&&(rB l.2.2.1 4&&decide (l.2.2.2=0))
  else if l.1=3 then rB l.2.1 3&&(rB l.2.2.1 4&&rB l.2.2.2 4)
  else if l.1=4 then rB l.2.1 4&&(rB l.2.2.1 10&&decide (l.2.2.2=0))
  else if l.1=5 then rB l.2.1 4&&(rB l.2.2.1 4&&rB l.2.2.2 4)
  else if l.1=6 then rB l.2.1 4&&(rB l.2.2.1 n&&decide (l.2.2.2=0))
  else if l.1=7 then rB l.2.1 4&&(decide (l.2.2.1=0)&&decide (l.2.2.2=0))
  else false
def b3k (l:Ln):Prop:=InK .i64 l.1∧InK .i64 l.2.1∧InK .i64 l.2.2.1∧InK .i64 l.2.2.2
theorem U8 (a n:Int):z6 a n=some (rB a n):=by
  unfold z6 rB
  by_cases h:0≤a
  · rw [if_pos (decide_eq_true h)]; simp [h]
  · rw [if_neg (by simp [h])]; simp [h]
theorem b5R (a:Int):n6 a=some (rB a 4):=by unfold n6; rw [U8]; rfl
theorem b5S (a:Int):V7 a=some (rB a 3):=by unfold V7; rw [U8]; rfl
theorem a4y (lo n hi:Int):l5 lo n hi=some (decide (lo≤n)&&decide (n≤hi)):=by
  unfold l5
  by_cases h:lo≤n
  · rw [if_pos (decide_eq_true h)]; simp [h]
  · rw [if_neg (by simp [h])]; simp [h]
theorem a2L (n m:Int):l5 0 n (m - 1)=some (rB n m):=by
  rw [a4y];congr 1;unfold rB;congr 1;exact decide_eq_decide.2 (by omega)
theorem b7H (a:Int):j0 a=some (rB a 4):=by unfold j0; rw [show (3:Int)=4 - 1 from rfl,a2L]; rfl
theorem b7J (a:Int):z7 a=some (rB a 3):=by unfold z7; rw [show (2:Int)=3 - 1 from rfl,a2L]; rfl
theorem b7I (a:Int):F9 a=some (rB a 10):=by unfold F9; rw [show (9:Int)=10 - 1 from rfl,a2L]; rfl
theorem b4d {l:Ln} (hf:b3k l) (n:Int):a1b l n=some (okL l n):=by
  obtain ⟨d,a,b,c⟩:=l;obtain ⟨f1,f2,f3,f4⟩:=hf;simp only at f1 f2 f3 f4;have f0:InK .i64 0:=by rw [m5]; omega
  unfold a1b;have hb:a3e (d,a,b,c)=some (if d=3∨d=5 then (b,c) else if d=7 then (0,0) else (b,0)):=by
    unfold a3e;simp only
    by_cases h3:d=3
    · subst h3; rfl
    · by_cases h5:d=5
      · subst h5; rfl
      · by_cases h7:d=7
        · subst h7; rfl
        · simp [h3,h5,h7]
  rw [hb,Option.bind_some];have g1:InK .i64 (if d=3∨d=5 then (b,c) else if d=7 then ((0:Int),(0:Int)) else (b,0)).1:=by split; exact f3; split; exact f0; exact f3
  have g2:InK .i64 (if d=3∨d=5 then (b,c) else if d=7 then ((0:Int),(0:Int)) else (b,0)).2:=by split; exact f4; split; exact f0; exact f0
  rw [b5 f1,b5 f2,b5 f3,b5 f4,b5 f1,b5 f2,b5 g1,b5 g2];simp only [b5R,b5S,U8,Option.bind_some];unfold okL;simp only
  by_cases h1:d=1
  · subst h1; cases rB a 4<;>cases rB b 3<;>by_cases hc:c=0<;>simp [hc]
  · by_cases h2:d=2
    · subst h2; cases rB a 3<;>cases rB b 4<;>by_cases hc:c=0<;>simp [hc]
    · by_cases h3:d=3
      · subst h3; cases rB a 3<;>cases rB b 4<;>cases rB c 4<;>simp
      · by_cases h4:d=4
        · subst h4; cases rB a 4<;>cases rB b 10<;>by_cases hc:c=0<;>simp [hc]
        · by_cases h5:d=5
          · subst h5; cases rB a 4<;>cases rB b 4<;>cases rB c 4<;>simp
          · by_cases h6:d=6
            · subst h6; cases rB a 4<;>cases rB b n<;>by_cases hc:c=0<;>simp [hc]
            · by_cases h7:d=7
              · subst h7; cases rB a 4<;>by_cases hb:b=0<;>by_cases hc:c=0<;>simp [hb,hc]
              · simp [h1,h2,h3,h4,h5,h6,h7]
theorem b2h (l:Ln) {n:Int} (hn:0≤n∧n≤1000):L5 l n=some (okL l n):=by
  obtain ⟨d,a,b,c⟩:=l;unfold L5;rw [b5 (show InK .i64 (n - 1) by rw [m5]; omega)];simp only [b7H,b7J,b7I,a2L,Option.bind_some];unfold okL;simp only
  by_cases h1:d=1
  · subst h1; cases rB a 4<;>cases rB b 3<;>by_cases hc:c=0<;>simp [hc]
  · by_cases h2:d=2
    · subst h2; cases rB a 3<;>cases rB b 4<;>by_cases hc:c=0<;>simp [hc]
    · by_cases h3:d=3
      · subst h3; cases rB a 3<;>cases rB b 4<;>cases rB c 4<;>simp
      · by_cases h4:d=4
        · subst h4; cases rB a 4<;>cases rB b 10<;>by_cases hc:c=0<;>simp [hc]
        · by_cases h5:d=5
          · subst h5; cases rB a 4<;>cases rB b 4<;>cases rB c 4<;>simp
          · by_cases h6:d=6
            · subst h6; cases rB a 4<;>cases rB b n<;>by_cases hc:c=0<;>simp [hc]
            · by_cases h7:d=7
              · subst h7; cases rB a 4<;>by_cases hb:b=0<;>by_cases hc:c=0<;>simp [hb,hc]
              · simp [h1,h2,h3,h4,h5,h6,h7]
/-! ### Calls,code,use -/
def a9i (ls:List Ln):Ln:=ls.getD (ls.length - 1) (0,0,0,0)
def a4a (ls:List Ln):Bool:=(decide (1≤ls.length)&&decide (ls.length≤8))&&(decide ((a9i ls).1=7)&&ls.all fun l=>okL l (ls.length:Int))
def K1 (c:Cd):Bool:=(decide (1≤c.length)&&decide (c.length≤4))&&c.all a4a
def okW (c:Cd) (w:List Int):Bool:=decide (w.length≤3)&&w.all fun o=>rB o (c.length:Int)
def J9 (c:Cd) (u:Us):Bool:=(decide (1≤u.length)&&decide (u.length≤2))&&u.all (okW c)
theorem b7V {α:Type} (p:α→Bool) (xs:List α):decide (0≤(match xs.findIdx? p with|some k=>(k:Int)|none=>-1))=xs.any p:=by
  cases h:xs.findIdx? p with
  | none =>
    rw [List.findIdx?_eq_none_iff] at h;have:xs.any p=false:=List.any_eq_false.2 fun x hx=>by simp [h x hx]
    rw [this]; rfl
  | some k =>
    have:xs.any p=true:=by
      rw [List.findIdx?_eq_some_iff_getElem] at h;obtain ⟨h1,h2,_⟩:=h;exact List.any_eq_true.2 ⟨_,List.getElem_mem h1,h2⟩
    rw [this];exact decide_eq_true (by simp only; omega)
theorem b3s {α:Type} (xs:List α) (p:α→Bool) (hf:few xs) {body:Int→Option (Step Int (Sum Int Unit))} (h:∀ (k:Nat) (x:α),xs[k]?=some x→body k=some (if p x=true then .done (.inl (k:Int)) else .next ((k:Int)+1))) (hd:body xs.length=some (.done (.inr ()))) :
    (((g9 body 0).bind fun x=>match x with|.inl r1=>some r1|.inr _=>(some (-1):Option Int)).bind fun v0=>some (decide (0≤v0)))=some (xs.any p):=by
  rw [a5y xs p h hd,Option.bind_some];rw [← b7V p xs]
  cases xs.findIdx? p<;>rfl
theorem b1f {ls:List Ln} (h:1≤ls.length):((ls.length:Int) - 1).toNat=ls.length - 1:=by omega
theorem b4f {ls:List Ln} (hf:∀ l∈ls,b3k l):a1c ls=some (a4a ls):=by
  unfold a1c a4a
  by_cases h1:1≤ls.length
  · rw [if_neg (by rw [decide_eq_true_eq]; omega)]
    by_cases h8:ls.length≤8
    · rw [if_neg (by rw [decide_eq_true_eq]; omega),b5 (by rw [m5]; omega),b5 (by omega),b5 (by omega),b1f h1];show (if (!(decide ((a9i ls).1=7)))=true then _ else _)=_;rw [decide_eq_true h1,decide_eq_true h8]
      by_cases h7:(a9i ls).1=7
      · rw [if_neg (by simp [h7]),decide_eq_true h7]
        have:=b3s ls (fun l=>!okL l (ls.length:Int)) (V3 (n:=8) h8) (body:=y5 ls (ls.length:Int)) (fun k l hk=>by
          obtain ⟨hlt,hik⟩:=a0j (V3 (n:=8) h8) hk;unfold y5 a0X;rw [Int.toNat_natCast,m9 hk,if_pos (decide_eq_true (by omega)),b5 (by omega),b5 (by omega),b4d (hf l (List.mem_of_getElem? hk)),Option.bind_some,Option.bind_some]
          cases okL l (ls.length:Int)<;>simp [b5 hik]) (by unfold y5; rw [if_neg (by simp)])
        have e:M5 ls (ls.length:Int)=some (ls.any fun l=>!okL l (ls.length:Int)):=this;rw [e,Option.bind_some,List.not_any_eq_all_not];simp
      · rw [if_pos (by simp [h7]),decide_eq_false h7]; simp
    · rw [if_pos (decide_eq_true (by omega)),decide_eq_false h8]; simp
  · rw [if_pos (decide_eq_true (by omega)),decide_eq_false h1]; simp
def a2t (c:Cd):Prop:=∀ ls∈c,∀ l∈ls,b3k l
theorem b1K {c:Cd} (hf:a2t c):a0Q c=some (K1 c):=by
  unfold a0Q K1
  by_cases h1:1≤c.length
  · rw [if_pos (decide_eq_true (by omega)),decide_eq_true h1]
    by_cases h4:c.length≤4
    · rw [if_pos (decide_eq_true (by omega)),decide_eq_true h4]
      have:=b3s c (fun ls=>!a4a ls) (V3 (n:=4) h4) (body:=D4 c) (fun k l hk=>by
        obtain ⟨hlt,hik⟩:=a0j (V3 (n:=4) h4) hk;unfold D4 a1B;rw [Int.toNat_natCast,m9 hk,if_pos (decide_eq_true (by omega)),b5 (by omega),b5 (by omega),b4f (hf l (List.mem_of_getElem? hk)),Option.bind_some,Option.bind_some]
        cases a4a l<;>simp [b5 hik]) (by unfold D4; rw [if_neg (by simp)])
      have e:Q0 c=some (c.any fun ls=>!a4a ls):=this;rw [e,Option.bind_some,List.not_any_eq_all_not];simp
    · rw [if_neg (by rw [decide_eq_true_eq]; omega),decide_eq_false h4]; simp
  · rw [if_neg (by rw [decide_eq_true_eq]; omega),decide_eq_false h1]; simp
theorem b5Q (c:Cd) (hc:c.length≤1000) (u:Us):a1Y c u=some (J9 c u):=by
  unfold a1Y J9
  by_cases h1:1≤u.length
  · rw [if_pos (decide_eq_true (by omega)),decide_eq_true h1]
    by_cases h2:u.length≤2
    · rw [if_pos (decide_eq_true (by omega)),decide_eq_true h2];have hw:∀ w:List Int,a1a c w=some (okW c w):=fun w=>by
        unfold a1a okW
        by_cases h3:w.length≤3
        · rw [if_pos (decide_eq_true (by omega)),decide_eq_true h3]
          have:=b3s w (fun o=>!rB o (c.length:Int)) (V3 (n:=3) h3) (body:=w9 w c) (fun k o hk=>by
            obtain ⟨hlt,hik⟩:=a0j (V3 (n:=3) h3) hk;unfold w9 a0W;rw [Int.toNat_natCast,m9 hk,if_pos (decide_eq_true (by omega)),b5 (by omega),b5 (by omega),U8,Option.bind_some,Option.bind_some]
            cases rB o (c.length:Int)<;>simp [b5 hik]) (by unfold w9; rw [if_neg (by simp)])
          have e:M3 w c=some (w.any fun o=>!rB o (c.length:Int)):=this;rw [e,Option.bind_some,List.not_any_eq_all_not];simp
        · rw [if_neg (by rw [decide_eq_true_eq]; omega),decide_eq_false h3]; simp
      have:=b3s u (fun w=>!okW c w) (V3 (n:=2) h2) (body:=y0 u c) (fun k w hk=>by
        obtain ⟨hlt,hik⟩:=a0j (V3 (n:=2) h2) hk;unfold y0 a1A;rw [Int.toNat_natCast,m9 hk,if_pos (decide_eq_true (by omega)),b5 (by omega),b5 (by omega),hw,Option.bind_some,Option.bind_some]
        cases okW c w<;>simp [b5 hik]) (by unfold y0; rw [if_neg (by simp)])
      have e:M4 u c=some (u.any fun w=>!okW c w):=this;rw [e,Option.bind_some,List.not_any_eq_all_not];simp
    · rw [if_neg (by rw [decide_eq_true_eq]; omega),decide_eq_false h2]; simp
  · rw [if_neg (by rw [decide_eq_true_eq]; omega),decide_eq_false h1]; simp
theorem b30 (c:Cd):O1 c=some (K1 c):=by
  unfold O1 K1;rw [a4y,Option.bind_some]
  by_cases h:1≤c.length∧c.length≤4
  · have e:(decide ((1:Int)≤(c.length:Int))&&decide ((c.length:Int)≤4))=true:=by simp; omega
    have e2:(decide (1≤c.length)&&decide (c.length≤4))=true:=by simp; omega
    rw [e,e2,if_neg (by simp),Bool.true_and];have hf:few c:=V3 h.2
    rw [K9 c a4a (body:=A6 c) (fun k ls hk=>by
      obtain ⟨hlt,hik⟩:=a0j hf hk;unfold A6;rw [Int.toNat_natCast,m9 hk,if_pos (decide_eq_true (by omega)),b5 (by omega),b5 (by omega),a4y,Option.bind_some];unfold a4a
      by_cases h8:1≤ls.length∧ls.length≤8
      · have e3:(decide ((1:Int)≤(ls.length:Int))&&decide ((ls.length:Int)≤8))=true:=by simp; omega
        have e4:(decide (1≤ls.length)&&decide (ls.length≤8))=true:=by simp; omega
        rw [e3,e4,if_neg (by simp),Bool.true_and];have hf2:few ls:=V3 h8.2
        rw [K9 ls (fun l=>okL l (ls.length:Int)) (body:=A5 c (k:Int)) (fun j l hj=>by
          obtain ⟨hlt2,hik2⟩:=a0j hf2 hj;unfold A5;rw [Int.toNat_natCast,Int.toNat_natCast,m9 hk,m9 hj,b5 (by omega),b5 (by omega),if_pos (decide_eq_true (by omega)),b5 (by omega),b5 (by omega),b5 (by omega),b5 (by omega),b5 (by omega),b5 (by omega),b2h l (by omega),Option.bind_some]
          cases okL l (ls.length:Int)<;>simp [b5 hik2]) (by
            unfold A5
            rw [Int.toNat_natCast,m9 hk,b5 (by omega),b5 (by omega),if_neg (by simp)]),Option.bind_some]
        cases ha:(ls.all fun l=>okL l (ls.length:Int)) with
        | false=>simp
        | true =>
          simp only [if_true];unfold N9 O0;rw [Int.toNat_natCast,m9 hk,b5 (by omega),b5 (by omega),b5 (by omega),b5 (by omega),b5 (by rw [m5]; omega),b5 (by omega),b5 (by omega),b1f h8.1];show (if (!(decide ((a9i ls).1=7)))=true then _ else _)=_
          by_cases h7:(a9i ls).1=7
          · rw [if_neg (by simp [h7]),b5 hik,if_pos (by simp [h7])]
          · rw [if_pos (by simp [h7]),if_neg (by simp [h7])]
      · have e3:(decide ((1:Int)≤(ls.length:Int))&&decide ((ls.length:Int)≤8))=false:=by simp; omega
        have e4:(decide (1≤ls.length)&&decide (ls.length≤8))=false:=by simp; omega
        rw [e3,e4,if_pos (show (!false)=true from rfl)]; simp) (by unfold A6; rw [if_neg (by simp)]),Option.bind_some]
    cases c.all a4a<;>rfl
  · have e:(decide ((1:Int)≤(c.length:Int))&&decide ((c.length:Int)≤4))=false:=by simp; omega
    have e2:(decide (1≤c.length)&&decide (c.length≤4))=false:=by simp; omega
    rw [e,e2,if_pos (show (!false)=true from rfl)]; rfl
theorem b31 (c:Cd) (hc:c.length≤1000) (u:Us):O3 c u=some (J9 c u):=by
  unfold O3 J9;rw [a4y,Option.bind_some]
  by_cases h:1≤u.length∧u.length≤2
  · have e:(decide ((1:Int)≤(u.length:Int))&&decide ((u.length:Int)≤2))=true:=by simp; omega
    have e2:(decide (1≤u.length)&&decide (u.length≤2))=true:=by simp; omega
    rw [e,e2,if_neg (by simp),Bool.true_and];have hf:few u:=V3 h.2
    rw [K9 u (okW c) (body:=A8 c u) (fun k w hk=>by
      obtain ⟨hlt,hik⟩:=a0j hf hk;unfold A8;rw [Int.toNat_natCast,m9 hk,if_pos (decide_eq_true (by omega)),b5 (by omega),b5 (by omega)];unfold okW
      by_cases h3:w.length≤3
      · rw [if_neg (by rw [decide_eq_true_eq]; omega),decide_eq_true h3,Bool.true_and];have hf2:few w:=V3 h3
        rw [K9 w (fun o=>rB o (c.length:Int)) (body:=A7 c u (k:Int)) (fun j o hj=>by
          obtain ⟨hlt2,hik2⟩:=a0j hf2 hj;unfold A7;rw [Int.toNat_natCast,Int.toNat_natCast,m9 hk,m9 hj,b5 (by omega),b5 (by omega),if_pos (decide_eq_true (by omega)),b5 (by omega),b5 (by omega),b5 (by omega),b5 (by omega),b5 (by rw [m5]; omega),a2L,Option.bind_some]
          cases rB o (c.length:Int)<;>simp [b5 hik2]) (by
            unfold A7
            rw [Int.toNat_natCast,m9 hk,b5 (by omega),b5 (by omega),if_neg (by simp)]),Option.bind_some]
        cases (w.all fun o=>rB o (c.length:Int))<;>simp [O2,b5 hik]
      · rw [if_pos (decide_eq_true (by omega)),decide_eq_false h3]; simp) (by unfold A8; rw [if_neg (by simp)]),Option.bind_some]
    cases u.all (okW c)<;>rfl
  · have e:(decide ((1:Int)≤(u.length:Int))&&decide ((u.length:Int)≤2))=false:=by simp; omega
    have e2:(decide (1≤u.length)&&decide (u.length≤2))=false:=by simp; omega
    rw [e,e2,if_pos (show (!false)=true from rfl)]; rfl
def a6M (c:Cd) (u:Us):Int:=if K1 c=true then (if J9 c u=true then 0 else 81) else 80
theorem a1F {c:Cd} (h:K1 c=true):1≤c.length∧c.length≤4:=by
  unfold K1 at h; simp only [Bool.and_eq_true,decide_eq_true_eq] at h; exact h.1
theorem a7d {c:Cd} (hf:a2t c) (u:Us):T0 c u=some (a6M c u):=by
  unfold T0 a0Y a6M;rw [b1K hf,Option.bind_some]
  cases hv:K1 c with
  | false=>rfl
  | true =>
    rw [if_neg (by simp),b5Q c (by have:=a1F hv; omega)]
    cases J9 c u<;>rfl
end Go.Proofs.YtanaeefeggokkaaGreat
