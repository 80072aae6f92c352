import Derived.Test.YtenchhmcjmjlbaaK1
namespace Go.Proofs.Ytenchhmcjmjlbaa
open Go.RowKit
set_option linter.unusedVariables false
set_option linter.unusedSimpArgs false
abbrev Hd:Type:=Int×Int×Bool×Int×Int×Int×Int×Int
def d8:Hd:=(0,0,false,0,0,0,0,0)
abbrev C3:Type:=Int×Int×Int
def rgU (h:Hd) (a:Int):Int:=b7 Y2 h (4+a.toNat*1)
def stU (h:Hd) (a v:Int):Hd:=g4 Y2 h (4+a.toNat*1) v
def a28 (v:C3) (b:Int):Int:=if b=0 then v.1 else if b=1 then v.2.1 else v.2.2
def a6y (v:C3) (a x:Int):C3:=if a=0 then (x,v.2.1,v.2.2) else if a=1 then (v.1,x,v.2.2) else (v.1,v.2.1,x)
def r3U (h:Hd) (v:Int):Hd:=(h.1,h.2.1,h.2.2.1,h.2.2.2.1,h.2.2.2.2.1,h.2.2.2.2.2.1,h.2.2.2.2.2.2.1,v)
def doU (l:Ln) (h:Hd) (v:C3):Hd×C3 :=
  if l.1=1 then (stU h l.2.1 (a28 v l.2.2.1),v)
  else if l.1=2 then (h,a6y v l.2.1 (rgU h l.2.2.1))
  else if l.1=3 then (if a28 v l.2.1=rgU h l.2.2.1 then (r3U h 1,a6y v l.2.1 (rgU h l.2.2.2)) else (r3U h 0,v))
  else if l.1=4 then (stU h l.2.1 l.2.2.1,v)
  else if l.1=5 then (stU h l.2.1 ((rgU h l.2.2.1+rgU h l.2.2.2) % 10),v)
  else if l.1=6 then (if rgU h l.2.1=0 then ((h.1,l.2.2.1,h.2.2),v) else (h,v))
  else (h,v)
theorem kU:∀ a<4,kAt Y2 (4+a*1)=some (some .i64):=by decide
theorem U5 {a:Int} (h:rB a 4=true):kAt Y2 (4+a.toNat*1)=some (some .i64):=by
  rw [m5] at h
  exact kU a.toNat (by omega)
theorem a3X {α:Type} {l:List α} {t:Nat} {v d:α} (h:t<l.length):(l.set t v).getD t d=v:=by
  rw [List.getD_eq_getElem?_getD,List.getElem?_set_self h]; rfl
theorem V3 {α:Type} {l:List α} {t s:Nat} {v d:α}:(l.set t v).getD s d=if t=s∧t<l.length then v else l.getD s d:=by
  rw [List.getD_eq_getElem?_getD,List.getElem?_set]
  by_cases h:t=s
  · subst h
    by_cases h2:t<l.length
    · simp [h2]
    · simp [h2,List.getElem?_eq_none (Nat.le_of_not_lt h2)]
  · simp [h]
theorem a04 {a:Int} (h:rB a 4=true):a=0∨a=1∨a=2∨a=3:=by rw [m5] at h; omega
theorem a6E (h:Hd) {a:Int} (x:Int) (ha:rB a 4=true):(stU h a x).1=h.1∧(stU h a x).2.1=h.2.1∧(stU h a x).2.2.1=h.2.2.1∧(stU h a x).2.2.2.1=h.2.2.2.1:=by
  rcases a04 ha with rfl|rfl|rfl|rfl<;>exact ⟨rfl,rfl,rfl,rfl⟩
def mkL (o9:List Int) (op line call n:Int) (mk:List Int):List Int:=if op<(o9.length:Int)∧o9.getD op.toNat 0=line then mk.set call.toNat n else mk
theorem b1S (o9:List Int) (op line call n:Int) (mk:List Int):(mkL o9 op line call n mk).length=mk.length:=by unfold mkL; split<;>simp
theorem b7h {T:Nat} {o9:List Int} {n:Int} {hs:List Hd} {hist:ZH} {mk:List Int} {hd x:Hd} {a b c:Int} {hi:ZH} (ht:T<hs.length) (h0:hs.getD T (0,0,false,0,0,0,0,0)=hd) (o0:0≤(hist.getD hd.2.2.2.1.toNat (0,0,0,0,0,0)).2.2.1) (c0:0≤hd.2.2.2.1) (c1:hd.2.2.2.1<mk.length) (hx:x.2.2.2.1=hd.2.2.2.1):f9 (T:Int) o9 n (hs,hist,mk) (hs.set T x,a,b,c,hi)=some (hs.set T x,a,b,c,hi,mkL o9 (hist.getD hd.2.2.2.1.toNat (0,0,0,0,0,0)).2.2.1 hd.2.1 hd.2.2.2.1 n mk):=by
  subst h0
  unfold f9 mkL
  dsimp only
  rw [Int.toNat_natCast,a3X ht,hx,List.length_set]
  by_cases q1:(hist.getD (hs.getD T (0,0,false,0,0,0,0,0)).2.2.2.1.toNat (0,0,0,0,0,0)).2.2.1<(o9.length:Int)
  · rw [if_pos (decide_eq_true q1),b4 o0,b4 q1]
    by_cases q2:o9.getD (hist.getD (hs.getD T (0,0,false,0,0,0,0,0)).2.2.2.1.toNat (0,0,0,0,0,0)).2.2.1.toNat 0=(hs.getD T (0,0,false,0,0,0,0,0)).2.1
    · rw [if_pos (decide_eq_true q2),if_pos ⟨q1,q2⟩,b4 ht,b4 c0,b4 c1,b4 (by omega)]
    · rw [if_neg (by rw [decide_eq_true_eq]; exact q2),if_neg (fun q=>q2 q.2)]
  · rw [if_neg (by rw [decide_eq_true_eq]; exact q1),if_neg (fun q=>q1 q.1)]
structure Ok8 (p:Cd) (T:Nat) (hs:List Hd) (hist:ZH) (hd:Hd) (l:Ln):Prop where
  ht:T<hs.length
  hd0:hs.getD T (0,0,false,0,0,0,0,0)=hd
  c0:0≤hd.2.2.2.1
  c1:hd.2.2.2.1<hist.length
  o0:0≤(hist.getD hd.2.2.2.1.toNat (0,0,0,0,0,0)).2.2.1
  o1:(hist.getD hd.2.2.2.1.toNat (0,0,0,0,0,0)).2.2.1<p.length
  l0:0≤hd.2.1
  l1:hd.2.1<((p.getD (hist.getD hd.2.2.2.1.toNat (0,0,0,0,0,0)).2.2.1.toNat []).length:Int)
  ll:hd.2.1≤1000
  le:(p.getD (hist.getD hd.2.2.2.1.toNat (0,0,0,0,0,0)).2.2.1.toNat []).getD hd.2.1.toNat (0,0,0,0)=l
  ok:okL l ((p.getD (hist.getD hd.2.2.2.1.toNat (0,0,0,0,0,0)).2.2.1.toNat []).length:Int)=true
  rg:∀ a,rB a 4=true→0≤rgU hd a∧rgU hd a≤9
theorem a4O (hd:Hd) (x a:Int) (h:rB a 4=true):rgU (hd.1,x,hd.2.2) a=rgU hd a:=by
  rw [m5] at h
  have:a=0∨a=1∨a=2∨a=3:=by omega
  rcases this with rfl|rfl|rfl|rfl<;>rfl
set_option maxHeartbeats 4000000 in
theorem b7S {p:Cd} {T:Nat} {hs:List Hd} {hist:ZH} {hd:Hd} {l:Ln} (h:Ok8 p T hs hist hd l) (o9:List Int) (n:Int) (v:C3) (marked:List Int) (hm:marked.length=hist.length) (h7:l.1≠7) :
    o7 (T:Int) p o9 n v.1 v.2.1 v.2.2 (hs,hist,marked)=some (hs.set T (doU l (hd.1,hd.2.1+1,hd.2.2) v).1,(doU l (hd.1,hd.2.1+1,hd.2.2) v).2.1,(doU l (hd.1,hd.2.1+1,hd.2.2) v).2.2.1,(doU l (hd.1,hd.2.1+1,hd.2.2) v).2.2.2,hist,mkL o9 (hist.getD hd.2.2.2.1.toNat (0,0,0,0,0,0)).2.2.1 hd.2.1 hd.2.2.2.1 n marked):=by
  obtain ⟨ht,hd0,c0,c1,o0,o1,l0,l1,ll,le,ok,rg⟩:=h
  have fin:∀ (x:Hd) (a b c:Int) (hi:ZH),x.2.2.2.1=hd.2.2.2.1→f9 (T:Int) o9 n (hs,hist,marked) (hs.set T x,a,b,c,hi)=some (hs.set T x,a,b,c,hi,mkL o9 (hist.getD hd.2.2.2.1.toNat (0,0,0,0,0,0)).2.2.1 hd.2.1 hd.2.2.2.1 n marked):=fun x a b c hi hx=>b7h ht hd0 o0 c0 (by omega) hx
  unfold o7
  dsimp only
  rw [Int.toNat_natCast,hd0,le,a3X ht,b4 ht,b4 c0,b4 c1,b4 (by omega),b4 ht,b4 o0,b4 o1,b4 l0,b4 l1,b4 (by rw [l4]; omega),b4 ht,List.length_set]
  have rg1:∀ a,rB a 4=true→0≤rgU (hd.1,hd.2.1+1,hd.2.2) a∧rgU (hd.1,hd.2.1+1,hd.2.2) a≤9:=fun a ha=>by rw [a4O hd _ a ha]; exact rg a ha
  have hc1:((hd.1,hd.2.1+1,hd.2.2):Hd).2.2.2.1=hd.2.2.2.1:=rfl
  generalize ((hd.1,hd.2.1+1,hd.2.2):Hd)=h1 at rg1 hc1 ⊢
  have fs:∀ (a v:Int),rB a 4=true→(g4 Y2 h1 (4+a.toNat*1) v).2.2.2.1=hd.2.2.2.1:=fun a v ha=>((a6E h1 v ha).2.2.2).trans hc1
  generalize ((p.getD (hist.getD hd.2.2.2.1.toNat (0,0,0,0,0,0)).2.2.1.toNat []).length:Int)=m at ok
  unfold okL at ok
  unfold doU
  by_cases e1:l.1=1
  · rw [if_pos e1,Bool.and_eq_true,Bool.and_eq_true] at ok
    obtain ⟨a1,a2,_⟩:=ok
    have a1':=m5.1 a1
    have a2':=m5.1 a2
    rw [if_pos (decide_eq_true e1),if_pos e1,b4 a2'.1,b4 a2'.2]
    unfold a28 stU
    by_cases b0:l.2.2.1=0
    · rw [if_pos (decide_eq_true b0),if_pos b0,b4 a1'.1,b4 a1'.2,b4 ht,b4 (U5 a1),List.set_set,fin]<;>first|rfl|exact hc1|exact fs _ _ a1
    · rw [if_neg (by rw [decide_eq_true_eq]; exact b0),if_neg b0]
      by_cases b1:l.2.2.1=1
      · rw [if_pos (decide_eq_true b1),if_pos b1,b4 a1'.1,b4 a1'.2,b4 ht,b4 (U5 a1),List.set_set,fin]<;>first|rfl|exact hc1|exact fs _ _ a1
      · rw [if_neg (by rw [decide_eq_true_eq]; exact b1),if_neg b1,b4 a1'.1,b4 a1'.2,b4 ht,b4 (U5 a1),List.set_set,fin]<;>first|rfl|exact hc1|exact fs _ _ a1
  · rw [if_neg e1] at ok
    rw [if_neg (by rw [decide_eq_true_eq]; exact e1),if_neg e1]
    by_cases e2:l.1=2
    · rw [if_pos e2,Bool.and_eq_true,Bool.and_eq_true] at ok
      obtain ⟨a1,a2,_⟩:=ok
      have a1':=m5.1 a1
      have a2':=m5.1 a2
      rw [if_pos (decide_eq_true e2),if_pos e2,b4 a2'.1,b4 a2'.2,b4 ht,b4 (U5 a2),b4 a1'.1,b4 a1'.2]
      unfold a6y
      by_cases b0:l.2.1=0
      · rw [if_pos (decide_eq_true b0),if_pos b0,fin]<;>first|rfl|exact hc1
      · rw [if_neg (by rw [decide_eq_true_eq]; exact b0),if_neg b0]
        by_cases b1:l.2.1=1
        · rw [if_pos (decide_eq_true b1),if_pos b1,fin]<;>first|rfl|exact hc1
        · rw [if_neg (by rw [decide_eq_true_eq]; exact b1),if_neg b1,fin]<;>first|rfl|exact hc1
    · rw [if_neg e2] at ok
      rw [if_neg (by rw [decide_eq_true_eq]; exact e2),if_neg e2]
      by_cases e3:l.1=3
      · rw [if_pos e3,Bool.and_eq_true,Bool.and_eq_true] at ok
        obtain ⟨a1,a2,a3⟩:=ok
        have a1':=m5.1 a1
        have a2':=m5.1 a2
        have a3':=m5.1 a3
        rw [if_pos (decide_eq_true e3),if_pos e3,b4 a1'.1,b4 a1'.2]
        unfold a28 a6y rgU
        by_cases b0:l.2.1=0
        · rw [if_pos (decide_eq_true b0),if_pos b0,if_pos b0,b4 a2'.1,b4 a2'.2,b4 ht,b4 (U5 a2)]
          by_cases q:v.1=b7 Y2 h1 (4+l.2.2.1.toNat*1)
          · rw [if_pos (decide_eq_true q),if_pos q,b4 a3'.1,b4 a3'.2,b4 ht,b4 (U5 a3),b4 ht,List.set_set,fin]<;>first|rfl|exact hc1|exact fs _ _ a1
          · rw [if_neg (by rw [decide_eq_true_eq]; exact q),if_neg q,b4 ht,List.set_set,fin]<;>first|rfl|exact hc1|exact fs _ _ a1
        · rw [if_neg (by rw [decide_eq_true_eq]; exact b0),if_neg b0,if_neg b0]
          by_cases b1:l.2.1=1
          · rw [if_pos (decide_eq_true b1),if_pos b1,if_pos b1,b4 a2'.1,b4 a2'.2,b4 ht,b4 (U5 a2)]
            by_cases q:v.2.1=b7 Y2 h1 (4+l.2.2.1.toNat*1)
            · rw [if_pos (decide_eq_true q),if_pos q,b4 a3'.1,b4 a3'.2,b4 ht,b4 (U5 a3),b4 ht,List.set_set,fin]<;>first|rfl|exact hc1|exact fs _ _ a1
            · rw [if_neg (by rw [decide_eq_true_eq]; exact q),if_neg q,b4 ht,List.set_set,fin]<;>first|rfl|exact hc1|exact fs _ _ a1
          · rw [if_neg (by rw [decide_eq_true_eq]; exact b1),if_neg b1,if_neg b1,b4 a2'.1,b4 a2'.2,b4 ht,b4 (U5 a2)]
            by_cases q:v.2.2=b7 Y2 h1 (4+l.2.2.1.toNat*1)
            · rw [if_pos (decide_eq_true q),if_pos q,b4 a3'.1,b4 a3'.2,b4 ht,b4 (U5 a3),b4 ht,List.set_set,fin]<;>first|rfl|exact hc1|exact fs _ _ a1
            · rw [if_neg (by rw [decide_eq_true_eq]; exact q),if_neg q,b4 ht,List.set_set,fin]<;>first|rfl|exact hc1|exact fs _ _ a1
      · rw [if_neg e3] at ok
        rw [if_neg (by rw [decide_eq_true_eq]; exact e3),if_neg e3]
        by_cases e4:l.1=4
        · rw [if_pos e4,Bool.and_eq_true,Bool.and_eq_true] at ok
          obtain ⟨a1,a2,_⟩:=ok
          have a1':=m5.1 a1
          rw [if_pos (decide_eq_true e4),if_pos e4,b4 a1'.1,b4 a1'.2,b4 ht,b4 (U5 a1),List.set_set,fin]<;>first|rfl|exact hc1|exact fs _ _ a1
        · rw [if_neg e4] at ok
          rw [if_neg (by rw [decide_eq_true_eq]; exact e4),if_neg e4]
          by_cases e5:l.1=5
          · rw [if_pos e5,Bool.and_eq_true,Bool.and_eq_true] at ok
            obtain ⟨a1,a2,a3⟩:=ok
            have a1':=m5.1 a1
            have a2':=m5.1 a2
            have a3':=m5.1 a3
            have r2:=rg1 _ a2
            have r3:=rg1 _ a3
            unfold rgU at r2 r3
            rw [if_pos (decide_eq_true e5),if_pos e5,b4 a2'.1,b4 a2'.2,b4 ht,b4 (U5 a2),b4 a3'.1,b4 a3'.2,b4 ht,b4 (U5 a3),b4 (by rw [l4]; omega),b4 (by omega),b4 a1'.1,b4 a1'.2,b4 ht,b4 (U5 a1),List.set_set,fin]<;>first|rfl|exact hc1|exact fs _ _ a1
          · rw [if_neg e5] at ok
            rw [if_neg (by rw [decide_eq_true_eq]; exact e5),if_neg e5]
            by_cases e6:l.1=6
            · rw [if_pos e6,Bool.and_eq_true,Bool.and_eq_true] at ok
              obtain ⟨a1,a2,_⟩:=ok
              have a1':=m5.1 a1
              rw [if_pos (decide_eq_true e6),if_pos e6,b4 a1'.1,b4 a1'.2,b4 ht,b4 (U5 a1)]
              unfold rgU
              by_cases q:b7 Y2 h1 (4+l.2.1.toNat*1)=0
              · rw [if_pos (decide_eq_true q),if_pos q,b4 ht,List.set_set,fin]<;>first|rfl|exact hc1|exact fs _ _ a1
              · rw [if_neg (by rw [decide_eq_true_eq]; exact q),if_neg q,fin]<;>first|rfl|exact hc1
            · rw [if_neg e6,if_neg h7] at ok; cases ok
def a0T (c:Int×Int×Int×Int×Int×Int) (s n:Int):Int×Int×Int×Int×Int×Int:=(c.1,c.2.1,c.2.2.1,s,c.2.2.2.2.1,2*n+2)
set_option maxHeartbeats 4000000 in
theorem b6m {p:Cd} {T:Nat} {hs:List Hd} {hist:ZH} {hd:Hd} {l:Ln} (h:Ok8 p T hs hist hd l) {n:Int} (hn:0≤n∧n≤1000) (o9:List Int) (v:C3) (marked:List Int) (hm:marked.length=hist.length) (h7:l.1=7) :
    o7 (T:Int) p o9 n v.1 v.2.1 v.2.2 (hs,hist,marked)=some (hs.set T (hd.1,hd.2.1+1,false,hd.2.2.2),v.1,v.2.1,v.2.2,hist.set hd.2.2.2.1.toNat (a0T (hist.getD hd.2.2.2.1.toNat (0,0,0,0,0,0)) (rgU hd l.2.1) n),mkL o9 (hist.getD hd.2.2.2.1.toNat (0,0,0,0,0,0)).2.2.1 hd.2.1 hd.2.2.2.1 n marked):=by
  obtain ⟨ht,hd0,c0,c1,o0,o1,l0,l1,ll,le,ok,rg⟩:=h
  have fin:∀ (x:Hd) (a b c:Int) (hi:ZH),x.2.2.2.1=hd.2.2.2.1→f9 (T:Int) o9 n (hs,hist,marked) (hs.set T x,a,b,c,hi)=some (hs.set T x,a,b,c,hi,mkL o9 (hist.getD hd.2.2.2.1.toNat (0,0,0,0,0,0)).2.2.1 hd.2.1 hd.2.2.2.1 n marked):=fun x a b c hi hx=>b7h ht hd0 o0 c0 (by omega) hx
  have hk:hd.2.2.2.1.toNat<hist.length:=by omega
  unfold o7
  dsimp only
  rw [Int.toNat_natCast,hd0,le,a3X ht,b4 ht,b4 c0,b4 c1,b4 (by omega),b4 ht,b4 o0,b4 o1,b4 l0,b4 l1,b4 (by rw [l4]; omega),b4 ht,List.length_set]
  unfold okL at ok
  rw [if_neg (by omega),if_neg (by omega),if_neg (by omega),if_neg (by omega),if_neg (by omega),if_neg (by omega),if_pos h7,Bool.and_eq_true] at ok
  have a1:=ok.1
  have a1':=m5.1 a1
  rw [if_neg (by rw [decide_eq_true_eq]; omega),if_neg (by rw [decide_eq_true_eq]; omega),if_neg (by rw [decide_eq_true_eq]; omega),if_neg (by rw [decide_eq_true_eq]; omega),if_neg (by rw [decide_eq_true_eq]; omega),if_neg (by rw [decide_eq_true_eq]; omega),if_pos (decide_eq_true h7)]
  rw [b4 ht,b4 (by rw [l4]; omega),b4 (by rw [l4]; omega),b4 c0,b4 c1,b4 (by omega),b4 ht,b4 a1'.1,b4 a1'.2,b4 ht,b4 (U5 a1),b4 c0,List.length_set,b4 c1,b4 (by omega),b4 ht,List.set_set,List.set_set,fin (hd.1,hd.2.1+1,false,hd.2.2.2) _ _ _ _ rfl,a3X hk]
  have e:=a4O hd (hd.2.1+1) l.2.1 a1
  unfold rgU at e
  unfold a0T rgU
  rw [e]
end Go.Proofs.Ytenchhmcjmjlbaa
