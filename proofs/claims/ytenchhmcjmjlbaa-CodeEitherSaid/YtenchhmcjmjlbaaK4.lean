import Derived.Test.YtenchhmcjmjlbaaK3
namespace Go.Proofs.Ytenchhmcjmjlbaa
open Go.RowKit
set_option linter.unusedVariables false
set_option linter.unusedSimpArgs false
theorem a1b {t:Ty} {k:IntKind}:∀ (u:Ty) (x:El t) {j q:Nat} (v:El u),P2 t u j=true→kAt t q=some (some k)→b7 t (E5 t u x j v) q=if j≤q∧q<j+u.size then b7 u v (q - j) else b7 t x q
  | .int i,x,j,q,v,h,hq=>by
    have hj:=a2F h
    show b7 t (g4 t x j v) q=_
    rw [m4 x hj (o8 hq)]
    by_cases e:q=j
    · subst e; rw [if_pos rfl,if_pos ⟨Nat.le_refl _,by show q<q+1; omega⟩]; rfl
    · rw [if_neg e,if_neg (by show ¬ (j≤q∧q<j+1); omega)]
  | .bool,x,j,q,v,h,hq=>by
    have hj:=a1z h
    show b7 t (q7 t x j v) q=_
    rw [S5 x hj,if_neg]
    rintro ⟨h1,h2⟩
    have:q=j:=by have h3:q<j+1:=h2; omega
    subst this
    rw [hj] at hq; cases hq
  | .unit,x,j,q,v,h,hq=>by
    show b7 t x q=_
    rw [if_neg (by show ¬ (j≤q∧q<j+0); omega)]
  | .pair a b,x,j,q,v,h,hq=>by
    obtain ⟨h1,h2⟩:=a1y h
    show b7 t (E5 t b (E5 t a x j v.1) (j+a.size) v.2) q=_
    rw [a1b b _ v.2 h2 hq,a1b a x v.1 h1 hq]
    have e:Ty.size (.pair a b)=a.size+b.size:=rfl
    rw [e]
    by_cases c1:j+a.size≤q∧q<j+a.size+b.size
    · rw [if_pos c1,if_pos (by omega)]
      show _=if q - j<a.size then _ else b7 b v.2 (q - j - a.size)
      rw [if_neg (by omega)]
      congr 1; omega
    · rw [if_neg c1]
      by_cases c2:j≤q∧q<j+a.size
      · rw [if_pos c2,if_pos (by omega)]
        show _=if q - j<a.size then b7 a v.1 (q - j) else _
        rw [if_pos (by omega)]
      · rw [if_neg c2,if_neg (by omega)]
  | .sl a,x,j,q,v,h,hq=>absurd h fun h=>(a3N h).elim
theorem a3G {t:Ty}:∀ (u:Ty) (x:El t) {j q:Nat} (v:El u),P2 t u j=true→kAt t q=some none→n6 t (E5 t u x j v) q=if j≤q∧q<j+u.size then n6 u v (q - j) else n6 t x q
  | .int i,x,j,q,v,h,hq=>by
    have hj:=a2F h
    show n6 t (g4 t x j v) q=_
    rw [L1 x hj,if_neg]
    rintro ⟨h1,h2⟩
    have:q=j:=by have h3:q<j+1:=h2; omega
    subst this
    rw [hj] at hq; cases hq
  | .bool,x,j,q,v,h,hq=>by
    have hj:=a1z h
    show n6 t (q7 t x j v) q=_
    rw [V9 x hj (o8 hq)]
    by_cases e:q=j
    · subst e; rw [if_pos rfl,if_pos ⟨Nat.le_refl _,by show q<q+1; omega⟩]; rfl
    · rw [if_neg e,if_neg (by show ¬ (j≤q∧q<j+1); omega)]
  | .unit,x,j,q,v,h,hq=>by
    show n6 t x q=_
    rw [if_neg (by show ¬ (j≤q∧q<j+0); omega)]
  | .pair a b,x,j,q,v,h,hq=>by
    obtain ⟨h1,h2⟩:=a1y h
    show n6 t (E5 t b (E5 t a x j v.1) (j+a.size) v.2) q=_
    rw [a3G b _ v.2 h2 hq,a3G a x v.1 h1 hq]
    have e:Ty.size (.pair a b)=a.size+b.size:=rfl
    rw [e]
    by_cases c1:j+a.size≤q∧q<j+a.size+b.size
    · rw [if_pos c1,if_pos (by omega)]
      show _=if q - j<a.size then _ else n6 b v.2 (q - j - a.size)
      rw [if_neg (by omega)]
      congr 1; omega
    · rw [if_neg c1]
      by_cases c2:j≤q∧q<j+a.size
      · rw [if_pos c2,if_pos (by omega)]
        show _=if q - j<a.size then n6 a v.1 (q - j) else _
        rw [if_pos (by omega)]
      · rw [if_neg c2,if_neg (by omega)]
  | .sl a,x,j,q,v,h,hq=>absurd h fun h=>(a3N h).elim
abbrev Cl:Type:=Int×Int×Int×Int×Int×Int
theorem b1h:∀ q<36,kAt T86 q=some (some .i64):=by decide +kernel
theorem b7V:∀ k<6,P2 T86 Y0 (k*6)=true:=by decide +kernel
theorem b1c:∀ t<2,P2 T85 Y1 (t*8)=true:=by decide +kernel
theorem b8C:Ty.size T86=36:=rfl
def a5t (K:El T86) (k:Nat):Cl:=(b7 T86 K (k*6),b7 T86 K (k*6+1),b7 T86 K (k*6+2),b7 T86 K (k*6+3),b7 T86 K (k*6+4),b7 T86 K (k*6+5))
theorem b2P (K:El T86):a2Y Y0 6 K=(List.range 6).map (a5t K):=rfl
theorem b36 (K:El T86) {k j:Nat} (hk:k<6) (hj:j<6) (x:Cl):a5t (E5 T86 Y0 K (k*6) x) j=if j=k then x else a5t K j:=by
  have hp:=b7V k hk
  have g:∀ i,i<6→b7 T86 (E5 T86 Y0 K (k*6) x) (j*6+i)=if j=k then b7 Y0 x i else b7 T86 K (j*6+i):=fun i hi=>by
    rw [a1b Y0 K x hp (b1h (j*6+i) (by omega))]
    have e:Ty.size Y0=6:=rfl
    rw [e]
    by_cases c:j=k
    · subst c; rw [if_pos (by omega),if_pos rfl]; congr 1; omega
    · rw [if_neg (by omega),if_neg c]
  unfold a5t
  have g0:=g 0 (by omega)
  rw [Nat.add_zero] at g0
  rw [g0,g 1 (by omega),g 2 (by omega),g 3 (by omega),g 4 (by omega),g 5 (by omega)]
  by_cases c:j=k
  · simp only [c,if_true]; rfl
  · simp only [c,if_false]
theorem b35 (K:El T86) {k j:Nat} (hk:k<6) (hj:j<6) (s e:Int):a5t (g4 T86 (g4 T86 K (k*6+3) s) (k*6+5) e) j=if j=k then ((a5t K k).1,(a5t K k).2.1,(a5t K k).2.2.1,s,(a5t K k).2.2.2.2.1,e) else a5t K j:=by
  have g:∀ i,i<6→b7 T86 (g4 T86 (g4 T86 K (k*6+3) s) (k*6+5) e) (j*6+i)=if j=k then (if i=5 then e else if i=3 then s else b7 T86 K (k*6+i)) else b7 T86 K (j*6+i):=fun i hi=>by
    rw [m4 _ (b1h (k*6+5) (by omega)) (by rw [b8C]; omega),m4 _ (b1h (k*6+3) (by omega)) (by rw [b8C]; omega)]
    by_cases c:j=k
    · subst c
      rw [if_pos (rfl:j=j)]
      by_cases i5:i=5
      · subst i5; rw [if_pos rfl,if_pos rfl]
      · rw [if_neg (by omega),if_neg i5]
        by_cases i3:i=3
        · subst i3; rw [if_pos rfl,if_pos rfl]
        · rw [if_neg (by omega),if_neg i3]
    · rw [if_neg (by omega),if_neg (by omega),if_neg c]
  unfold a5t
  have g0:=g 0 (by omega)
  simp only [Nat.add_zero] at g0
  rw [g0,g 1 (by omega),g 2 (by omega),g 3 (by omega),g 4 (by omega),g 5 (by omega)]
  by_cases c:j=k
  · simp [c]
  · simp only [c,if_false]
/-! ### What holds along a schedule -/
def opC (hist:ZH) (h:Hd):Int:=(hist.getD h.2.2.2.1.toNat (0,0,0,0,0,0)).2.2.1
structure RO (p:Cd) (w:Nat) (W:El T85) (hist:ZH) (ul:List Int) (h:Hd):Prop where
  r1:b7 T85 W w<ul.length
  cs:h.1=b7 T85 W w+1
  cl:b7 T85 W (w+2)=h.2.2.2.1
  ln:b7 T85 W (w+3)=h.2.1
  rg:∀ a,rB a 4=true→rgW W w a=rgU h a
  r9:∀ a,rB a 4=true→0≤rgU h a∧rgU h a≤9
  c0:0≤h.2.2.2.1
  c1:h.2.2.2.1<hist.length
  o0:0≤opC hist h
  o1:opC hist h<p.length
  l0:0≤h.2.1
  l1:h.2.1<((p.getD (opC hist h).toNat []).length:Int)
structure RH (p:Cd) (w:Nat) (W:El T85) (hist:ZH) (ul:List Int) (h:Hd):Prop where
  bo:n6 T85 W (w+1)=h.2.2.1
  r0:0≤b7 T85 W w
  r1:b7 T85 W w≤ul.length
  no:h.2.2.1=false→h.1=b7 T85 W w
  op:h.2.2.1=true→RO p w W hist ul h
def cnt (W:El T85) (t:Nat):Int:=b7 T85 W (t*8)+if n6 T85 W (t*8+1)=true then 1 else 0
def b8e (c:Cl):Prop:=(0≤c.1∧c.1≤1000)∧(0≤c.2.1∧c.2.1≤1000)∧(0≤c.2.2.1∧c.2.2.1≤1000)∧(0≤c.2.2.2.1∧c.2.2.2.1≤1000)∧(0≤c.2.2.2.2.1∧c.2.2.2.2.1≤1000)∧0≤c.2.2.2.2.2∧c.2.2.2.2.2≤1000
structure Inv (p:Cd) (u:Us) (W:El T85) (K:El T86) (bg:Int) (v:C3) (hs:List Hd) (hist:ZH) (marked:List Int):Prop where
  hl:hs.length=u.length
  rh:∀ t,t<u.length→RH p (t*8) W hist (u.getD t []) (hs.getD t (0,0,false,0,0,0,0,0))
  bg:bg=hist.length
  tt:(hist.length:Int)=cnt W 0+(if 1<u.length then cnt W 1 else 0)
  cc:∀ k,k<hist.length→a5t K k=hist.getD k (0,0,0,0,0,0)
  cv:c9 v
  ml:marked.length=hist.length
  ft:∀ k,k<hist.length→b8e (hist.getD k (0,0,0,0,0,0))
theorem O5 {p:Cd} {u:Us} (h:I9 p u=true):1≤u.length∧u.length≤2∧∀ t,(u.getD t []).length≤3∧∀ o∈u.getD t [],0≤o∧o<(p.length:Int):=by
  unfold I9 at h
  simp only [Bool.and_eq_true,decide_eq_true_eq,List.all_eq_true] at h
  refine ⟨h.1.1,h.1.2,fun t=>?_⟩
  by_cases ht:t<u.length
  · have:=h.2 _ (a0m (d:=[]) ht)
    unfold okW at this
    simp only [Bool.and_eq_true,decide_eq_true_eq,List.all_eq_true] at this
    exact ⟨this.1,fun o ho=>m5.1 (this.2 o ho)⟩
  · rw [List.getD_eq_getElem?_getD,List.getElem?_eq_none (by omega)]; simp
theorem a5p {p:Cd} (h:L5 p=true) {o:Nat} (ho:o<p.length):a31 (p.getD o [])=true:=by
  unfold L5 at h
  simp only [Bool.and_eq_true,List.all_eq_true] at h
  exact h.2 _ (a0m ho)
theorem a9m {p:Cd} {u:Us} (hu:I9 p u=true) {t:Nat} {W:El T85} {hist:ZH} {h:Hd} (r:RH p (t*8) W hist (u.getD t []) h):0≤cnt W t∧cnt W t≤3:=by
  have h3:=((O5 hu).2.2 t).1
  have h0:=r.r0
  have h1:=r.r1
  unfold cnt
  rw [r.bo]
  cases hb:h.2.2.1 with
  | false=>rw [if_neg (by simp)]; omega
  | true=>rw [if_pos rfl]; have:=(r.op hb).r1; omega
theorem a3R {p:Cd} {u:Us} (hu:I9 p u=true) {W:El T85} {K:El T86} {bg:Int} {v:C3} {hs:List Hd} {hist:ZH} {mk:List Int} (h:Inv p u W K bg v hs hist mk):hist.length≤6:=by
  have hl:=O5 hu
  have h0:=a9m hu (h.rh 0 (by omega))
  have ht:=h.tt
  split at ht
  · rename_i c
    have h1:=a9m hu (h.rh 1 c)
    omega
  · omega
theorem a7e {t:Nat} (ht:t<2) (W:El T85) (x:Int) {a:Int} (ha:rB a 4=true):rgW (g4 T85 W (t*8+3) x) (t*8) a=rgW W (t*8) a:=by
  have:=m5.1 ha
  unfold rgW
  rw [m4 W (a1a t ht).2.2.2.2.1 (by rw [a4E]; omega),if_neg (by omega)]
abbrev Rn:Type:=(Cd×Us)×List Int×El T80×(Int×Int×Int)×El T85×El T86×Int
def b2G (D:El T80) (k:Nat) (d:Int×Int):El T80:=E5 T80 (.pair .i .i) D (k*2) d
theorem b6r {p:Cd} {u:Us} {t:Nat} (ht:t<2) {W:El T85} {K:El T86} {bg:Int} {hist:ZH} {ul:List Int} {h:Hd} (r:RO p (t*8) W hist ul h) (hk:h.2.2.2.1<6) (hc:a5t K h.2.2.2.1.toNat=hist.getD h.2.2.2.1.toNat (0,0,0,0,0,0)) (hr:0≤b7 T85 W (t*8)) (hr3:ul.length≤3)
    (s:List Int) (hs:s.length<12) (D:El T80) (v:C3) (W0:El T85) (K0:El T86) (bg0:Int) {l:Ln} (hl:(p.getD (opC hist h).toNat []).getD h.2.1.toNat (0,0,0,0)=l) (ok:okL l ((p.getD (opC hist h).toNat []).length:Int)=true) (hlen:(p.getD (opC hist h).toNat []).length≤8) :
    E3 ((p,u),s,D,v,W0,K0,bg0) (t:Int) (W,K,bg)=some (if l.1=7 then (b2G D s.length (h.2.2.2.1,h.2.1),v.1,v.2.1,v.2.2,g4 T85 (q7 T85 (g4 T85 W (t*8+3) (h.2.1+1)) (t*8+1) false) (t*8) (b7 T85 W (t*8)+1),g4 T86 (g4 T86 K (h.2.2.2.1.toNat*6+3) (rgU h l.2.1)) (h.2.2.2.1.toNat*6+5) (2*(s.length:Int)+2),bg)
      else (b2G D s.length (h.2.2.2.1,h.2.1),(doW l (t*8) (g4 T85 W (t*8+3) (h.2.1+1)) v).2.1,(doW l (t*8) (g4 T85 W (t*8+3) (h.2.1+1)) v).2.2.1,(doW l (t*8) (g4 T85 W (t*8+3) (h.2.1+1)) v).2.2.2,(doW l (t*8) (g4 T85 W (t*8+3) (h.2.1+1)) v).1,K,bg)):=by
  obtain ⟨k0,k1,k2,k3,k4,k5⟩:=a1a t ht
  obtain ⟨r1,cs,cl,ln,rg,r9,c0,c1,o0,o1,l0,l1⟩:=r
  have ho:b7 T86 K (h.2.2.2.1.toNat*6+2)=opC hist h:=by
    have:=congrArg (fun c:Cl=>c.2.2.1) hc
    exact this
  unfold E3
  dsimp only
  rw [Int.toNat_natCast,cl,ho,ln,hl,b4 k3,b4 c0,b4 hk,b4 o0,b4 o1,b4 k4,b4 l0,b4 l1,b4 k3,b4 k4,b4 (by omega),b4 k4,b4 (by rw [l4]; omega),b4 k4]
  by_cases h7:l.1=7
  · unfold okL at ok
    rw [if_neg (by omega),if_neg (by omega),if_neg (by omega),if_neg (by omega),if_neg (by omega),if_neg (by omega),if_pos h7,Bool.and_eq_true] at ok
    have a1:=ok.1
    have a1':=m5.1 a1
    have e0:b7 T85 (q7 T85 (g4 T85 W (t*8+3) (h.2.1+1)) (t*8+1) false) (t*8)=b7 T85 W (t*8):=by
      rw [S5 _ k1,m4 W k4 (by rw [a4E]; omega),if_neg (by omega)]
    have e1:b7 T85 (g4 T85 W (t*8+3) (h.2.1+1)) ((t*8+4)+l.2.1.toNat*1)=rgU h l.2.1:=by
      rw [← rg _ a1]
      exact a7e ht W _ a1
    rw [if_pos (decide_eq_true h7),b4 a1'.1,b4 a1'.2,b4 (P3 ht a1),b4 (by rw [l4]; omega),b4 (by rw [l4]; omega),b4 k1,b4 k2,e0,b4 (by rw [l4]; omega),b4 k2,e1]
    rw [if_pos h7]; rfl
  · rw [if_neg (by rw [decide_eq_true_eq]; exact h7),b8B ht ok _ v h7 (fun a ha=>by rw [a7e ht W _ ha,rg a ha]; exact r9 a ha),Option.bind_some]
    rw [if_neg h7]; rfl
end Go.Proofs.Ytenchhmcjmjlbaa
