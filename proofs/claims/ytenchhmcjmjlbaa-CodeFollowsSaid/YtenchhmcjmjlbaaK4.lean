import Derived.Test.YtenchhmcjmjlbaaK3
namespace Go.Proofs.Ytenchhmcjmjlbaa
open Go.RowKit
set_option linter.unusedVariables false
set_option linter.unusedSimpArgs false
theorem a0I {t:Ty} {k:IntKind}:∀ (u:Ty) (x:El t) {j q:Nat} (v:El u),M9 t u j=true→kAt t q=some (some k)→b7 t (D3 t u x j v) q=if j≤q∧q<j+u.size then b7 u v (q - j) else b7 t x q
  | .int i,x,j,q,v,h,hq=>by
    have hj:=a1O h
    show b7 t (f9 t x j v) q=_
    rw [m7 x hj (j9 hq)]
    by_cases e:q=j
    · subst e; rw [if_pos rfl,if_pos ⟨Nat.le_refl _,by show q<q+1; omega⟩]; rfl
    · rw [if_neg e,if_neg (by show ¬ (j≤q∧q<j+1); omega)]
  | .bool,x,j,q,v,h,hq=>by
    have hj:=a01 h
    show b7 t (p8 t x j v) q=_
    rw [Q0 x hj,if_neg]
    rintro ⟨h1,h2⟩
    have:q=j:=by have h3:q<j+1:=h2; omega
    subst this
    rw [hj] at hq; cases hq
  | .unit,x,j,q,v,h,hq=>by
    show b7 t x q=_
    rw [if_neg (by show ¬ (j≤q∧q<j+0); omega)]
  | .pair a b,x,j,q,v,h,hq=>by
    obtain ⟨h1,h2⟩:=a00 h
    show b7 t (D3 t b (D3 t a x j v.1) (j+a.size) v.2) q=_
    rw [a0I b _ v.2 h2 hq,a0I a x v.1 h1 hq]
    have e:Ty.size (.pair a b)=a.size+b.size:=rfl
    rw [e]
    by_cases c1:j+a.size≤q∧q<j+a.size+b.size
    · rw [if_pos c1,if_pos (by omega)]
      show _=if q - j<a.size then _ else b7 b v.2 (q - j - a.size)
      rw [if_neg (by omega)]
      congr 1; omega
    · rw [if_neg c1]
      by_cases c2:j≤q∧q<j+a.size
      · rw [if_pos c2,if_pos (by omega)]
        show _=if q - j<a.size then b7 a v.1 (q - j) else _
        rw [if_pos (by omega)]
      · rw [if_neg c2,if_neg (by omega)]
  | .sl a,x,j,q,v,h,hq=>absurd h fun h=>(a21 h).elim
theorem a2S {t:Ty}:∀ (u:Ty) (x:El t) {j q:Nat} (v:El u),M9 t u j=true→kAt t q=some none→n7 t (D3 t u x j v) q=if j≤q∧q<j+u.size then n7 u v (q - j) else n7 t x q
  | .int i,x,j,q,v,h,hq=>by
    have hj:=a1O h
    show n7 t (f9 t x j v) q=_
    rw [I4 x hj,if_neg]
    rintro ⟨h1,h2⟩
    have:q=j:=by have h3:q<j+1:=h2; omega
    subst this
    rw [hj] at hq; cases hq
  | .bool,x,j,q,v,h,hq=>by
    have hj:=a01 h
    show n7 t (p8 t x j v) q=_
    rw [T8 x hj (j9 hq)]
    by_cases e:q=j
    · subst e; rw [if_pos rfl,if_pos ⟨Nat.le_refl _,by show q<q+1; omega⟩]; rfl
    · rw [if_neg e,if_neg (by show ¬ (j≤q∧q<j+1); omega)]
  | .unit,x,j,q,v,h,hq=>by
    show n7 t x q=_
    rw [if_neg (by show ¬ (j≤q∧q<j+0); omega)]
  | .pair a b,x,j,q,v,h,hq=>by
    obtain ⟨h1,h2⟩:=a00 h
    show n7 t (D3 t b (D3 t a x j v.1) (j+a.size) v.2) q=_
    rw [a2S b _ v.2 h2 hq,a2S a x v.1 h1 hq]
    have e:Ty.size (.pair a b)=a.size+b.size:=rfl
    rw [e]
    by_cases c1:j+a.size≤q∧q<j+a.size+b.size
    · rw [if_pos c1,if_pos (by omega)]
      show _=if q - j<a.size then _ else n7 b v.2 (q - j - a.size)
      rw [if_neg (by omega)]
      congr 1; omega
    · rw [if_neg c1]
      by_cases c2:j≤q∧q<j+a.size
      · rw [if_pos c2,if_pos (by omega)]
        show _=if q - j<a.size then n7 a v.1 (q - j) else _
        rw [if_pos (by omega)]
      · rw [if_neg c2,if_neg (by omega)]
  | .sl a,x,j,q,v,h,hq=>absurd h fun h=>(a21 h).elim
abbrev Cl:Type:=Int×Int×Int×Int×Int×Int
theorem a9M:∀ q<36,kAt T86 q=some (some .i64):=by decide +kernel
theorem b5B:∀ k<6,M9 T86 Y0 (k*6)=true:=by decide +kernel
theorem a9J:∀ t<2,M9 T85 Y1 (t*8)=true:=by decide +kernel
theorem b6e:Ty.size T86=36:=rfl
def a4o (K:El T86) (k:Nat):Cl:=(b7 T86 K (k*6),b7 T86 K (k*6+1),b7 T86 K (k*6+2),b7 T86 K (k*6+3),b7 T86 K (k*6+4),b7 T86 K (k*6+5))
theorem b00 (K:El T86):a2f Y0 6 K=(List.range 6).map (a4o K):=rfl
theorem b17 (K:El T86) {k j:Nat} (hk:k<6) (hj:j<6) (x:Cl):a4o (D3 T86 Y0 K (k*6) x) j=if j=k then x else a4o K j:=by
  have hp:=b5B k hk
  have g:∀ i,i<6→b7 T86 (D3 T86 Y0 K (k*6) x) (j*6+i)=if j=k then b7 Y0 x i else b7 T86 K (j*6+i):=fun i hi=>by
    rw [a0I Y0 K x hp (a9M (j*6+i) (by omega))]
    have e:Ty.size Y0=6:=rfl
    rw [e]
    by_cases c:j=k
    · subst c; rw [if_pos (by omega),if_pos rfl]; congr 1; omega
    · rw [if_neg (by omega),if_neg c]
  unfold a4o
  have g0:=g 0 (by omega)
  rw [Nat.add_zero] at g0
  rw [g0,g 1 (by omega),g 2 (by omega),g 3 (by omega),g 4 (by omega),g 5 (by omega)]
  by_cases c:j=k
  · simp only [c,if_true]; rfl
  · simp only [c,if_false]
theorem b16 (K:El T86) {k j:Nat} (hk:k<6) (hj:j<6) (s e:Int):a4o (f9 T86 (f9 T86 K (k*6+3) s) (k*6+5) e) j=if j=k then ((a4o K k).1,(a4o K k).2.1,(a4o K k).2.2.1,s,(a4o K k).2.2.2.2.1,e) else a4o K j:=by
  have g:∀ i,i<6→b7 T86 (f9 T86 (f9 T86 K (k*6+3) s) (k*6+5) e) (j*6+i)=if j=k then (if i=5 then e else if i=3 then s else b7 T86 K (k*6+i)) else b7 T86 K (j*6+i):=fun i hi=>by
    rw [m7 _ (a9M (k*6+5) (by omega)) (by rw [b6e]; omega),m7 _ (a9M (k*6+3) (by omega)) (by rw [b6e]; omega)]
    by_cases c:j=k
    · subst c
      rw [if_pos (rfl:j=j)]
      by_cases i5:i=5
      · subst i5; rw [if_pos rfl,if_pos rfl]
      · rw [if_neg (by omega),if_neg i5]
        by_cases i3:i=3
        · subst i3; rw [if_pos rfl,if_pos rfl]
        · rw [if_neg (by omega),if_neg i3]
    · rw [if_neg (by omega),if_neg (by omega),if_neg c]
  unfold a4o
  have g0:=g 0 (by omega)
  simp only [Nat.add_zero] at g0
  rw [g0,g 1 (by omega),g 2 (by omega),g 3 (by omega),g 4 (by omega),g 5 (by omega)]
  by_cases c:j=k
  · simp [c]
  · simp only [c,if_false]
/-! ### What holds along a schedule -/
def opC (hist:ZH) (h:Hd):Int:=(hist.getD h.2.2.2.1.toNat (0,0,0,0,0,0)).2.2.1
structure RO (p:Cd) (w:Nat) (W:El T85) (hist:ZH) (ul:List Int) (h:Hd):Prop where
  r1:b7 T85 W w<ul.length
  cs:h.1=b7 T85 W w+1
  cl:b7 T85 W (w+2)=h.2.2.2.1
  ln:b7 T85 W (w+3)=h.2.1
  rg:∀ a,rB a 4=true→rgW W w a=rgU h a
  r9:∀ a,rB a 4=true→0≤rgU h a∧rgU h a≤9
  c0:0≤h.2.2.2.1
  c1:h.2.2.2.1<hist.length
  o0:0≤opC hist h
  o1:opC hist h<p.length
  l0:0≤h.2.1
  l1:h.2.1<((p.getD (opC hist h).toNat []).length:Int)
structure RH (p:Cd) (w:Nat) (W:El T85) (hist:ZH) (ul:List Int) (h:Hd):Prop where
  bo:n7 T85 W (w+1)=h.2.2.1
  r0:0≤b7 T85 W w
  r1:b7 T85 W w≤ul.length
  no:h.2.2.1=false→h.1=b7 T85 W w
  op:h.2.2.1=true→RO p w W hist ul h
def cnt (W:El T85) (t:Nat):Int:=b7 T85 W (t*8)+if n7 T85 W (t*8+1)=true then 1 else 0
def b5R (c:Cl):Prop:=(0≤c.1∧c.1≤1000)∧(0≤c.2.1∧c.2.1≤1000)∧(0≤c.2.2.1∧c.2.2.1≤1000)∧(0≤c.2.2.2.1∧c.2.2.2.1≤1000)∧(0≤c.2.2.2.2.1∧c.2.2.2.2.1≤1000)∧0≤c.2.2.2.2.2∧c.2.2.2.2.2≤1000
structure Inv (p:Cd) (u:Us) (W:El T85) (K:El T86) (bg:Int) (v:C3) (hs:List Hd) (hist:ZH) (marked:List Int):Prop where
  hl:hs.length=u.length
  rh:∀ t,t<u.length→RH p (t*8) W hist (u.getD t []) (hs.getD t (0,0,false,0,0,0,0,0))
  bg:bg=hist.length
  tt:(hist.length:Int)=cnt W 0+(if 1<u.length then cnt W 1 else 0)
  cc:∀ k,k<hist.length→a4o K k=hist.getD k (0,0,0,0,0,0)
  cv:c9 v
  ml:marked.length=hist.length
  ft:∀ k,k<hist.length→b5R (hist.getD k (0,0,0,0,0,0))
theorem J6 {p:Cd} {u:Us} (h:M4 p u=true):1≤u.length∧u.length≤2∧∀ t,(u.getD t []).length≤3∧∀ o∈u.getD t [],0≤o∧o<(p.length:Int):=by
  unfold M4 at h
  simp only [Bool.and_eq_true,decide_eq_true_eq,List.all_eq_true] at h
  refine ⟨h.1.1,h.1.2,fun t=>?_⟩
  by_cases ht:t<u.length
  · have:=h.2 _ (a04 (d:=[]) ht)
    unfold okW at this
    simp only [Bool.and_eq_true,decide_eq_true_eq,List.all_eq_true] at this
    exact ⟨this.1,fun o ho=>n8.1 (this.2 o ho)⟩
  · rw [List.getD_eq_getElem?_getD,List.getElem?_eq_none (by omega)]; simp
theorem a4l {p:Cd} (h:J7 p=true) {o:Nat} (ho:o<p.length):a2B (p.getD o [])=true:=by
  unfold J7 at h
  simp only [Bool.and_eq_true,List.all_eq_true] at h
  exact h.2 _ (a04 ho)
theorem a72 {p:Cd} {u:Us} (hu:M4 p u=true) {t:Nat} {W:El T85} {hist:ZH} {h:Hd} (r:RH p (t*8) W hist (u.getD t []) h):0≤cnt W t∧cnt W t≤3:=by
  have h3:=((J6 hu).2.2 t).1
  have h0:=r.r0
  have h1:=r.r1
  unfold cnt
  rw [r.bo]
  cases hb:h.2.2.1 with
  | false=>rw [if_neg (by simp)]; omega
  | true=>rw [if_pos rfl]; have:=(r.op hb).r1; omega
theorem a1W {p:Cd} {u:Us} (hu:M4 p u=true) {W:El T85} {K:El T86} {bg:Int} {v:C3} {hs:List Hd} {hist:ZH} {mk:List Int} (h:Inv p u W K bg v hs hist mk):hist.length≤6:=by
  have hl:=J6 hu
  have h0:=a72 hu (h.rh 0 (by omega))
  have ht:=h.tt
  split at ht
  · rename_i c
    have h1:=a72 hu (h.rh 1 c)
    omega
  · omega
theorem a53 {t:Nat} (ht:t<2) (W:El T85) (x:Int) {a:Int} (ha:rB a 4=true):rgW (f9 T85 W (t*8+3) x) (t*8) a=rgW W (t*8) a:=by
  have:=n8.1 ha
  unfold rgW
  rw [m7 W (a0H t ht).2.2.2.2.1 (by rw [a3M]; omega),if_neg (by omega)]
abbrev Rn:Type:=(Cd×Us)×List Int×El T80×(Int×Int×Int)×El T85×El T86×Int
def b0V (D:El T80) (k:Nat) (d:Int×Int):El T80:=D3 T80 (.pair .i .i) D (k*2) d
theorem b4i {p:Cd} {u:Us} {t:Nat} (ht:t<2) {W:El T85} {K:El T86} {bg:Int} {hist:ZH} {ul:List Int} {h:Hd} (r:RO p (t*8) W hist ul h) (hk:h.2.2.2.1<6) (hc:a4o K h.2.2.2.1.toNat=hist.getD h.2.2.2.1.toNat (0,0,0,0,0,0)) (hr:0≤b7 T85 W (t*8)) (hr3:ul.length≤3)
    (s:List Int) (hs:s.length<12) (D:El T80) (v:C3) (W0:El T85) (K0:El T86) (bg0:Int) {l:Ln} (hl:(p.getD (opC hist h).toNat []).getD h.2.1.toNat (0,0,0,0)=l) (ok:okL l ((p.getD (opC hist h).toNat []).length:Int)=true) (hlen:(p.getD (opC hist h).toNat []).length≤8) :
    C9 ((p,u),s,D,v,W0,K0,bg0) (t:Int) (W,K,bg)=some (if l.1=7 then (b0V D s.length (h.2.2.2.1,h.2.1),v.1,v.2.1,v.2.2,f9 T85 (p8 T85 (f9 T85 W (t*8+3) (h.2.1+1)) (t*8+1) false) (t*8) (b7 T85 W (t*8)+1),f9 T86 (f9 T86 K (h.2.2.2.1.toNat*6+3) (rgU h l.2.1)) (h.2.2.2.1.toNat*6+5) (2*(s.length:Int)+2),bg)
      else (b0V D s.length (h.2.2.2.1,h.2.1),(doW l (t*8) (f9 T85 W (t*8+3) (h.2.1+1)) v).2.1,(doW l (t*8) (f9 T85 W (t*8+3) (h.2.1+1)) v).2.2.1,(doW l (t*8) (f9 T85 W (t*8+3) (h.2.1+1)) v).2.2.2,(doW l (t*8) (f9 T85 W (t*8+3) (h.2.1+1)) v).1,K,bg)):=by
  obtain ⟨k0,k1,k2,k3,k4,k5⟩:=a0H t ht
  obtain ⟨r1,cs,cl,ln,rg,r9,c0,c1,o0,o1,l0,l1⟩:=r
  have ho:b7 T86 K (h.2.2.2.1.toNat*6+2)=opC hist h:=by
    have:=congrArg (fun c:Cl=>c.2.2.1) hc
    exact this
  unfold C9
  dsimp only
  rw [Int.toNat_natCast,cl,ho,ln,hl,b6 k3,b6 c0,b6 hk,b6 o0,b6 o1,b6 k4,b6 l0,b6 l1,b6 k3,b6 k4,b6 (by omega),b6 k4,b6 (by rw [l3]; omega),b6 k4]
  by_cases h7:l.1=7
  · unfold okL at ok
    rw [if_neg (by omega),if_neg (by omega),if_neg (by omega),if_neg (by omega),if_neg (by omega),if_neg (by omega),if_pos h7,Bool.and_eq_true] at ok
    have a1:=ok.1
    have a1':=n8.1 a1
    have e0:b7 T85 (p8 T85 (f9 T85 W (t*8+3) (h.2.1+1)) (t*8+1) false) (t*8)=b7 T85 W (t*8):=by
      rw [Q0 _ k1,m7 W k4 (by rw [a3M]; omega),if_neg (by omega)]
    have e1:b7 T85 (f9 T85 W (t*8+3) (h.2.1+1)) ((t*8+4)+l.2.1.toNat*1)=rgU h l.2.1:=by
      rw [← rg _ a1]
      exact a53 ht W _ a1
    rw [if_pos (decide_eq_true h7),b6 a1'.1,b6 a1'.2,b6 (N1 ht a1),b6 (by rw [l3]; omega),b6 (by rw [l3]; omega),b6 k1,b6 k2,e0,b6 (by rw [l3]; omega),b6 k2,e1]
    rw [if_pos h7]; rfl
  · rw [if_neg (by rw [decide_eq_true_eq]; exact h7),b6d ht ok _ v h7 (fun a ha=>by rw [a53 ht W _ ha,rg a ha]; exact r9 a ha),Option.bind_some]
    rw [if_neg h7]; rfl
end Go.Proofs.Ytenchhmcjmjlbaa
