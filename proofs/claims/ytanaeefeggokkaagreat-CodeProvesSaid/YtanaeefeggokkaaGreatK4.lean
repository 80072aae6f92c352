import Derived.Test.YtanaeefeggokkaaGreatK3
namespace Go.Proofs.YtanaeefeggokkaaGreat
open Go.RowKit
set_option linter.unusedVariables false
set_option linter.unusedSimpArgs false
theorem a1P {t:Ty} {k:IntKind}:∀ (u:Ty) (x:El t) {j q:Nat} (v:El u),Q8 t u j=true→kAt t q=some (some k)→b7 t (F5 t u x j v) q=if j≤q∧q<j+u.size then b7 u v (q - j) else b7 t x q
  | .int i,x,j,q,v,h,hq=>by
    have hj:=a3p h;show b7 t (f8 t x j v) q=_;rw [l9 x hj (n8 hq)]
    by_cases e:q=j
    · subst e; rw [if_pos rfl,if_pos ⟨Nat.le_refl _,by show q<q+1; omega⟩]; rfl
    · rw [if_neg e,if_neg (by show ¬ (j≤q∧q<j+1); omega)]
  | .bool,x,j,q,v,h,hq=>by
    have hj:=a2l h;show b7 t (p5 t x j v) q=_;rw [U9 x hj,if_neg]
    rintro ⟨h1,h2⟩
    have:q=j:=by have h3:q<j+1:=h2; omega
    subst this;rw [hj] at hq; cases hq
  | .unit,x,j,q,v,h,hq=>by
    show b7 t x q=_;rw [if_neg (by show ¬ (j≤q∧q<j+0); omega)]
  | .pair a b,x,j,q,v,h,hq=>by
    obtain ⟨h1,h2⟩:=a2k h;show b7 t (F5 t b (F5 t a x j v.1) (j+a.size) v.2) q=_;rw [a1P b _ v.2 h2 hq,a1P a x v.1 h1 hq];have e:Ty.size (.pair a b)=a.size+b.size:=rfl;rw [e]
    by_cases c1:j+a.size≤q∧q<j+a.size+b.size
    · rw [if_pos c1,if_pos (by omega)];show _=if q - j<a.size then _ else b7 b v.2 (q - j - a.size)
      rw [if_neg (by omega)];congr 1; omega
    · rw [if_neg c1]
      by_cases c2:j≤q∧q<j+a.size
      · rw [if_pos c2,if_pos (by omega)];show _=if q - j<a.size then b7 a v.1 (q - j) else _
        rw [if_pos (by omega)]
      · rw [if_neg c2,if_neg (by omega)]
  | .sl a,x,j,q,v,h,hq=>absurd h fun h=>(a4B h).elim
theorem a4u {t:Ty}:∀ (u:Ty) (x:El t) {j q:Nat} (v:El u),Q8 t u j=true→kAt t q=some none→m6 t (F5 t u x j v) q=if j≤q∧q<j+u.size then m6 u v (q - j) else m6 t x q
  | .int i,x,j,q,v,h,hq=>by
    have hj:=a3p h;show m6 t (f8 t x j v) q=_;rw [M2 x hj,if_neg]
    rintro ⟨h1,h2⟩
    have:q=j:=by have h3:q<j+1:=h2; omega
    subst this;rw [hj] at hq; cases hq
  | .bool,x,j,q,v,h,hq=>by
    have hj:=a2l h;show m6 t (p5 t x j v) q=_;rw [a0a x hj (n8 hq)]
    by_cases e:q=j
    · subst e; rw [if_pos rfl,if_pos ⟨Nat.le_refl _,by show q<q+1; omega⟩]; rfl
    · rw [if_neg e,if_neg (by show ¬ (j≤q∧q<j+1); omega)]
  | .unit,x,j,q,v,h,hq=>by
    show m6 t x q=_;rw [if_neg (by show ¬ (j≤q∧q<j+0); omega)]
  | .pair a b,x,j,q,v,h,hq=>by
    obtain ⟨h1,h2⟩:=a2k h;show m6 t (F5 t b (F5 t a x j v.1) (j+a.size) v.2) q=_;rw [a4u b _ v.2 h2 hq,a4u a x v.1 h1 hq];have e:Ty.size (.pair a b)=a.size+b.size:=rfl;rw [e]
    by_cases c1:j+a.size≤q∧q<j+a.size+b.size
    · rw [if_pos c1,if_pos (by omega)];show _=if q - j<a.size then _ else m6 b v.2 (q - j - a.size)
      rw [if_neg (by omega)];congr 1; omega
    · rw [if_neg c1]
      by_cases c2:j≤q∧q<j+a.size
      · rw [if_pos c2,if_pos (by omega)];show _=if q - j<a.size then m6 a v.1 (q - j) else _
        rw [if_pos (by omega)]
      · rw [if_neg c2,if_neg (by omega)]
  | .sl a,x,j,q,v,h,hq=>absurd h fun h=>(a4B h).elim
abbrev Cl:Type:=Int×Int×Int×Int×Int×Int
theorem b2s:∀ q<36,kAt T78 q=some (some .i64):=by decide +kernel
theorem b9a:∀ k<6,Q8 T78 Y0 (k*6)=true:=by decide +kernel
theorem b2l:∀ t<2,Q8 T77 Y1 (t*8)=true:=by decide +kernel
theorem b9N:Ty.size T78=36:=rfl
def a6h (K:El T78) (k:Nat):Cl:=(b7 T78 K (k*6),b7 T78 K (k*6+1),b7 T78 K (k*6+2),b7 T78 K (k*6+3),b7 T78 K (k*6+4),b7 T78 K (k*6+5))
theorem b4a (K:El T78):T8 Y0 6 K=(List.range 6).map (a6h K):=rfl
theorem b5q (K:El T78) {k j:Nat} (hk:k<6) (hj:j<6) (x:Cl):a6h (F5 T78 Y0 K (k*6) x) j=if j=k then x else a6h K j:=by
  have hp:=b9a k hk;have g:∀ i,i<6→b7 T78 (F5 T78 Y0 K (k*6) x) (j*6+i)=if j=k then b7 Y0 x i else b7 T78 K (j*6+i):=fun i hi=>by
    rw [a1P Y0 K x hp (b2s (j*6+i) (by omega))];have e:Ty.size Y0=6:=rfl;rw [e]
    by_cases c:j=k
    · subst c; rw [if_pos (by omega),if_pos rfl]; congr 1; omega
    · rw [if_neg (by omega),if_neg c]
  unfold a6h;have g0:=g 0 (by omega);rw [Nat.add_zero] at g0;rw [g0,g 1 (by omega),g 2 (by omega),g 3 (by omega),g 4 (by omega),g 5 (by omega)]
  by_cases c:j=k
  · simp only [c,if_true]; rfl
  · simp only [c,if_false]
theorem b5p (K:El T78) {k j:Nat} (hk:k<6) (hj:j<6) (s e:Int):a6h (f8 T78 (f8 T78 K (k*6+3) s) (k*6+5) e) j=if j=k then ((a6h K k).1,(a6h K k).2.1,(a6h K k).2.2.1,s,(a6h K k).2.2.2.2.1,e) else a6h K j:=by
  have g:∀ i,i<6→b7 T78 (f8 T78 (f8 T78 K (k*6+3) s) (k*6+5) e) (j*6+i)=if j=k then (if i=5 then e else if i=3 then s else b7 T78 K (k*6+i)) else b7 T78 K (j*6+i):=fun i hi=>by
    rw [l9 _ (b2s (k*6+5) (by omega)) (by rw [b9N]; omega),l9 _ (b2s (k*6+3) (by omega)) (by rw [b9N]; omega)]
    by_cases c:j=k
    · subst c;rw [if_pos (rfl:j=j)]
      by_cases i5:i=5
      · subst i5; rw [if_pos rfl,if_pos rfl]
      · rw [if_neg (by omega),if_neg i5]
        by_cases i3:i=3
        · subst i3; rw [if_pos rfl,if_pos rfl]
        · rw [if_neg (by omega),if_neg i3]
    · rw [if_neg (by omega),if_neg (by omega),if_neg c]
  unfold a6h;have g0:=g 0 (by omega);simp only [Nat.add_zero] at g0;rw [g0,g 1 (by omega),g 2 (by omega),g 3 (by omega),g 4 (by omega),g 5 (by omega)]
  by_cases c:j=k
  · simp [c]
  · simp only [c,if_false]
/-! ### What holds along a schedule -/
def opC (hist:ZH) (h:Hd):Int:=(hist.getD h.2.2.2.1.toNat (0,0,0,0,0,0)).2.2.1
structure RO (p:Cd) (w:Nat) (W:El T77) (hist:ZH) (ul:List Int) (h:Hd):Prop where
  r1:b7 T77 W w<ul.length
  cs:h.1=b7 T77 W w+1
  cl:b7 T77 W (w+2)=h.2.2.2.1
  ln:b7 T77 W (w+3)=h.2.1
  rg:∀ a,rB a 4=true→rgW W w a=rgU h a
  r9:∀ a,rB a 4=true→0≤rgU h a∧rgU h a≤9
  c0:0≤h.2.2.2.1
  c1:h.2.2.2.1<hist.length
  o0:0≤opC hist h
  o1:opC hist h<p.length
  l0:0≤h.2.1
  l1:h.2.1<((p.getD (opC hist h).toNat []).length:Int)
structure RH (p:Cd) (w:Nat) (W:El T77) (hist:ZH) (ul:List Int) (h:Hd):Prop where
  bo:m6 T77 W (w+1)=h.2.2.1
  r0:0≤b7 T77 W w
  r1:b7 T77 W w≤ul.length
  no:h.2.2.1=false→h.1=b7 T77 W w
  op:h.2.2.1=true→RO p w W hist ul h
def cnt (W:El T77) (t:Nat):Int:=b7 T77 W (t*8)+if m6 T77 W (t*8+1)=true then 1 else 0
def b9r (c:Cl):Prop:=(0≤c.1∧c.1≤1000)∧(0≤c.2.1∧c.2.1≤1000)∧(0≤c.2.2.1∧c.2.2.1≤1000)∧(0≤c.2.2.2.1∧c.2.2.2.1≤1000)∧(0≤c.2.2.2.2.1∧c.2.2.2.2.1≤1000)∧0≤c.2.2.2.2.2∧c.2.2.2.2.2≤1000
structure Inv (p:Cd) (u:Us) (W:El T77) (K:El T78) (bg:Int) (v:C3) (hs:List Hd) (hist:ZH) (marked:List Int):Prop where
  hl:hs.length=u.length
  rh:∀ t,t<u.length→RH p (t*8) W hist (u.getD t []) (hs.getD t (0,0,false,0,0,0,0,0))
  bg:bg=hist.length
  tt:(hist.length:Int)=cnt W 0+(if 1<u.length then cnt W 1 else 0)
  cc:∀ k,k<hist.length→a6h K k=hist.getD k (0,0,0,0,0,0)
  cv:c9 v
  ml:marked.length=hist.length
  ft:∀ k,k<hist.length→b9r (hist.getD k (0,0,0,0,0,0))
theorem Q2 {p:Cd} {u:Us} (h:J9 p u=true):1≤u.length∧u.length≤2∧∀ t,(u.getD t []).length≤3∧∀ o∈u.getD t [],0≤o∧o<(p.length:Int):=by
  unfold J9 at h;simp only [Bool.and_eq_true,decide_eq_true_eq,List.all_eq_true] at h;refine ⟨h.1.1,h.1.2,fun t=>?_⟩
  by_cases ht:t<u.length
  · have:=h.2 _ (a0V (d:=[]) ht);unfold okW at this;simp only [Bool.and_eq_true,decide_eq_true_eq,List.all_eq_true] at this;exact ⟨this.1,fun o ho=>r7.1 (this.2 o ho)⟩
  · rw [List.getD_eq_getElem?_getD,List.getElem?_eq_none (by omega)]; simp
theorem a6e {p:Cd} (h:K1 p=true) {o:Nat} (ho:o<p.length):a4a (p.getD o [])=true:=by
  unfold K1 at h;simp only [Bool.and_eq_true,List.all_eq_true] at h;exact h.2 _ (a0V ho)
theorem b0m {p:Cd} {u:Us} (hu:J9 p u=true) {t:Nat} {W:El T77} {hist:ZH} {h:Hd} (r:RH p (t*8) W hist (u.getD t []) h):0≤cnt W t∧cnt W t≤3:=by
  have h3:=((Q2 hu).2.2 t).1;have h0:=r.r0;have h1:=r.r1;unfold cnt;rw [r.bo]
  cases hb:h.2.2.1 with
  | false=>rw [if_neg (by simp)]; omega
  | true=>rw [if_pos rfl]; have:=(r.op hb).r1; omega
theorem a2p {p:Cd} {u:Us} (hu:J9 p u=true) {W:El T77} {K:El T78} {bg:Int} {v:C3} {hs:List Hd} {hist:ZH} {mk:List Int} (h:Inv p u W K bg v hs hist mk):hist.length≤6:=by
  have hl:=Q2 hu;have h0:=b0m hu (h.rh 0 (by omega));have ht:=h.tt
  split at ht
  · rename_i c;have h1:=b0m hu (h.rh 1 c);omega
  · omega
theorem a74 {t:Nat} (ht:t<2) (W:El T77) (x:Int) {a:Int} (ha:rB a 4=true):rgW (f8 T77 W (t*8+3) x) (t*8) a=rgW W (t*8) a:=by
  have:=r7.1 ha;unfold rgW;rw [l9 W (a1O t ht).2.2.2.2.1 (by rw [a5x]; omega),if_neg (by omega)]
abbrev Rn:Type:=(Cd×Us)×List Int×El T72×(Int×Int×Int)×El T77×El T78×Int
def b32 (D:El T72) (k:Nat) (d:Int×Int):El T72:=F5 T72 (.pair .i .i) D (k*2) d
theorem b7L {p:Cd} {u:Us} {t:Nat} (ht:t<2) {W:El T77} {K:El T78} {bg:Int} {hist:ZH} {ul:List Int} {h:Hd} (r:RO p (t*8) W hist ul h) (hk:h.2.2.2.1<6) (hc:a6h K h.2.2.2.1.toNat=hist.getD h.2.2.2.1.toNat (0,0,0,0,0,0)) (hr:0≤b7 T77 W (t*8)) (hr3:ul.length≤3)
    (s:List Int) (hs:s.length<12) (D:El T72) (v:C3) (W0:El T77) (K0:El T78) (bg0:Int) {l:Ln} (hl:(p.getD (opC hist h).toNat []).getD h.2.1.toNat (0,0,0,0)=l) (ok:okL l ((p.getD (opC hist h).toNat []).length:Int)=true) (hlen:(p.getD (opC hist h).toNat []).length≤8) :
    F3 ((p,u),s,D,v,W0,K0,bg0) (t:Int) (W,K,bg)=some (if l.1=7 then (b32 D s.length (h.2.2.2.1,h.2.1),v.1,v.2.1,v.2.2,f8 T77 (p5 T77 (f8 T77 W (t*8+3) (h.2.1+1)) (t*8+1) false) (t*8) (b7 T77 W (t*8)+1),f8 T78 (f8 T78 K (h.2.2.2.1.toNat*6+3) (rgU h l.2.1)) (h.2.2.2.1.toNat*6+5) (2*(s.length:Int)+2),bg)
      else (b32 D s.length (h.2.2.2.1,h.2.1),(doW l (t*8) (f8 T77 W (t*8+3) (h.2.1+1)) v).2.1,(doW l (t*8) (f8 T77 W (t*8+3) (h.2.1+1)) v).2.2.1,(doW l (t*8) (f8 T77 W (t*8+3) (h.2.1+1)) v).2.2.2,(doW l (t*8) (f8 T77 W (t*8+3) (h.2.1+1)) v).1,K,bg)):=by
  obtain ⟨k0,k1,k2,k3,k4,k5⟩:=a1O t ht;obtain ⟨r1,cs,cl,ln,rg,r9,c0,c1,o0,o1,l0,l1⟩:=r;have ho:b7 T78 K (h.2.2.2.1.toNat*6+2)=opC hist h:=by
    have:=congrArg (fun c:Cl=>c.2.2.1) hc;exact this
  unfold F3;dsimp only;rw [Int.toNat_natCast,cl,ho,ln,hl,b5 k3,b5 c0,b5 hk,b5 o0,b5 o1,b5 k4,b5 l0,b5 l1,b5 k3,b5 k4,b5 (by omega),b5 k4,b5 (by rw [m5]; omega),b5 k4]
  by_cases h7:l.1=7
  · unfold okL at ok;rw [if_neg (by omega),if_neg (by omega),if_neg (by omega),if_neg (by omega),if_neg (by omega),if_neg (by omega),if_pos h7,Bool.and_eq_true] at ok;have a1:=ok.1;have a1':=r7.1 a1;have e0:b7 T77 (p5 T77 (f8 T77 W (t*8+3) (h.2.1+1)) (t*8+1) false) (t*8)=b7 T77 W (t*8):=by
      rw [U9 _ k1,l9 W k4 (by rw [a5x]; omega),if_neg (by omega)]
    have e1:b7 T77 (f8 T77 W (t*8+3) (h.2.1+1)) ((t*8+4)+l.2.1.toNat*1)=rgU h l.2.1:=by
      rw [← rg _ a1];exact a74 ht W _ a1
    rw [if_pos (decide_eq_true h7),b5 a1'.1,b5 a1'.2,b5 (Q9 ht a1),b5 (by rw [m5]; omega),b5 (by rw [m5]; omega),b5 k1,b5 k2,e0,b5 (by rw [m5]; omega),b5 k2,e1];rw [if_pos h7]; rfl
  · rw [if_neg (by rw [decide_eq_true_eq]; exact h7),b9M ht ok _ v h7 (fun a ha=>by rw [a74 ht W _ ha,rg a ha]; exact r9 a ha),Option.bind_some];rw [if_neg h7]; rfl
end Go.Proofs.YtanaeefeggokkaaGreat
