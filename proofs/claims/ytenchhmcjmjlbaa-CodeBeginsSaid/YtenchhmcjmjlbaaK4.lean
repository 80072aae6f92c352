import Derived.Test.YtenchhmcjmjlbaaK3
namespace Go.Proofs.Ytenchhmcjmjlbaa
open Go.RowKit
set_option linter.unusedVariables false
set_option linter.unusedSimpArgs false
theorem intAt_putX {t:Ty} {k:IntKind}:∀ (u:Ty) (x:El t) {j q:Nat} (v:El u),partOK t u j=true→kAt t q=some (some k)→intAt t (putX t u x j v) q=if j≤q∧q<j+u.size then intAt u v (q - j) else intAt t x q
  | .int i,x,j,q,v,h,hq=>by
    have hj:=partOK_int h
    show intAt t (setInt t x j v) q=_
    rw [intAt_setIntM x hj (kAt_lt hq)]
    by_cases e:q=j
    · subst e; rw [if_pos rfl,if_pos ⟨Nat.le_refl _,by show q<q+1; omega⟩]; rfl
    · rw [if_neg e,if_neg (by show ¬ (j≤q∧q<j+1); omega)]
  | .bool,x,j,q,v,h,hq=>by
    have hj:=partOK_bool h
    show intAt t (setBool t x j v) q=_
    rw [intAt_setBoolM x hj,if_neg]
    rintro ⟨h1,h2⟩
    have:q=j:=by have h3:q<j+1:=h2; omega
    subst this
    rw [hj] at hq; cases hq
  | .unit,x,j,q,v,h,hq=>by
    show intAt t x q=_
    rw [if_neg (by show ¬ (j≤q∧q<j+0); omega)]
  | .pair a b,x,j,q,v,h,hq=>by
    obtain ⟨h1,h2⟩:=partOK_pair h
    show intAt t (putX t b (putX t a x j v.1) (j+a.size) v.2) q=_
    rw [intAt_putX b _ v.2 h2 hq,intAt_putX a x v.1 h1 hq]
    have e:Ty.size (.pair a b)=a.size+b.size:=rfl
    rw [e]
    by_cases c1:j+a.size≤q∧q<j+a.size+b.size
    · rw [if_pos c1,if_pos (by omega)]
      show _=if q - j<a.size then _ else intAt b v.2 (q - j - a.size)
      rw [if_neg (by omega)]
      congr 1; omega
    · rw [if_neg c1]
      by_cases c2:j≤q∧q<j+a.size
      · rw [if_pos c2,if_pos (by omega)]
        show _=if q - j<a.size then intAt a v.1 (q - j) else _
        rw [if_pos (by omega)]
      · rw [if_neg c2,if_neg (by omega)]
  | .sl a,x,j,q,v,h,hq=>absurd h fun h=>(partOK_sl h).elim
theorem boolAt_putX {t:Ty}:∀ (u:Ty) (x:El t) {j q:Nat} (v:El u),partOK t u j=true→kAt t q=some none→boolAt t (putX t u x j v) q=if j≤q∧q<j+u.size then boolAt u v (q - j) else boolAt t x q
  | .int i,x,j,q,v,h,hq=>by
    have hj:=partOK_int h
    show boolAt t (setInt t x j v) q=_
    rw [boolAt_setIntM x hj,if_neg]
    rintro ⟨h1,h2⟩
    have:q=j:=by have h3:q<j+1:=h2; omega
    subst this
    rw [hj] at hq; cases hq
  | .bool,x,j,q,v,h,hq=>by
    have hj:=partOK_bool h
    show boolAt t (setBool t x j v) q=_
    rw [boolAt_setBoolM x hj (kAt_lt hq)]
    by_cases e:q=j
    · subst e; rw [if_pos rfl,if_pos ⟨Nat.le_refl _,by show q<q+1; omega⟩]; rfl
    · rw [if_neg e,if_neg (by show ¬ (j≤q∧q<j+1); omega)]
  | .unit,x,j,q,v,h,hq=>by
    show boolAt t x q=_
    rw [if_neg (by show ¬ (j≤q∧q<j+0); omega)]
  | .pair a b,x,j,q,v,h,hq=>by
    obtain ⟨h1,h2⟩:=partOK_pair h
    show boolAt t (putX t b (putX t a x j v.1) (j+a.size) v.2) q=_
    rw [boolAt_putX b _ v.2 h2 hq,boolAt_putX a x v.1 h1 hq]
    have e:Ty.size (.pair a b)=a.size+b.size:=rfl
    rw [e]
    by_cases c1:j+a.size≤q∧q<j+a.size+b.size
    · rw [if_pos c1,if_pos (by omega)]
      show _=if q - j<a.size then _ else boolAt b v.2 (q - j - a.size)
      rw [if_neg (by omega)]
      congr 1; omega
    · rw [if_neg c1]
      by_cases c2:j≤q∧q<j+a.size
      · rw [if_pos c2,if_pos (by omega)]
        show _=if q - j<a.size then boolAt a v.1 (q - j) else _
        rw [if_pos (by omega)]
      · rw [if_neg c2,if_neg (by omega)]
  | .sl a,x,j,q,v,h,hq=>absurd h fun h=>(partOK_sl h).elim
abbrev Cl:Type:=Int×Int×Int×Int×Int×Int
theorem kC_all:∀ q<36,kAt T86 q=some (some .i64):=by decide +kernel
theorem pC_all:∀ k<6,partOK T86 (Ty.pair (Ty.int IntKind.i64) (Ty.pair (Ty.int IntKind.i64) (Ty.pair (Ty.int IntKind.i64) (Ty.pair (Ty.int IntKind.i64) (Ty.pair (Ty.int IntKind.i64) (Ty.int IntKind.i64)))))) (k*6)=true:=by decide +kernel
theorem pW_all:∀ t<2,partOK T85 (Ty.pair (Ty.int IntKind.i64) (Ty.pair Ty.bool (Ty.pair (Ty.int IntKind.i64) (Ty.pair (Ty.int IntKind.i64) (Ty.pair (Ty.int IntKind.i64) (Ty.pair (Ty.int IntKind.i64) (Ty.pair (Ty.int IntKind.i64) (Ty.int IntKind.i64)))))))) (t*8)=true:=by decide +kernel
theorem T61s:Ty.size T86=36:=rfl
def subC (K:El T86) (k:Nat):Cl:=(intAt T86 K (k*6),intAt T86 K (k*6+1),intAt T86 K (k*6+2),intAt T86 K (k*6+3),intAt T86 K (k*6+4),intAt T86 K (k*6+5))
theorem list_subC (K:El T86):listT (Ty.pair (Ty.int IntKind.i64) (Ty.pair (Ty.int IntKind.i64) (Ty.pair (Ty.int IntKind.i64) (Ty.pair (Ty.int IntKind.i64) (Ty.pair (Ty.int IntKind.i64) (Ty.int IntKind.i64)))))) 6 K=(List.range 6).map (subC K):=rfl
theorem subC_put (K:El T86) {k j:Nat} (hk:k<6) (hj:j<6) (x:Cl):subC (putX T86 (Ty.pair (Ty.int IntKind.i64) (Ty.pair (Ty.int IntKind.i64) (Ty.pair (Ty.int IntKind.i64) (Ty.pair (Ty.int IntKind.i64) (Ty.pair (Ty.int IntKind.i64) (Ty.int IntKind.i64)))))) K (k*6) x) j=if j=k then x else subC K j:=by
  have hp:=pC_all k hk
  have g:∀ i,i<6→intAt T86 (putX T86 (Ty.pair (Ty.int IntKind.i64) (Ty.pair (Ty.int IntKind.i64) (Ty.pair (Ty.int IntKind.i64) (Ty.pair (Ty.int IntKind.i64) (Ty.pair (Ty.int IntKind.i64) (Ty.int IntKind.i64)))))) K (k*6) x) (j*6+i)=if j=k then intAt (Ty.pair (Ty.int IntKind.i64) (Ty.pair (Ty.int IntKind.i64) (Ty.pair (Ty.int IntKind.i64) (Ty.pair (Ty.int IntKind.i64) (Ty.pair (Ty.int IntKind.i64) (Ty.int IntKind.i64)))))) x i else intAt T86 K (j*6+i):=fun i hi=>by
    rw [intAt_putX (Ty.pair (Ty.int IntKind.i64) (Ty.pair (Ty.int IntKind.i64) (Ty.pair (Ty.int IntKind.i64) (Ty.pair (Ty.int IntKind.i64) (Ty.pair (Ty.int IntKind.i64) (Ty.int IntKind.i64)))))) K x hp (kC_all (j*6+i) (by omega))]
    have e:Ty.size (Ty.pair (Ty.int IntKind.i64) (Ty.pair (Ty.int IntKind.i64) (Ty.pair (Ty.int IntKind.i64) (Ty.pair (Ty.int IntKind.i64) (Ty.pair (Ty.int IntKind.i64) (Ty.int IntKind.i64))))))=6:=rfl
    rw [e]
    by_cases c:j=k
    · subst c; rw [if_pos (by omega),if_pos rfl]; congr 1; omega
    · rw [if_neg (by omega),if_neg c]
  unfold subC
  have g0:=g 0 (by omega)
  rw [Nat.add_zero] at g0
  rw [g0,g 1 (by omega),g 2 (by omega),g 3 (by omega),g 4 (by omega),g 5 (by omega)]
  by_cases c:j=k
  · simp only [c,if_true]; rfl
  · simp only [c,if_false]
theorem subC_ret (K:El T86) {k j:Nat} (hk:k<6) (hj:j<6) (s e:Int):subC (setInt T86 (setInt T86 K (k*6+3) s) (k*6+5) e) j=if j=k then ((subC K k).1,(subC K k).2.1,(subC K k).2.2.1,s,(subC K k).2.2.2.2.1,e) else subC K j:=by
  have g:∀ i,i<6→intAt T86 (setInt T86 (setInt T86 K (k*6+3) s) (k*6+5) e) (j*6+i)=if j=k then (if i=5 then e else if i=3 then s else intAt T86 K (k*6+i)) else intAt T86 K (j*6+i):=fun i hi=>by
    rw [intAt_setIntM _ (kC_all (k*6+5) (by omega)) (by rw [T61s]; omega),intAt_setIntM _ (kC_all (k*6+3) (by omega)) (by rw [T61s]; omega)]
    by_cases c:j=k
    · subst c
      rw [if_pos (rfl:j=j)]
      by_cases i5:i=5
      · subst i5; rw [if_pos rfl,if_pos rfl]
      · rw [if_neg (by omega),if_neg i5]
        by_cases i3:i=3
        · subst i3; rw [if_pos rfl,if_pos rfl]
        · rw [if_neg (by omega),if_neg i3]
    · rw [if_neg (by omega),if_neg (by omega),if_neg c]
  unfold subC
  have g0:=g 0 (by omega)
  simp only [Nat.add_zero] at g0
  rw [g0,g 1 (by omega),g 2 (by omega),g 3 (by omega),g 4 (by omega),g 5 (by omega)]
  by_cases c:j=k
  · simp [c]
  · simp only [c,if_false]
/-! ### What holds along a schedule -/
def opC (hist:ZH) (h:Hd):Int:=(hist.getD h.2.2.2.1.toNat (0,0,0,0,0,0)).2.2.1
structure RO (p:Cd) (w:Nat) (W:El T85) (hist:ZH) (ul:List Int) (h:Hd):Prop where
  r1:intAt T85 W w<ul.length
  cs:h.1=intAt T85 W w+1
  cl:intAt T85 W (w+2)=h.2.2.2.1
  ln:intAt T85 W (w+3)=h.2.1
  rg:∀ a,rB a 4=true→rgW W w a=rgU h a
  r9:∀ a,rB a 4=true→0≤rgU h a∧rgU h a≤9
  c0:0≤h.2.2.2.1
  c1:h.2.2.2.1<hist.length
  o0:0≤opC hist h
  o1:opC hist h<p.length
  l0:0≤h.2.1
  l1:h.2.1<((p.getD (opC hist h).toNat []).length:Int)
structure RH (p:Cd) (w:Nat) (W:El T85) (hist:ZH) (ul:List Int) (h:Hd):Prop where
  bo:boolAt T85 W (w+1)=h.2.2.1
  r0:0≤intAt T85 W w
  r1:intAt T85 W w≤ul.length
  no:h.2.2.1=false→h.1=intAt T85 W w
  op:h.2.2.1=true→RO p w W hist ul h
def cnt (W:El T85) (t:Nat):Int:=intAt T85 W (t*8)+if boolAt T85 W (t*8+1)=true then 1 else 0
def fit6 (c:Cl):Prop:=(0≤c.1∧c.1≤1000)∧(0≤c.2.1∧c.2.1≤1000)∧(0≤c.2.2.1∧c.2.2.1≤1000)∧(0≤c.2.2.2.1∧c.2.2.2.1≤1000)∧(0≤c.2.2.2.2.1∧c.2.2.2.2.1≤1000)∧0≤c.2.2.2.2.2∧c.2.2.2.2.2≤1000
structure Inv (p:Cd) (u:Us) (W:El T85) (K:El T86) (bg:Int) (v:C3) (hs:List Hd) (hist:ZH) (marked:List Int):Prop where
  hl:hs.length=u.length
  rh:∀ t,t<u.length→RH p (t*8) W hist (u.getD t []) (hs.getD t (0,0,false,0,0,0,0,0))
  bg:bg=hist.length
  tt:(hist.length:Int)=cnt W 0+(if 1<u.length then cnt W 1 else 0)
  cc:∀ k,k<hist.length→subC K k=hist.getD k (0,0,0,0,0,0)
  cv:c9 v
  ml:marked.length=hist.length
  ft:∀ k,k<hist.length→fit6 (hist.getD k (0,0,0,0,0,0))
theorem vldU_len {p:Cd} {u:Us} (h:vldU p u=true):1≤u.length∧u.length≤2∧∀ t,(u.getD t []).length≤3∧∀ o∈u.getD t [],0≤o∧o<(p.length:Int):=by
  unfold vldU at h
  simp only [Bool.and_eq_true,decide_eq_true_eq,List.all_eq_true] at h
  refine ⟨h.1.1,h.1.2,fun t=>?_⟩
  by_cases ht:t<u.length
  · have:=h.2 _ (getD_in (d:=[]) ht)
    unfold okW at this
    simp only [Bool.and_eq_true,decide_eq_true_eq,List.all_eq_true] at this
    exact ⟨this.1,fun o ho=>rB_iff.1 (this.2 o ho)⟩
  · rw [List.getD_eq_getElem?_getD,List.getElem?_eq_none (by omega)]; simp
theorem vldC_call {p:Cd} (h:vldC p=true) {o:Nat} (ho:o<p.length):okCl (p.getD o [])=true:=by
  unfold vldC at h
  simp only [Bool.and_eq_true,List.all_eq_true] at h
  exact h.2 _ (getD_in ho)
theorem cnt_le {p:Cd} {u:Us} (hu:vldU p u=true) {t:Nat} {W:El T85} {hist:ZH} {h:Hd} (r:RH p (t*8) W hist (u.getD t []) h):0≤cnt W t∧cnt W t≤3:=by
  have h3:=((vldU_len hu).2.2 t).1
  have h0:=r.r0
  have h1:=r.r1
  unfold cnt
  rw [r.bo]
  cases hb:h.2.2.1 with
  | false=>rw [if_neg (by simp)]; omega
  | true=>rw [if_pos rfl]; have:=(r.op hb).r1; omega
theorem inv_len {p:Cd} {u:Us} (hu:vldU p u=true) {W:El T85} {K:El T86} {bg:Int} {v:C3} {hs:List Hd} {hist:ZH} {mk:List Int} (h:Inv p u W K bg v hs hist mk):hist.length≤6:=by
  have hl:=vldU_len hu
  have h0:=cnt_le hu (h.rh 0 (by omega))
  have ht:=h.tt
  split at ht
  · rename_i c
    have h1:=cnt_le hu (h.rh 1 c)
    omega
  · omega
theorem rgW_line {t:Nat} (ht:t<2) (W:El T85) (x:Int) {a:Int} (ha:rB a 4=true):rgW (setInt T85 W (t*8+3) x) (t*8) a=rgW W (t*8) a:=by
  have:=rB_iff.1 ha
  unfold rgW
  rw [intAt_setIntM W (kW_all t ht).2.2.2.2.1 (by rw [T60s]; omega),if_neg (by omega)]
abbrev Rn:Type:=(Cd×Us)×List Int×El T80×(Int×Int×Int)×El T85×El T86×Int
def putD (D:El T80) (k:Nat) (d:Int×Int):El T80:=putX T80 (.pair (.int .i64) (.int .i64)) D (k*2) d
theorem prog_k1 {p:Cd} {u:Us} {t:Nat} (ht:t<2) {W:El T85} {K:El T86} {bg:Int} {hist:ZH} {ul:List Int} {h:Hd} (r:RO p (t*8) W hist ul h) (hk:h.2.2.2.1<6) (hc:subC K h.2.2.2.1.toNat=hist.getD h.2.2.2.1.toNat (0,0,0,0,0,0)) (hr:0≤intAt T85 W (t*8)) (hr3:ul.length≤3)
    (s:List Int) (hs:s.length<12) (D:El T80) (v:C3) (W0:El T85) (K0:El T86) (bg0:Int) {l:Ln} (hl:(p.getD (opC hist h).toNat []).getD h.2.1.toNat (0,0,0,0)=l) (ok:okL l ((p.getD (opC hist h).toNat []).length:Int)=true) (hlen:(p.getD (opC hist h).toNat []).length≤8) :
    code_run_step_k1 ((p,u),s,D,v,W0,K0,bg0) (t:Int) (W,K,bg)=some (if l.1=7 then (putD D s.length (h.2.2.2.1,h.2.1),v.1,v.2.1,v.2.2,setInt T85 (setBool T85 (setInt T85 W (t*8+3) (h.2.1+1)) (t*8+1) false) (t*8) (intAt T85 W (t*8)+1),setInt T86 (setInt T86 K (h.2.2.2.1.toNat*6+3) (rgU h l.2.1)) (h.2.2.2.1.toNat*6+5) (2*(s.length:Int)+2),bg)
      else (putD D s.length (h.2.2.2.1,h.2.1),(doW l (t*8) (setInt T85 W (t*8+3) (h.2.1+1)) v).2.1,(doW l (t*8) (setInt T85 W (t*8+3) (h.2.1+1)) v).2.2.1,(doW l (t*8) (setInt T85 W (t*8+3) (h.2.1+1)) v).2.2.2,(doW l (t*8) (setInt T85 W (t*8+3) (h.2.1+1)) v).1,K,bg)):=by
  obtain ⟨k0,k1,k2,k3,k4,k5⟩:=kW_all t ht
  obtain ⟨r1,cs,cl,ln,rg,r9,c0,c1,o0,o1,l0,l1⟩:=r
  have ho:intAt T86 K (h.2.2.2.1.toNat*6+2)=opC hist h:=by
    have:=congrArg (fun c:Cl=>c.2.2.1) hc
    exact this
  unfold code_run_step_k1
  dsimp only
  rw [Int.toNat_natCast,cl,ho,ln,hl,ck_pos k3,ck_pos c0,ck_pos hk,ck_pos o0,ck_pos o1,ck_pos k4,ck_pos l0,ck_pos l1,ck_pos k3,ck_pos k4,ck_pos (by omega),ck_pos k4,ck_pos (by rw [inK_i64]; omega),ck_pos k4]
  by_cases h7:l.1=7
  · unfold okL at ok
    rw [if_neg (by omega),if_neg (by omega),if_neg (by omega),if_neg (by omega),if_neg (by omega),if_neg (by omega),if_pos h7,Bool.and_eq_true] at ok
    have a1:=ok.1
    have a1':=rB_iff.1 a1
    have e0:intAt T85 (setBool T85 (setInt T85 W (t*8+3) (h.2.1+1)) (t*8+1) false) (t*8)=intAt T85 W (t*8):=by
      rw [intAt_setBoolM _ k1,intAt_setIntM W k4 (by rw [T60s]; omega),if_neg (by omega)]
    have e1:intAt T85 (setInt T85 W (t*8+3) (h.2.1+1)) ((t*8+4)+l.2.1.toNat*1)=rgU h l.2.1:=by
      rw [← rg _ a1]
      exact rgW_line ht W _ a1
    rw [if_pos (decide_eq_true h7),ck_pos a1'.1,ck_pos a1'.2,ck_pos (kW_reg ht a1),ck_pos (by rw [inK_i64]; omega),ck_pos (by rw [inK_i64]; omega),ck_pos k1,ck_pos k2,e0,ck_pos (by rw [inK_i64]; omega),ck_pos k2,e1]
    rw [if_pos h7]; rfl
  · rw [if_neg (by rw [decide_eq_true_eq]; exact h7),do_eq ht ok _ v h7 (fun a ha=>by rw [rgW_line ht W _ ha,rg a ha]; exact r9 a ha),Option.bind_some]
    rw [if_neg h7]; rfl
end Go.Proofs.Ytenchhmcjmjlbaa
