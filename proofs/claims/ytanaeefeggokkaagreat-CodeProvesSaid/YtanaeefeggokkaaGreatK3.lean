import Derived.Test.YtanaeefeggokkaaGreatK2
namespace Go.Proofs.YtanaeefeggokkaaGreat
open Go.RowKit
set_option linter.unusedVariables false
set_option linter.unusedSimpArgs false
def rgW (W:El T77) (w:Nat) (a:Int):Int:=b7 T77 W ((w+4)+a.toNat*1)
def stW (W:El T77) (w:Nat) (a v:Int):El T77:=f8 T77 W ((w+4)+a.toNat*1) v
theorem a1O:∀ t<2,(∀ a<4,kAt T77 ((t*8+4)+a*1)=some (some .i64))∧kAt T77 (t*8+1)=some none∧kAt T77 (t*8)=some (some .i64)∧kAt T77 (t*8+2)=some (some .i64)∧kAt T77 (t*8+3)=some (some .i64)∧kAt T77 ((t*8+4)+3)=some (some .i64):=by decide +kernel
theorem Q9 {t:Nat} (ht:t<2) {a:Int} (h:rB a 4=true):kAt T77 ((t*8+4)+a.toNat*1)=some (some .i64):=by
  rw [r7] at h;exact (a1O t ht).1 a.toNat (by omega)
def doW (l:Ln) (w:Nat) (W:El T77) (v:C3):El T77×C3 :=
  if l.1=1 then (stW W w l.2.1 (a4S v l.2.2.1),v)
  else if l.1=2 then (W,a8R v l.2.1 (rgW W w l.2.2.1))
  else if l.1=3 then (if a4S v l.2.1=rgW W w l.2.2.1 then (f8 T77 W ((w+4)+3) 1,a8R v l.2.1 (rgW W w l.2.2.2)) else (f8 T77 W ((w+4)+3) 0,v))
  else if l.1=4 then (stW W w l.2.1 l.2.2.1,v)
  else if l.1=5 then (stW W w l.2.1 ((rgW W w l.2.2.1+rgW W w l.2.2.2) % 10),v)
  else if l.1=6 then (if rgW W w l.2.1=0 then (f8 T77 W (w+3) l.2.2.1,v) else (W,v))
  else (W,v)
set_option maxHeartbeats 4000000 in
theorem b9M {t:Nat} (ht:t<2) {l:Ln} {m:Int} (ok:okL l m=true) (W:El T77) (v:C3) (h7:l.1≠7) (rg:∀ a,rB a 4=true→0≤rgW W (t*8) a∧rgW W (t*8) a≤9) (p:Cd) (u:Us) (D:El T72) (K:El T78) (b:Int) (s:List Int) :
    V5 (t*8) l p u D v.1 v.2.1 v.2.2 W K b s=some ((doW l (t*8) W v).2.1,(doW l (t*8) W v).2.2.1,(doW l (t*8) W v).2.2.2,(doW l (t*8) W v).1):=by
  obtain ⟨k0,k1,k2,k3,k4,k5⟩:=a1O t ht;unfold V5;unfold okL at ok;unfold doW
  by_cases e1:l.1=1
  · rw [if_pos e1,Bool.and_eq_true,Bool.and_eq_true] at ok;obtain ⟨a1,a2,_⟩:=ok;have a1':=r7.1 a1;have a2':=r7.1 a2;rw [if_pos (decide_eq_true e1),if_pos e1,b5 a2'.1,b5 a2'.2];unfold a4S stW
    by_cases b0:l.2.2.1=0
    · rw [if_pos (decide_eq_true b0),if_pos b0,b5 a1'.1,b5 a1'.2,b5 (Q9 ht a1)]
    · rw [if_neg (by rw [decide_eq_true_eq]; exact b0),if_neg b0]
      by_cases b1:l.2.2.1=1
      · rw [if_pos (decide_eq_true b1),if_pos b1,b5 a1'.1,b5 a1'.2,b5 (Q9 ht a1)]
      · rw [if_neg (by rw [decide_eq_true_eq]; exact b1),if_neg b1,b5 a1'.1,b5 a1'.2,b5 (Q9 ht a1)]
  · rw [if_neg e1] at ok;rw [if_neg (by rw [decide_eq_true_eq]; exact e1),if_neg e1]
    by_cases e2:l.1=2
    · rw [if_pos e2,Bool.and_eq_true,Bool.and_eq_true] at ok;obtain ⟨a1,a2,_⟩:=ok;have a1':=r7.1 a1;have a2':=r7.1 a2;rw [if_pos (decide_eq_true e2),if_pos e2,b5 a2'.1,b5 a2'.2,b5 (Q9 ht a2),b5 a1'.1,b5 a1'.2];unfold a8R
      by_cases b0:l.2.1=0
      · rw [if_pos (decide_eq_true b0),if_pos b0]; rfl
      · rw [if_neg (by rw [decide_eq_true_eq]; exact b0),if_neg b0]
        by_cases b1:l.2.1=1
        · rw [if_pos (decide_eq_true b1),if_pos b1]; rfl
        · rw [if_neg (by rw [decide_eq_true_eq]; exact b1),if_neg b1]; rfl
    · rw [if_neg e2] at ok;rw [if_neg (by rw [decide_eq_true_eq]; exact e2),if_neg e2]
      by_cases e3:l.1=3
      · rw [if_pos e3,Bool.and_eq_true,Bool.and_eq_true] at ok;obtain ⟨a1,a2,a3⟩:=ok;have a1':=r7.1 a1;have a2':=r7.1 a2;have a3':=r7.1 a3;rw [if_pos (decide_eq_true e3),if_pos e3,b5 a1'.1,b5 a1'.2];unfold a4S a8R rgW
        by_cases b0:l.2.1=0
        · rw [if_pos (decide_eq_true b0),if_pos b0,if_pos b0,b5 a2'.1,b5 a2'.2,b5 (Q9 ht a2)]
          by_cases q:v.1=b7 T77 W ((t*8+4)+l.2.2.1.toNat*1)
          · rw [if_pos (decide_eq_true q),if_pos q,b5 a3'.1,b5 a3'.2,b5 (Q9 ht a3),b5 k5]
          · rw [if_neg (by rw [decide_eq_true_eq]; exact q),if_neg q,b5 k5]
        · rw [if_neg (by rw [decide_eq_true_eq]; exact b0),if_neg b0,if_neg b0]
          by_cases b1:l.2.1=1
          · rw [if_pos (decide_eq_true b1),if_pos b1,if_pos b1,b5 a2'.1,b5 a2'.2,b5 (Q9 ht a2)]
            by_cases q:v.2.1=b7 T77 W ((t*8+4)+l.2.2.1.toNat*1)
            · rw [if_pos (decide_eq_true q),if_pos q,b5 a3'.1,b5 a3'.2,b5 (Q9 ht a3),b5 k5]
            · rw [if_neg (by rw [decide_eq_true_eq]; exact q),if_neg q,b5 k5]
          · rw [if_neg (by rw [decide_eq_true_eq]; exact b1),if_neg b1,if_neg b1,b5 a2'.1,b5 a2'.2,b5 (Q9 ht a2)]
            by_cases q:v.2.2=b7 T77 W ((t*8+4)+l.2.2.1.toNat*1)
            · rw [if_pos (decide_eq_true q),if_pos q,b5 a3'.1,b5 a3'.2,b5 (Q9 ht a3),b5 k5]
            · rw [if_neg (by rw [decide_eq_true_eq]; exact q),if_neg q,b5 k5]
      · rw [if_neg e3] at ok;rw [if_neg (by rw [decide_eq_true_eq]; exact e3),if_neg e3]
        by_cases e4:l.1=4
        · rw [if_pos e4,Bool.and_eq_true,Bool.and_eq_true] at ok;obtain ⟨a1,a2,_⟩:=ok;have a1':=r7.1 a1;rw [if_pos (decide_eq_true e4),if_pos e4,b5 a1'.1,b5 a1'.2,b5 (Q9 ht a1)]; rfl
        · rw [if_neg e4] at ok;rw [if_neg (by rw [decide_eq_true_eq]; exact e4),if_neg e4]
          by_cases e5:l.1=5
          · rw [if_pos e5,Bool.and_eq_true,Bool.and_eq_true] at ok;obtain ⟨a1,a2,a3⟩:=ok;have a1':=r7.1 a1;have a2':=r7.1 a2;have a3':=r7.1 a3;have r2:=rg _ a2;have r3:=rg _ a3;unfold rgW at r2 r3;rw [if_pos (decide_eq_true e5),if_pos e5,b5 a2'.1,b5 a2'.2,b5 (Q9 ht a2),b5 a3'.1,b5 a3'.2,b5 (Q9 ht a3),b5 (by rw [m5]; omega),b5 (by omega),b5 a1'.1,b5 a1'.2,b5 (Q9 ht a1)]; rfl
          · rw [if_neg e5] at ok;rw [if_neg (by rw [decide_eq_true_eq]; exact e5),if_neg e5]
            by_cases e6:l.1=6
            · rw [if_pos e6,Bool.and_eq_true,Bool.and_eq_true] at ok;obtain ⟨a1,a2,_⟩:=ok;have a1':=r7.1 a1;rw [if_pos (decide_eq_true e6),if_pos e6,b5 a1'.1,b5 a1'.2,b5 (Q9 ht a1)];unfold rgW
              by_cases q:b7 T77 W ((t*8+4)+l.2.1.toNat*1)=0
              · rw [if_pos (decide_eq_true q),if_pos q,b5 k4]
              · rw [if_neg (by rw [decide_eq_true_eq]; exact q),if_neg q]
            · rw [if_neg e6,if_neg h7] at ok; cases ok
/-! ### What a line does,told once -/
def a7N (r:Int→Int) (a x:Int):Int→Int:=fun b=>if b=a then x else r b
def spc (l:Ln) (r:Int→Int) (ln:Int) (v:C3):(Int→Int)×Int×C3 :=
  if l.1=1 then (a7N r l.2.1 (a4S v l.2.2.1),ln,v)
  else if l.1=2 then (r,ln,a8R v l.2.1 (r l.2.2.1))
  else if l.1=3 then (if a4S v l.2.1=r l.2.2.1 then (a7N r 3 1,ln,a8R v l.2.1 (r l.2.2.2)) else (a7N r 3 0,ln,v))
  else if l.1=4 then (a7N r l.2.1 l.2.2.1,ln,v)
  else if l.1=5 then (a7N r l.2.1 ((r l.2.2.1+r l.2.2.2) % 10),ln,v)
  else if l.1=6 then (if r l.2.1=0 then (r,l.2.2.1,v) else (r,ln,v))
  else (r,ln,v)
theorem b12 (h:Hd) {a:Int} (x:Int) {b:Int} (ha:rB a 4=true) (hb:rB b 4=true):rgU (stU h a x) b=if b=a then x else rgU h b:=by
  rcases a1I ha with rfl|rfl|rfl|rfl<;>rcases a1I hb with rfl|rfl|rfl|rfl<;>rfl
theorem b5A (h:Hd) (x:Int) {b:Int} (hb:rB b 4=true):rgU (r3U h x) b=if b=3 then x else rgU h b:=by
  rcases a1I hb with rfl|rfl|rfl|rfl<;>rfl
theorem a5x:Ty.size T77=16:=rfl
theorem b11 {t:Nat} (ht:t<2) (W:El T77) {a:Int} (x:Int) {b:Int} (ha:rB a 4=true) (hb:rB b 4=true):rgW (stW W (t*8) a x) (t*8) b=if b=a then x else rgW W (t*8) b:=by
  unfold rgW stW;have ha':=r7.1 ha;have hb':=r7.1 hb;rw [l9 W (Q9 ht ha) (by rw [a5x]; omega)]
  by_cases e:b=a
  · rw [if_pos (by rw [e]),if_pos e]
  · rw [if_neg (by omega),if_neg e]
theorem b5z {t:Nat} (ht:t<2) (W:El T77) (x:Int) {b:Int} (hb:rB b 4=true):rgW (f8 T77 W ((t*8+4)+3) x) (t*8) b=if b=3 then x else rgW W (t*8) b:=by
  unfold rgW;have hb':=r7.1 hb;rw [l9 W (a1O t ht).2.2.2.2.2 (by rw [a5x]; omega)]
  by_cases e:b=3
  · subst e; rw [if_pos (by omega),if_pos rfl]
  · rw [if_neg (by omega),if_neg e]
theorem b3r {l:Ln} {m:Int} (ok:okL l m=true) (h:Hd) (v:C3) :
    (∀ a,rB a 4=true→rgU (doU l h v).1 a=(spc l (rgU h) h.2.1 v).1 a)∧(doU l h v).1.2.1=(spc l (rgU h) h.2.1 v).2.1∧(doU l h v).2=(spc l (rgU h) h.2.1 v).2.2∧(doU l h v).1.1=h.1∧(doU l h v).1.2.2.1=h.2.2.1∧(doU l h v).1.2.2.2.1=h.2.2.2.1:=by
  unfold okL at ok;unfold doU spc
  by_cases e1:l.1=1
  · simp only [e1,if_true,Bool.and_eq_true] at ok ⊢;have f:=a9I h (a4S v l.2.2.1) ok.1;exact ⟨fun a ha=>b12 h _ ok.1 ha,f.2.1,(by trivial),f.1,f.2.2.1,f.2.2.2⟩
  · simp only [e1,if_false] at ok ⊢
    by_cases e2:l.1=2
    · simp only [e2,if_true] at ok ⊢;exact ⟨fun a ha=>(by trivial),(by trivial),(by trivial),(by trivial),(by trivial),(by trivial)⟩
    · simp only [e2,if_false] at ok ⊢
      by_cases e3:l.1=3
      · simp only [e3,if_true] at ok ⊢
        by_cases q:a4S v l.2.1=rgU h l.2.2.1
        · simp only [q,if_true];exact ⟨fun a ha=>b5A h 1 ha,(by trivial),(by trivial),(by trivial),(by trivial),(by trivial)⟩
        · simp only [q,if_false];exact ⟨fun a ha=>b5A h 0 ha,(by trivial),(by trivial),(by trivial),(by trivial),(by trivial)⟩
      · simp only [e3,if_false] at ok ⊢
        by_cases e4:l.1=4
        · simp only [e4,if_true,Bool.and_eq_true] at ok ⊢;have f:=a9I h l.2.2.1 ok.1;exact ⟨fun a ha=>b12 h _ ok.1 ha,f.2.1,(by trivial),f.1,f.2.2.1,f.2.2.2⟩
        · simp only [e4,if_false] at ok ⊢
          by_cases e5:l.1=5
          · simp only [e5,if_true,Bool.and_eq_true] at ok ⊢;have f:=a9I h ((rgU h l.2.2.1+rgU h l.2.2.2) % 10) ok.1;exact ⟨fun a ha=>b12 h _ ok.1 ha,f.2.1,(by trivial),f.1,f.2.2.1,f.2.2.2⟩
          · simp only [e5,if_false] at ok ⊢
            by_cases e6:l.1=6
            · simp only [e6,if_true] at ok ⊢
              by_cases q:rgU h l.2.1=0
              · simp only [q,if_true];exact ⟨fun a ha=>by rcases a1I ha with rfl|rfl|rfl|rfl<;>rfl,by trivial,by trivial,by trivial,by trivial,by trivial⟩
              · simp only [q,if_false];exact ⟨fun a ha=>(by trivial),(by trivial),(by trivial),(by trivial),(by trivial),(by trivial)⟩
            · simp only [e6,if_false];exact ⟨fun a ha=>(by trivial),(by trivial),(by trivial),(by trivial),(by trivial),(by trivial)⟩
def b0N (w:Nat) (W W':El T77):Prop:=(∀ q,q<16→(q<w+3∨w+8≤q)→b7 T77 W' q=b7 T77 W q)∧∀ q,m6 T77 W' q=m6 T77 W q
theorem a6q {w j:Nat} {W:El T77} {x:Int} (hk:kAt T77 j=some (some .i64)) (h1:w+3≤j) (h2:j<w+8):b0N w W (f8 T77 W j x) :=
  ⟨fun q hq ho=>by rw [l9 W hk (by rw [a5x]; exact hq),if_neg (by omega)],fun q=>M2 W hk⟩
theorem a5c (w:Nat) (W:El T77):b0N w W W:=⟨fun _ _ _=>rfl,fun _=>rfl⟩
theorem b77 {t:Nat} (ht:t<2) {l:Ln} {m:Int} (ok:okL l m=true) (W:El T77) (v:C3) :
    (∀ a,rB a 4=true→rgW (doW l (t*8) W v).1 (t*8) a=(spc l (rgW W (t*8)) (b7 T77 W (t*8+3)) v).1 a)∧b7 T77 (doW l (t*8) W v).1 (t*8+3)=(spc l (rgW W (t*8)) (b7 T77 W (t*8+3)) v).2.1∧(doW l (t*8) W v).2=(spc l (rgW W (t*8)) (b7 T77 W (t*8+3)) v).2.2∧b0N (t*8) W (doW l (t*8) W v).1:=by
  obtain ⟨k0,k1,k2,k3,k4,k5⟩:=a1O t ht;have ln:∀ {a:Int} (x:Int),rB a 4=true→b7 T77 (stW W (t*8) a x) (t*8+3)=b7 T77 W (t*8+3):=fun x ha=>by
    unfold stW;rw [l9 W (Q9 ht ha) (by rw [a5x]; omega),if_neg (by omega)]
  have sm:∀ {a:Int} (x:Int),rB a 4=true→b0N (t*8) W (stW W (t*8) a x):=fun x ha=>by
    have:=r7.1 ha;exact a6q (Q9 ht ha) (by omega) (by omega)
  have ln3:∀ x:Int,b7 T77 (f8 T77 W ((t*8+4)+3) x) (t*8+3)=b7 T77 W (t*8+3):=fun x=>by
    rw [l9 W k5 (by rw [a5x]; omega),if_neg (by omega)]
  have sm3:∀ x:Int,b0N (t*8) W (f8 T77 W ((t*8+4)+3) x):=fun x=>a6q k5 (by omega) (by omega);unfold okL at ok;unfold doW spc
  by_cases e1:l.1=1
  · simp only [e1,if_true,Bool.and_eq_true] at ok ⊢;exact ⟨fun a ha=>b11 ht W _ ok.1 ha,ln _ ok.1,(by trivial),sm _ ok.1⟩
  · simp only [e1,if_false] at ok ⊢
    by_cases e2:l.1=2
    · simp only [e2,if_true] at ok ⊢;exact ⟨fun a ha=>(by trivial),(by trivial),(by trivial),a5c _ _⟩
    · simp only [e2,if_false] at ok ⊢
      by_cases e3:l.1=3
      · simp only [e3,if_true] at ok ⊢
        by_cases q:a4S v l.2.1=rgW W (t*8) l.2.2.1
        · simp only [q,if_true];exact ⟨fun a ha=>b5z ht W 1 ha,ln3 1,(by trivial),sm3 1⟩
        · simp only [q,if_false];exact ⟨fun a ha=>b5z ht W 0 ha,ln3 0,(by trivial),sm3 0⟩
      · simp only [e3,if_false] at ok ⊢
        by_cases e4:l.1=4
        · simp only [e4,if_true,Bool.and_eq_true] at ok ⊢;exact ⟨fun a ha=>b11 ht W _ ok.1 ha,ln _ ok.1,(by trivial),sm _ ok.1⟩
        · simp only [e4,if_false] at ok ⊢
          by_cases e5:l.1=5
          · simp only [e5,if_true,Bool.and_eq_true] at ok ⊢;exact ⟨fun a ha=>b11 ht W _ ok.1 ha,ln _ ok.1,(by trivial),sm _ ok.1⟩
          · simp only [e5,if_false] at ok ⊢
            by_cases e6:l.1=6
            · simp only [e6,if_true] at ok ⊢
              by_cases q:rgW W (t*8) l.2.1=0
              · simp only [q,if_true];refine ⟨fun a ha=>?_,?_,(by trivial),a6q k4 (by omega) (by omega)⟩
                · unfold rgW;have:=r7.1 ha;rw [l9 W k4 (by rw [a5x]; omega),if_neg (by omega)]
                · rw [l9 W k4 (by rw [a5x]; omega),if_pos rfl]
              · simp only [q,if_false];exact ⟨fun a ha=>(by trivial),(by trivial),(by trivial),a5c _ _⟩
            · simp only [e6,if_false];exact ⟨fun a ha=>(by trivial),(by trivial),(by trivial),a5c _ _⟩
theorem b3U {l:Ln} {m:Int} (ok:okL l m=true) {r r':Int→Int} (hr:∀ a,rB a 4=true→r a=r' a) (ln:Int) (v:C3) :
    (∀ a,rB a 4=true→(spc l r ln v).1 a=(spc l r' ln v).1 a)∧(spc l r ln v).2=(spc l r' ln v).2:=by
  have hu:∀ (x y:Int),∀ a,rB a 4=true→a7N r x y a=a7N r' x y a:=fun x y a ha=>by unfold a7N; rw [hr a ha]
  unfold okL at ok;unfold spc
  by_cases e1:l.1=1
  · simp only [e1,if_true,Bool.and_eq_true] at ok ⊢;exact ⟨hu _ _,(by trivial)⟩
  · simp only [e1,if_false] at ok ⊢
    by_cases e2:l.1=2
    · simp only [e2,if_true,Bool.and_eq_true] at ok ⊢;rw [hr _ ok.2.1]; exact ⟨hr,(by trivial)⟩
    · simp only [e2,if_false] at ok ⊢
      by_cases e3:l.1=3
      · simp only [e3,if_true,Bool.and_eq_true] at ok ⊢;rw [hr _ ok.2.1,hr _ ok.2.2]
        by_cases q:a4S v l.2.1=r' l.2.2.1
        · simp only [q,if_true]; exact ⟨hu _ _,(by trivial)⟩
        · simp only [q,if_false]; exact ⟨hu _ _,(by trivial)⟩
      · simp only [e3,if_false] at ok ⊢
        by_cases e4:l.1=4
        · simp only [e4,if_true] at ok ⊢;exact ⟨hu _ _,(by trivial)⟩
        · simp only [e4,if_false] at ok ⊢
          by_cases e5:l.1=5
          · simp only [e5,if_true,Bool.and_eq_true] at ok ⊢;rw [hr _ ok.2.1,hr _ ok.2.2]; exact ⟨hu _ _,(by trivial)⟩
          · simp only [e5,if_false] at ok ⊢
            by_cases e6:l.1=6
            · simp only [e6,if_true,Bool.and_eq_true] at ok ⊢;rw [hr _ ok.1]
              by_cases q:r' l.2.1=0
              · simp only [q,if_true]; exact ⟨hr,(by trivial)⟩
              · simp only [q,if_false]; exact ⟨hr,(by trivial)⟩
            · simp only [e6,if_false]; exact ⟨hr,(by trivial)⟩
def c9 (v:C3):Prop:=(0≤v.1∧v.1≤9)∧(0≤v.2.1∧v.2.1≤9)∧0≤v.2.2∧v.2.2≤9
theorem b9w {v:C3} (h:c9 v) (b:Int):0≤a4S v b∧a4S v b≤9:=by
  unfold a4S; split; exact h.1; split; exact h.2.1; exact h.2.2
theorem b5t {v:C3} (h:c9 v) (a:Int) {x:Int} (hx:0≤x∧x≤9):c9 (a8R v a x):=by
  unfold a8R c9 at *; split; exact ⟨hx,h.2⟩; split; exact ⟨h.1,hx,h.2.2⟩; exact ⟨h.1,h.2.1,hx⟩
theorem b9C {l:Ln} {m:Int} (ok:okL l m=true) {r:Int→Int} (hr:∀ a,rB a 4=true→0≤r a∧r a≤9) {ln:Int} (h0:0≤ln∧ln<m) {v:C3} (hv:c9 v) :
    (∀ a,rB a 4=true→0≤(spc l r ln v).1 a∧(spc l r ln v).1 a≤9)∧(0≤(spc l r ln v).2.1∧(spc l r ln v).2.1<m)∧c9 (spc l r ln v).2.2:=by
  have hu:∀ (x y:Int),0≤y∧y≤9→∀ a,rB a 4=true→0≤a7N r x y a∧a7N r x y a≤9:=fun x y hy a ha=>by
    unfold a7N; split; exact hy; exact hr a ha
  unfold okL at ok;unfold spc
  by_cases e1:l.1=1
  · simp only [e1,if_true] at ok ⊢;exact ⟨hu _ _ (b9w hv _),h0,hv⟩
  · simp only [e1,if_false] at ok ⊢
    by_cases e2:l.1=2
    · simp only [e2,if_true,Bool.and_eq_true] at ok ⊢;exact ⟨hr,h0,b5t hv _ (hr _ ok.2.1)⟩
    · simp only [e2,if_false] at ok ⊢
      by_cases e3:l.1=3
      · simp only [e3,if_true,Bool.and_eq_true] at ok ⊢
        by_cases q:a4S v l.2.1=r l.2.2.1
        · simp only [q,if_true]; exact ⟨hu _ _ (by omega),h0,b5t hv _ (hr _ ok.2.2)⟩
        · simp only [q,if_false]; exact ⟨hu _ _ (by omega),h0,hv⟩
      · simp only [e3,if_false] at ok ⊢
        by_cases e4:l.1=4
        · simp only [e4,if_true,Bool.and_eq_true] at ok ⊢;have:=r7.1 ok.2.1;exact ⟨hu _ _ (by omega),h0,hv⟩
        · simp only [e4,if_false] at ok ⊢
          by_cases e5:l.1=5
          · simp only [e5,if_true,Bool.and_eq_true] at ok ⊢;exact ⟨hu _ _ (by have:=hr _ ok.2.1; have:=hr _ ok.2.2; omega),h0,hv⟩
          · simp only [e5,if_false] at ok ⊢
            by_cases e6:l.1=6
            · simp only [e6,if_true,Bool.and_eq_true] at ok ⊢;have:=r7.1 ok.2.1
              by_cases q:r l.2.1=0
              · simp only [q,if_true]; exact ⟨hr,this,hv⟩
              · simp only [q,if_false]; exact ⟨hr,h0,hv⟩
            · simp only [e6,if_false]; exact ⟨hr,h0,hv⟩
end Go.Proofs.YtanaeefeggokkaaGreat
