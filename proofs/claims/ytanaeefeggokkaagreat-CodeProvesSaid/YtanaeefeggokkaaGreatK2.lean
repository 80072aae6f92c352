import Derived.Test.YtanaeefeggokkaaGreatK1
namespace Go.Proofs.YtanaeefeggokkaaGreat
open Go.RowKit
set_option linter.unusedVariables false
set_option linter.unusedSimpArgs false
abbrev Hd:Type:=Int×Int×Bool×Int×Int×Int×Int×Int
def d8:Hd:=(0,0,false,0,0,0,0,0)
abbrev C3:Type:=Int×Int×Int
def rgU (h:Hd) (a:Int):Int:=b7 Y2 h (4+a.toNat*1)
def stU (h:Hd) (a v:Int):Hd:=f8 Y2 h (4+a.toNat*1) v
def a4S (v:C3) (b:Int):Int:=if b=0 then v.1 else if b=1 then v.2.1 else v.2.2
def a8R (v:C3) (a x:Int):C3:=if a=0 then (x,v.2.1,v.2.2) else if a=1 then (v.1,x,v.2.2) else (v.1,v.2.1,x)
def r3U (h:Hd) (v:Int):Hd:=(h.1,h.2.1,h.2.2.1,h.2.2.2.1,h.2.2.2.2.1,h.2.2.2.2.2.1,h.2.2.2.2.2.2.1,v)
def doU (l:Ln) (h:Hd) (v:C3):Hd×C3 :=
  if l.1=1 then (stU h l.2.1 (a4S v l.2.2.1),v)
  else if l.1=2 then (h,a8R v l.2.1 (rgU h l.2.2.1))
  else if l.1=3 then (if a4S v l.2.1=rgU h l.2.2.1 then (r3U h 1,a8R v l.2.1 (rgU h l.2.2.2)) else (r3U h 0,v))
  else if l.1=4 then (stU h l.2.1 l.2.2.1,v)
  else if l.1=5 then (stU h l.2.1 ((rgU h l.2.2.1+rgU h l.2.2.2) % 10),v)
  else if l.1=6 then (if rgU h l.2.1=0 then ((h.1,l.2.2.1,h.2.2),v) else (h,v))
  else (h,v)
theorem b3h {α:Type} {l:List α} {t:Nat} {v d:α} (h:t<l.length):(l.set t v).getD t d=v:=by
  rw [List.getD_eq_getElem?_getD,List.getElem?_set_self h]; rfl
theorem L9 {α:Type} {l:List α} {t s:Nat} {v d:α}:(l.set t v).getD s d=if t=s∧t<l.length then v else l.getD s d:=by
  rw [List.getD_eq_getElem?_getD,List.getElem?_set]
  by_cases h:t=s
  · subst h
    by_cases h2:t<l.length
    · simp [h2]
    · simp [h2,List.getElem?_eq_none (Nat.le_of_not_lt h2)]
  · simp [h]
theorem a1I {a:Int} (h:rB a 4=true):a=0∨a=1∨a=2∨a=3:=by rw [r7] at h; omega
theorem a9I (h:Hd) {a:Int} (x:Int) (ha:rB a 4=true):(stU h a x).1=h.1∧(stU h a x).2.1=h.2.1∧(stU h a x).2.2.1=h.2.2.1∧(stU h a x).2.2.2.1=h.2.2.2.1:=by
  rcases a1I ha with rfl|rfl|rfl|rfl<;>exact ⟨rfl,rfl,rfl,rfl⟩
def mkL (b8:List Int) (op line call n:Int) (mk:List Int):List Int:=if op<(b8.length:Int)∧b8.getD op.toNat 0=line then mk.set call.toNat n else mk
theorem a95 (b8:List Int) (op line call n:Int) (mk:List Int):(mkL b8 op line call n mk).length=mk.length:=by unfold mkL; split<;>simp
structure Ok8 (p:Cd) (T:Nat) (hs:List Hd) (hist:ZH) (hd:Hd) (l:Ln):Prop where
  ht:T<hs.length
  hd0:hs.getD T (0,0,false,0,0,0,0,0)=hd
  c0:0≤hd.2.2.2.1
  c1:hd.2.2.2.1<hist.length
  o0:0≤(hist.getD hd.2.2.2.1.toNat (0,0,0,0,0,0)).2.2.1
  o1:(hist.getD hd.2.2.2.1.toNat (0,0,0,0,0,0)).2.2.1<p.length
  l0:0≤hd.2.1
  l1:hd.2.1<((p.getD (hist.getD hd.2.2.2.1.toNat (0,0,0,0,0,0)).2.2.1.toNat []).length:Int)
  ll:hd.2.1≤1000
  le:(p.getD (hist.getD hd.2.2.2.1.toNat (0,0,0,0,0,0)).2.2.1.toNat []).getD hd.2.1.toNat (0,0,0,0)=l
  ok:okL l ((p.getD (hist.getD hd.2.2.2.1.toNat (0,0,0,0,0,0)).2.2.1.toNat []).length:Int)=true
  rg:∀ a,rB a 4=true→0≤rgU hd a∧rgU hd a≤9
theorem b0R (hd:Hd) (x a:Int) (h:rB a 4=true):rgU (hd.1,x,hd.2.2) a=rgU hd a:=by
  rw [r7] at h;have:a=0∨a=1∨a=2∨a=3:=by omega
  rcases this with rfl|rfl|rfl|rfl<;>rfl
def a2w (c:Int×Int×Int×Int×Int×Int) (s n:Int):Int×Int×Int×Int×Int×Int:=(c.1,c.2.1,c.2.2.1,s,c.2.2.2.2.1,2*n+2)
end Go.Proofs.YtanaeefeggokkaaGreat
