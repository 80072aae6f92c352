import Derived.CallsIn
import Derived.OrdersIn
import Derived.RangeFuncCalls
import Derived.Laws.AppendOwn
import Derived.Laws.OwnMore
import Derived.Laws.MakeOwn
import Derived.Laws.CopyRow
import Derived.Laws.Rows
import Derived.IntWalk
import Derived.Below
import Derived.Great.BuildSlice
import Derived.Laws.Cells
import Derived.Laws.Slices
import Derived.Laws.Small
/-! An abstract machine over values without addresses,1: types of data,what a place holds,abstract values,abstract memory. No program is named here. -/
namespace Go.Proofs.YtanaeefeggokkaaGreat
open Go.RowKit
set_option linter.constructorNameAsVariable false
inductive Ty where
 | int (k:IntKind)
 | bool
 | unit
 | pair (a b:Ty)
 | sl (t:Ty)
 deriving DecidableEq,Inhabited
@[reducible] def El:Ty→Type
 | .int _=>Int
 | .bool=>Bool
 | .unit=>Unit
 | .pair a b=>El a×El b
 | .sl t=>List (El t)
def Ty.size:Ty→Nat
 | .int _=>1
 | .bool=>1
 | .unit=>0
 | .pair a b=>a.size+b.size
 | .sl _=>1
def Ty.dflt:(t:Ty)→El t
 | .int _=>(0:Int)
 | .bool=>false
 | .unit=>()
 | .pair a b=>(a.dflt,b.dflt)
 | .sl t=>([]:List (El t))
def InK (k:IntKind) (n:Int):Prop:=k.min≤n∧n≤k.max
theorem m5 (n:Int):InK .i64 n↔-9223372036854775808≤n∧n≤9223372036854775807:=by
 unfold InK; simp [IntKind.min,IntKind.max,IntKind.signed,IntKind.bits]
theorem b5U (n:Int):InK .u8 n↔0≤n∧n≤255:=by
 unfold InK; simp [IntKind.min,IntKind.max,IntKind.signed,IntKind.bits]
theorem a4x {k:IntKind} {n:Int} (h:InK k n):k.wrap n=n:=by
 cases k<;>simp [InK,IntKind.min,IntKind.max,IntKind.signed,IntKind.bits] at h
 ·exact IntWalk.i8_in n (by omega)
 ·exact IntWalk.i16_in n (by omega)
 ·exact IntWalk.i32_in n (by omega)
 ·exact IntWalk.i64_in n (by omega)
 ·exact IntWalk.u8_in n (by omega)
 ·exact IntWalk.u16_in n (by omega)
 ·exact IntWalk.u32_in n (by omega)
 ·exact IntWalk.u64_in n (by omega)
def A3 {α:Type} (N:Nat) (A:Nat→Prop) (sz:Nat) (R:α→Nat→Nat→Prop) (xs:List α) (a:Option Addr) (c:Nat):Prop :=
 xs.length≤c∧c≤maxLen∧(0<xs.length→∃ b o,a=some ⟨b,o,none⟩∧b<N∧¬ A b∧∀ i x,xs[i]?=some x→R x b (o+i*sz))
def i9 (w:World) (A:Nat→Prop):(t:Ty)→El t→Nat→Nat→Prop
 | .int k,x,b,o=>w.cell? ⟨b,o,none⟩=some (.int k x)
 | .bool,x,b,o=>w.cell? ⟨b,o,none⟩=some (.bool x)
 | .unit,_,_,_=>True
 | .pair s t,x,b,o=>i9 w A s x.1 b o∧i9 w A t x.2 b (o+s.size)
 | .sl t,xs,b,o=>∃ a c,w.cell? ⟨b,o,none⟩=some (.slice a (List.length (α:=El t) xs) c)∧A3 w.heap.size A t.size (fun x b o=>i9 w A t x b o) (xs:List (El t)) a c
theorem A3.step {α:Type} {N N':Nat} {A A':Nat→Prop} {sz:Nat} {R R':α→Nat→Nat→Prop} {xs:List α} {a:Option Addr} {c:Nat} (hN:N≤N') (hA:∀ g,g<N→A' g→A g)
  (hR:∀ x b o,b<N→¬ A b→R x b o→R' x b o) (h:A3 N A sz R xs a c):A3 N' A' sz R' xs a c:=by
 obtain ⟨h1,h2,h3⟩:=h;refine ⟨h1,h2,fun hp=>?_⟩;obtain ⟨b,o,e,hb,hn,hx⟩:=h3 hp;exact ⟨b,o,e,by omega,fun hc=>hn (hA b hb hc),fun i x hi=>hR _ _ _ hb hn (hx i x hi)⟩
structure Keeps (A A':Nat→Prop) (w w':World):Prop where
 size:w.heap.size≤w'.heap.size
 heap:∀ g,g<w.heap.size→¬ A g→w'.heap[g]?=w.heap[g]?
 av:∀ g,g<w.heap.size→A' g→A g
theorem a4M {w w':World} {b o:Nat} (h:w'.heap[b]?=w.heap[b]?):w'.cell? ⟨b,o,none⟩=w.cell? ⟨b,o,none⟩:=World.cell?_of_block (w:=w) (a:=⟨b,o,none⟩) h
theorem i9.step {A A':Nat→Prop} {w w':World} (k:Keeps A A' w w'):∀ (t:Ty) (x:El t) (b o:Nat),w'.heap[b]?=w.heap[b]?→i9 w A t x b o→i9 w' A' t x b o
 | .int _,x,b,o,hb,h=>by
  unfold i9 at *; rw [a4M hb]; exact h
 | .bool,x,b,o,hb,h=>by
  unfold i9 at *; rw [a4M hb]; exact h
 | .unit,x,b,o,hb,h=>by unfold i9; trivial
 | .pair s t,x,b,o,hb,h=>by
  unfold i9 at *;exact ⟨i9.step k s x.1 b o hb h.1,i9.step k t x.2 b _ hb h.2⟩
 | .sl t,xs,b,o,hb,h=>by
  unfold i9 at *;obtain ⟨a,c,hc,hs⟩:=h;exact ⟨a,c,by rw [a4M hb]; exact hc,hs.step k.size k.av fun x b' o' hb' hn hx=>i9.step k t x b' o' (k.heap b' hb' hn) hx⟩
inductive AVal where
 | un
 | int (k:IntKind) (n:Int)
 | bool (b:Bool)
 | sl (t:Ty) (xs:List (El t))
 | own (b:Nat)
 | bp (b off:Nat)
 | ap (b sz i off:Nat)
 | dp (t:Ty) (x:El t) (off:Nat)
 | cv (v:Value)
 | agg (l:List AVal)
 | tup (l:List AVal)
 | fn (f:Fn) (first cap:List AVal)
 | vw (b sz lo n:Nat)
 | one
 | cut (t:Ty) (xs:List (El t))
 deriving Inhabited
def b9P (v:Value) (g:Nat):Prop:=(∃ n c,v=.slice (some ⟨g,0,none⟩) n c)∨v=.pointer (some ⟨g,0,none⟩)
mutual
def d9 (η:Nat→Value) (w:World) (A:Nat→Prop):AVal→Value→Prop
 | .un,_=>True
 | .int k n,v=>v=.int k n
 | .bool b,v=>v=.bool b
 | .sl t xs,v=>∃ a c,v=.slice a xs.length c∧A3 w.heap.size A t.size (fun x b o=>i9 w A t x b o) xs a c
 | .own b,v=>v=η b
 | .bp b off,v=>∃ g,η b=.pointer (some ⟨g,0,none⟩)∧v=.pointer (some ⟨g,off,none⟩)
 | .ap b sz i off,v=>∃ g n c,η b=.slice (some ⟨g,0,none⟩) n c∧v=.pointer (some ⟨g,i*sz+off,none⟩)
 | .dp t x off,v=>∃ g o,v=.pointer (some ⟨g,o+off,none⟩)∧g<w.heap.size∧¬ A g∧i9 w A t x g o
 | .cv u,v=>v=u
 | .agg l,v=>∃ vs,v=.agg vs∧d6 η w A l vs.toList
 | .tup l,v=>∃ vs,v=.tuple vs∧d6 η w A l vs.toList
 | .fn f p c,v=>∃ ps cs,v=.func f ps cs∧d6 η w A p ps.toList∧d6 η w A c cs.toList
 | .vw b sz lo n,v=>∃ a c,v=.slice a n c∧n≤c∧c≤maxLen∧(0<n→∃ g,b9P (η b) g∧a=some ⟨g,lo*sz,none⟩)
 | .one,v=>v.oneCell'=true
 | .cut t xs,v=>∃ a,v=.slice a xs.length xs.length∧A3 w.heap.size A t.size (fun x b o=>i9 w A t x b o) xs a xs.length
def d6 (η:Nat→Value) (w:World) (A:Nat→Prop):List AVal→List Value→Prop
 | [],vs=>vs=[]
 | x::l,vs=>∃ u us,vs=u::us∧d9 η w A x u∧d6 η w A l us
end
mutual
def AVal.has:AVal→Nat→Bool
 | .own b,c=>b==c
 | .bp b _,c=>b==c
 | .ap b _ _ _,c=>b==c
 | .agg l,c=>AVal.hasL l c
 | .tup l,c=>AVal.hasL l c
 | .fn _ p q,c=>AVal.hasL p c || AVal.hasL q c
 | .vw b _ _ _,c=>b==c
 | _,_=>false
def AVal.hasL:List AVal→Nat→Bool
 | [],_=>false
 | x::l,c=>x.has c || AVal.hasL l c
end
mutual
theorem d9.step {η η':Nat→Value} {A A':Nat→Prop} {w w':World} (k:Keeps A A' w w'):∀ (x:AVal) (v:Value),(∀ b,x.has b=true→η' b=η b)→d9 η w A x v→d9 η' w' A' x v
 | .un,v,_,_=>by unfold d9; trivial
 | .int _ _,v,_,h=>by unfold d9 at *; exact h
 | .bool _,v,_,h=>by unfold d9 at *; exact h
 | .sl t xs,v,_,h=>by
  unfold d9 at *;obtain ⟨a,c,hv,hs⟩:=h;exact ⟨a,c,hv,hs.step k.size k.av fun x b' o' hb' hn hx=>i9.step k t x b' o' (k.heap b' hb' hn) hx⟩
 | .own b,v,he,h=>by unfold d9 at *; rw [he b (by simp [AVal.has])]; exact h
 | .bp b _,v,he,h=>by unfold d9 at *; rw [he b (by simp [AVal.has])]; exact h
 | .ap b _ _ _,v,he,h=>by unfold d9 at *; rw [he b (by simp [AVal.has])]; exact h
 | .vw b _ _ _,v,he,h=>by unfold d9 at *; rw [he b (by simp [AVal.has])]; exact h
 | .one,v,_,h=>by unfold d9 at *; exact h
 | .cut t xs,v,_,h=>by
  unfold d9 at *;obtain ⟨a,hv,hs⟩:=h;exact ⟨a,hv,hs.step k.size k.av fun x b' o' hb' hn hx=>i9.step k t x b' o' (k.heap b' hb' hn) hx⟩
 | .dp t x off,v,_,h=>by
  unfold d9 at *;obtain ⟨g,o,hv,hg,hn,hx⟩:=h;exact ⟨g,o,hv,Nat.lt_of_lt_of_le hg k.size,fun hc=>hn (k.av g hg hc),i9.step k t x g o (k.heap g hg hn) hx⟩
 | .cv _,v,_,h=>by unfold d9 at *; exact h
 | .agg l,v,he,h=>by
  unfold d9 at *;obtain ⟨vs,hv,hl⟩:=h;exact ⟨vs,hv,d6.step k l vs.toList (fun b hb=>he b (by simpa [AVal.has] using hb)) hl⟩
 | .tup l,v,he,h=>by
  unfold d9 at *;obtain ⟨vs,hv,hl⟩:=h;exact ⟨vs,hv,d6.step k l vs.toList (fun b hb=>he b (by simpa [AVal.has] using hb)) hl⟩
 | .fn f p c,v,he,h=>by
  unfold d9 at *;obtain ⟨ps,cs,hv,hp,hc⟩:=h;exact ⟨ps,cs,hv,d6.step k p ps.toList (fun b hb=>he b (by simp [AVal.has,hb])) hp,d6.step k c cs.toList (fun b hb=>he b (by simp [AVal.has,hb])) hc⟩
theorem d6.step {η η':Nat→Value} {A A':Nat→Prop} {w w':World} (k:Keeps A A' w w'):∀ (l:List AVal) (vs:List Value),(∀ b,AVal.hasL l b=true→η' b=η b)→d6 η w A l vs→d6 η' w' A' l vs
 | [],vs,_,h=>by unfold d6 at *; exact h
 | x::l,vs,he,h=>by
  unfold d6 at *;obtain ⟨u,us,hv,hx,hl⟩:=h;exact ⟨u,us,hv,d9.step k x u (fun b hb=>he b (by simp [AVal.hasL,hb])) hx,d6.step k l us (fun b hb=>he b (by simp [AVal.hasL,hb])) hl⟩
end
def Ty.vals:(t:Ty)→El t→List Value
 | .int k,n=>[.int k n]
 | .bool,b=>[.bool b]
 | .unit,_=>[]
 | .pair a b,x=>a.vals x.1++b.vals x.2
 | .sl _,_=>[]
def okD:(t:Ty)→El t→Prop
 | .int k,n=>InK k n
 | .bool,_=>True
 | .unit,_=>True
 | .pair a b,x=>okD a x.1∧okD b x.2
 | .sl _,_=>False
def pv (agg:Bool) (l:List Value):Value:=if agg then .agg l.toArray else l.headD (.int .i64 0)
inductive ABlk where
 | box (ty:TypeId) (cs:List AVal)
 | arr (e:TypeId) (t:Ty) (xs:List (El t))
 | imm (t:Ty) (xs:List (El t))
 | map (ak ae:Bool) (kt vt:Ty) (xs:List (El kt×El vt))
 | obx (e:TypeId) (cs:List AVal)
def ABlk.mut:ABlk→Bool
 | .imm _ _=>false
 | _=>true
abbrev l3:=Nat→Option ABlk
def hblk:Value→Option Nat
 | .pointer (some a)=>some a.block
 | .slice (some a) _ _=>some a.block
 | .map (some b)=>some b
 | _=>none
def p9 (η:Nat→Value) (H:l3) (g:Nat):Prop:=∃ b B,H b=some B∧B.mut=true∧hblk (η b)=some g
def Av (A0:Nat→Prop) (η:Nat→Value) (H:l3) (g:Nat):Prop:=A0 g∨p9 η H g
def a3X (w:World) (A:Nat→Prop) (ae:Bool):(vt:Ty)→El vt→Value→Prop
 | .int k,x,v=>v=pv ae (Ty.vals (.int k) x)
 | .bool,x,v=>v=pv ae (Ty.vals .bool x)
 | .unit,x,v=>v=pv ae (Ty.vals .unit x)
 | .pair a b,x,v=>v=pv ae (Ty.vals (.pair a b) x)
 | .sl t,xs,v=>∃ a c,v=.slice a (List.length (α:=El t) xs) c∧A3 w.heap.size A t.size (fun x b o=>i9 w A t x b o) (xs:List (El t)) a c
theorem a3X.step {A A':Nat→Prop} {w w':World} (k:Keeps A A' w w') {ae:Bool}:∀ {vt:Ty} {x:El vt} {v:Value},a3X w A ae vt x v→a3X w' A' ae vt x v
 | .int _,_,_,h=>h
 | .bool,_,_,h=>h
 | .unit,_,_,h=>h
 | .pair _ _,_,_,h=>h
 | .sl t,_,_,h=>by
  obtain ⟨a,c,e,hs⟩:=h;exact ⟨a,c,e,hs.step k.size k.av fun x b' o' hb' hn hx=>i9.step k t x b' o' (k.heap b' hb' hn) hx⟩
def a0C (w:World) (A:Nat→Prop) (ak ae:Bool) (kt vt:Ty) (es:List MapEntry) (xs:List (El kt×El vt)):Prop :=
 es.map (·.key)=xs.map (fun p=>pv ak (kt.vals p.1))∧∀ (i:Nat) (e:MapEntry) (p:El kt×El vt),es[i]?=some e→xs[i]?=some p→a3X w A ae vt p.2 e.val
theorem a0C.step {A A':Nat→Prop} {w w':World} (k:Keeps A A' w w') {ak ae:Bool} {kt vt:Ty} {es:List MapEntry} {xs:List (El kt×El vt)} (h:a0C w A ak ae kt vt es xs):a0C w' A' ak ae kt vt es xs :=
 ⟨h.1,fun i e p he hp=>(h.2 i e p he hp).step k⟩
def r6 (η:Nat→Value) (w:World) (A:Nat→Prop):ABlk→Value→Prop
 | .box ty cs,h=>∃ g vs,h=.pointer (some ⟨g,0,none⟩)∧w.heap[g]?=some (.cells vs ty (0,0))∧d6 η w A cs vs.toList
 | .arr e t xs,h=>(xs=[]∧h=.slice none 0 0)∨∃ g cap cur,h=.slice (some ⟨g,0,none⟩) xs.length cap∧w.heap[g]?=some (.cells cur e (0,0))∧xs.length≤cap∧cap≤maxLen ∧
   cur.size=cap*t.size∧∀ i x,xs[i]?=some x→i9 w A t x g (i*t.size)
 | .imm t xs,h=>∃ a c,h=.slice a xs.length c∧A3 w.heap.size A t.size (fun x b o=>i9 w A t x b o) xs a c
 | .obx e cs,h=>(cs=[]∧h=.slice none 0 0)∨∃ g cap vs,h=.slice (some ⟨g,0,none⟩) cs.length cap∧w.heap[g]?=some (.cells vs e (0,0))∧cs.length≤cap∧cap≤maxLen∧vs.size=cap∧d6 η w A cs (vs.toList.take cs.length)
 | .map ak ae kt vt xs,h=>∃ (g:Nat) (es:Array MapEntry) (clock:Nat),h=.map (some g)∧w.heap[g]?=some (.map es clock)∧a0C w A ak ae kt vt es.toList xs∧(∀ p∈xs,okD kt p.1)∧(xs.map (·.1)).Nodup
structure RelH (A0:Nat→Prop) (η:Nat→Value) (H:l3) (w:World):Prop where
 blk:∀ b B,H b=some B→r6 η w (Av A0 η H) B (η b)
 inj:∀ b b' B B' g,H b=some B→H b'=some B'→B.mut=true→B'.mut=true→hblk (η b)=some g→hblk (η b')=some g→b=b'
 av:∀ g,A0 g→g<w.heap.size∧¬ p9 η H g
theorem p9.lt {A0:Nat→Prop} {η:Nat→Value} {H:l3} {w:World} (h:RelH A0 η H w) {g:Nat} (hg:p9 η H g):g<w.heap.size:=by
 obtain ⟨b,B,hb,hm,he⟩:=hg;have:=h.blk b B hb
 cases B with
 | box ty cs =>
  obtain ⟨g',vs,e1,e2,_⟩:=this;rw [e1] at he;injection he with he;subst he;exact (Array.getElem?_eq_some_iff.1 e2).1
 | arr e t xs =>
  rcases this with ⟨_,e1⟩|⟨g',cap,cur,e1,e2,_⟩
  ·rw [e1] at he; cases he
  ·rw [e1] at he;injection he with he;subst he;exact (Array.getElem?_eq_some_iff.1 e2).1
 | obx e cs =>
  rcases this with ⟨_,e1⟩|⟨g',cap,vs,e1,e2,_⟩
  ·rw [e1] at he; cases he
  ·rw [e1] at he;injection he with he;subst he;exact (Array.getElem?_eq_some_iff.1 e2).1
 | imm t xs=>cases hm
 | map ak ae kt vt xs =>
  obtain ⟨g',es,c,e1,e2,_⟩:=this;rw [e1] at he;injection he with he;subst he;exact (Array.getElem?_eq_some_iff.1 e2).1
end Go.Proofs.YtanaeefeggokkaaGreat
/-! The abstract machine,2: states,effects,the table of types,what each operation does. No program is named here. -/
namespace Go.Proofs.YtanaeefeggokkaaGreat
open Go.RowKit
set_option linter.constructorNameAsVariable false
structure Turns (I:Nat→Prop) (w w':World):Prop where
 os:w'.os=w.os
 tape:w'.tape=w.tape
 output:w'.output=w.output
 size:w.heap.size≤w'.heap.size
 heap:∀ g,g<w.heap.size→¬ I g→w'.heap[g]?=w.heap[g]?
theorem Turns.refl (I:Nat→Prop) (w:World):Turns I w w:=⟨rfl,rfl,rfl,Nat.le_refl _,fun _ _ _=>rfl⟩
theorem Turns.trans {I:Nat→Prop} {u v w:World} (h:Turns I u v) (k:Turns I v w):Turns I u w :=
 ⟨k.os.trans h.os,k.tape.trans h.tape,k.output.trans h.output,Nat.le_trans h.size k.size,fun g hg hn=>(k.heap g (Nat.lt_of_lt_of_le hg h.size) hn).trans (h.heap g hg hn)⟩
theorem Turns.mono {I I':Nat→Prop} {w w':World} (h:Turns I w w') (hi:∀ g,g<w.heap.size→I g→I' g):Turns I' w w':=⟨h.os,h.tape,h.output,h.size,fun g hg hn=>h.heap g hg fun hc=>hn (hi g hg hc)⟩
structure Gh where
 yl:Bool
 J:(Nat→Prop)→(Nat→Prop)→World→Prop
 cl:∀ (A I I':Nat→Prop) (w w':World),J A I w→Turns I w w'→(∀ g,I' g→I g∨(w.heap.size≤g∧g<w'.heap.size))→J A I' w'
def gt:Gh:=⟨false,fun _ _ _=>True,fun _ _ _ _ _ _ _ _=>trivial⟩
structure ASt where
 σ:Nat→AVal
 H:l3
 g:Gh
def AVal.clean (K:List Nat) (x:AVal):AVal:=if K.any (fun b=>x.has b) then .un else x
def ABlk.clean (K:List Nat):ABlk→ABlk
 | .box ty cs=>.box ty (cs.map (AVal.clean K))
 | .obx ty cs=>.obx ty (cs.map (AVal.clean K))
 | B=>B
structure Eff where
 v:AVal
 kill:List Nat:=[]
 hp:List (Nat×ABlk):=[]
def b6:List (Nat×ABlk)→Nat→Option ABlk
 | [],_=>none
 | (c,B)::r,b=>if b=c then some B else b6 r b
def ASt.app (s:ASt) (d:Option Nat) (e:Eff):ASt where
 g:=s.g
 σ i:=if d=some i then e.v else (s.σ i).clean e.kill
 H b:=match b6 e.hp b with
  | some B=>some B
  | none=>if e.kill.contains b then none else (s.H b).map (ABlk.clean e.kill)
/-! ### The table of types -/
inductive TDesc where
 | int (k:IntKind)
 | bool
 | sl (e:TypeId)
 | struct (fs:List (Nat×TypeId×Nat))
 | arr (n:Nat) (e:TypeId)
 | other
 deriving DecidableEq
def TDesc.agg:TDesc→Bool
 | .struct _=>true
 | .arr _ _=>true
 | _=>false
structure TInfo where
 desc:TDesc
 size:Nat
 bytes:Nat
 zero:List Value
 dt:Option Ty:=none
abbrev Tab:=TypeId→Option TInfo
def a3Z:Ty→List Value
 | .int k=>[.int k 0]
 | .bool=>[.bool false]
 | .unit=>[]
 | .pair a b=>a3Z a++a3Z b
 | .sl _=>[.slice none 0 0]
def a7b (P:Program):TypeDesc→TDesc→Bool
 | .int k,.int k'=>k==k'
 | .bool,.bool=>true
 | .slice e,.sl e'=>e==e'
 | .struct fs,.struct gs=>(fs.toList.all fun f=>(P.info? f.type).isSome)&&fs.toList.map (fun f=>(f.offset,f.type,P.cellsOf f.type))==gs
 | .array n e,.arr n' e'=>n==n'&&e==e'
 | .struct _,.other=>false
 | .array _ _,.other=>false
 | _,.other=>true
 | _,_=>false
def zeq:Value→Value→Bool
 | .int k a,.int k' b=>k==k'&&a==b
 | .bool a,.bool b=>a==b
 | .slice none 0 0,.slice none 0 0=>true
 | .pointer none,.pointer none=>true
 | .map none,.map none=>true
 | .nilFunc,.nilFunc=>true
 | .nilIface,.nilIface=>true
 | _,_=>false
theorem b8F {a b:Value} (h:zeq a b=true):a=b:=by
 unfold zeq at h
 split at h<;>simp_all
def b5g:List Value→List Value→Bool
 | [],[]=>true
 | a::l,b::m=>zeq a b&&b5g l m
 | _,_=>false
theorem a9G:∀ {l m:List Value},b5g l m=true→l=m
 | [],[],_=>rfl
 | a::l,b::m,h=>by
  simp only [b5g,Bool.and_eq_true] at h;rw [b8F h.1,a9G h.2]
def b8H (P:Program) (t:TypeId) (i:TInfo):Bool :=
 match P.info? t,P.underlying t with
 | some info,some d=>info.size==i.size&&info.bytes==i.bytes&&(match info.zero with|some z=>b5g z.cells.toList i.zero&&z.cells.size==i.size|none=>false)&&a7b P d i.desc &&
   (match i.dt with|some τ=>τ.size==i.size&&b5g i.zero (a3Z τ)&&decide (0<i.size)|none=>true)
 | _,_=>false
structure TOK (P:Program) (t:TypeId) (i:TInfo):Prop where
 ex:∃ info z d,P.info? t=some info∧info.size=i.size∧info.bytes=i.bytes∧info.zero=some z∧z.cells.toList=i.zero∧P.underlying t=some d∧a7b P d i.desc=true
 dt:∀ τ,i.dt=some τ→τ.size=i.size∧i.zero=a3Z τ∧0<τ.size
 zsize:i.zero.length=i.size
theorem b8G {P:Program} {t:TypeId} {i:TInfo} (h:b8H P t i=true):TOK P t i:=by
 unfold b8H at h
 cases hi:P.info? t with
 | none=>simp [hi] at h
 | some info =>
  cases hd:P.underlying t with
  | none=>simp [hi,hd] at h
  | some d =>
   simp only [hi,hd,Bool.and_eq_true,beq_iff_eq] at h;obtain ⟨⟨⟨⟨h1,h2⟩,h3⟩,h4⟩,h5⟩:=h
   cases hz:info.zero with
   | none=>simp [hz] at h3
   | some z =>
    simp only [hz,Bool.and_eq_true,beq_iff_eq] at h3;have hz':=a9G h3.1;refine ⟨⟨info,z,d,hi,h1,h2,hz,hz',hd,h4⟩,fun τ hτ=>?_,by rw [← hz',Array.length_toList]; exact h3.2⟩;simp only [hτ,Bool.and_eq_true,beq_iff_eq,decide_eq_true_eq] at h5;exact ⟨h5.1.1,a9G h5.1.2,by omega⟩
def z5 (P:Program) (T:Tab):Prop:=∀ t i,T t=some i→TOK P t i
def b0x:List (TypeId×TInfo)→Tab
 | [],_=>none
 | (u,i)::r,t=>if t=u then some i else b0x r t
theorem b0w {P:Program}:∀ (l:List (TypeId×TInfo)),l.all (fun p=>b8H P p.1 p.2)=true→z5 P (b0x l)
 | [],_,t,i,ht=>by simp [b0x] at ht
 | (u,j)::r,h,t,i,ht=>by
  simp only [List.all_cons,Bool.and_eq_true] at h;unfold b0x at ht
  split at ht
  ·rename_i e; injection ht with ht; subst ht; subst e; exact b8G h.1
  ·exact b0w r h.2 t i ht
/-! ### Values -/
def N8:Value→AVal
 | .int k n=>.int k n
 | .bool b=>.bool b
 | v=>.cv v
def ASt.ev (s:ASt):Operand→AVal
 | .tmp t=>s.σ t
 | .const v=>N8 v
 | .global g=>.cv (.pointer (some ⟨g,0,none⟩))
 | .func f=>.fn (.func f) [] []
def cellsOf:(t:Ty)→El t→List AVal
 | .int k,x=>[.int k x]
 | .bool,x=>[.bool x]
 | .unit,_=>[]
 | .pair a b,x=>cellsOf a x.1++cellsOf b x.2
 | .sl t,xs=>[.sl t xs]
def r5:AVal→List AVal
 | .agg l=>l
 | x=>[x]
def b0V (d:TDesc) (l:List AVal):AVal:=if d.agg then .agg l else l.headD .un
def a6Y (k:IntKind):List AVal→Option (Int×List AVal)
 | .int k' n::r=>if k'=k then some (n,r) else none
 | _=>none
def a6g:List AVal→Option (Bool×List AVal)
 | .bool b::r=>some (b,r)
 | _=>none
def a6A:Value→Bool
 | .slice none 0 0=>true
 | _=>false
theorem a6z {v:Value} (h:a6A v=true):v=.slice none 0 0:=by
 unfold a6A at h
 split at h
 ·rfl
 ·cases h
def a9H (H:l3) (t:Ty):List AVal→Option (List (El t)×List AVal)
 | .sl t' xs::r=>if h:t'=t then some (h▸xs,r) else none
 | .own b::r =>
  match H b with
  | some (.arr _ t' xs)=>if h:t'=t then some (h▸xs,r) else none
  | some (.imm t' xs)=>if h:t'=t then some (h▸xs,r) else none
  | _=>none
 | .cv u::r=>if a6A u then some ([],r) else none
 | _=>none
def C6 (H:l3):(t:Ty)→List AVal→Option (El t×List AVal)
 | .int k,l=>a6Y k l
 | .bool,l=>a6g l
 | .unit,l=>some ((),l)
 | .pair a b,l =>
  match C6 H a l with
  | some (x,r)=>match C6 H b r with
   | some (y,r')=>some ((x,y),r')
   | none=>none
  | none=>none
 | .sl t,l=>a9H H t l
def E0 (τ:Ty):Nat→List AVal→Option (List (El τ))
 | 0,_=>some []
 | n+1,l=>match C6 (fun _=>none) τ l with
  | some (x,r)=>match E0 τ n r with
   | some xs=>some (x::xs)
   | none=>none
  | none=>none
mutual
def AVal.ids:AVal→List Nat
 | .own b=>[b]
 | .bp b _=>[b]
 | .ap b _ _ _=>[b]
 | .vw b _ _ _=>[b]
 | .agg l=>AVal.idsL l
 | .tup l=>AVal.idsL l
 | .fn _ p c=>AVal.idsL p++AVal.idsL c
 | _=>[]
def AVal.idsL:List AVal→List Nat
 | []=>[]
 | x::l=>x.ids++AVal.idsL l
end
def rest (H:l3) (ids:List Nat):List (Nat×ABlk) :=
 match ids with
 | []=>[]
 | b::r=>match H b with
  | some (.arr _ t xs)=>(b,.imm t xs)::rest H r
  | _=>rest H r
def g6 (rn:List (Nat×Nat)) (c:Nat):Nat :=
 match rn with
 | []=>c
 | (x,y)::r=>if c=x then y else g6 r c
def b8C {t u:Ty} (h:t=u) (x:El t):El u:=h▸x
theorem a9x {t:Ty} (x:El t):b8C rfl x=x:=rfl
def a1f {t u:Ty} (h:t=u) (xs:List (El t)):List (El u):=h▸xs
def b8B {t u v s:Ty} (h:t=u) (k:v=s) (xs:List (El t×El v)):List (El u×El s):=h▸k▸xs
theorem a9w {t v:Ty} (xs:List (El t×El v)):b8B rfl rfl xs=xs:=rfl
theorem a0q {t:Ty} (xs:List (El t)):a1f rfl xs=xs:=rfl
mutual
def LeV (H:l3) (D N:List Nat) (ρ:Nat→Nat):AVal→AVal→Prop
 | .un,y=>match y with
  | .un=>True
  | _=>False
 | .int k n,y=>match y with
  | .un=>True
  | .int k' n'=>k=k'∧n=n'
  | _=>False
 | .bool b,y=>match y with
  | .un=>True
  | .bool b'=>b=b'
  | _=>False
 | .sl t xs,y=>match y with
  | .un=>True
  | .sl t' ys=>if h:t=t' then a1f h xs=ys else False
  | _=>False
 | .own b,y=>match y with
  | .un=>True
  | .own c=>b=ρ c∧N.contains c=false
  | .one=>(H b).isSome=true
  | .sl t' ys=>match H b with
   | some (.arr _ t xs)=>D.contains b=true∧(if h:t=t' then a1f h xs=ys else False)
   | some (.imm t xs)=>if h:t=t' then a1f h xs=ys else False
   | _=>False
  | _=>False
 | .bp b o,y=>match y with
  | .un=>True
  | .bp c o'=>b=ρ c∧N.contains c=false∧o=o'
  | .dp t x o'=>match H b with
   | some (.box _ cs)=>D.contains (b+1000000000)=true∧o=o'∧C6 (fun _=>none) t cs=some (x,[])
   | _=>False
  | _=>False
 | .ap b z i o,y=>match y with
  | .un=>True
  | .ap c z' i' o'=>b=ρ c∧N.contains c=false∧z=z'∧i=i'∧o=o'
  | _=>False
 | .dp t x o,y=>match y with
  | .un=>True
  | .dp t' x' o'=>(if h:t=t' then b8C h x=x' else False)∧o=o'
  | _=>False
 | .cv u,y=>match y with
  | .un=>True
  | .cv v=>u=v
  | .sl _ ys=>a6A u=true∧ys=[]
  | .own c=>a6A u=true∧N.contains c=true
  | _=>False
 | .agg l,y=>match y with
  | .un=>True
  | .agg m=>LeL H D N ρ l m
  | _=>False
 | .tup l,y=>match y with
  | .un=>True
  | .tup m=>LeL H D N ρ l m
  | _=>False
 | .fn f p c,y=>match y with
  | .un=>True
  | .fn f' p' c'=>f=f'∧LeL H D N ρ p p'∧LeL H D N ρ c c'
  | _=>False
 | .vw b z lo n,y=>match y with
  | .un=>True
  | .vw c z' lo' n'=>b=ρ c∧N.contains c=false∧z=z'∧lo=lo'∧n=n'
  | .sl t' ys=>match H b with
   | some (.arr _ t xs)=>D.contains b=true∧z=t.size∧lo+n≤xs.length∧(if h:t=t' then a1f h ((xs.drop lo).take n)=ys else False)
   | some (.imm t xs)=>z=t.size∧lo+n≤xs.length∧(if h:t=t' then a1f h ((xs.drop lo).take n)=ys else False)
   | some (.box _ cs)=>D.contains (b+1000000000)=true∧z=1∧t'.size=1∧n≤140737488355328∧E0 t' n (cs.drop lo)=some ys
   | _=>False
  | _=>False
 | .cut t xs,y=>match y with
  | .un=>True
  | .cut t' ys=>if h:t=t' then a1f h xs=ys else False
  | _=>False
 | .one,y=>match y with
  | .un=>True
  | .one=>True
  | _=>False
def LeL (H:l3) (D N:List Nat) (ρ:Nat→Nat):List AVal→List AVal→Prop
 | [],m=>match m with
  | []=>True
  | _::_=>False
 | x::l,m=>match m with
  | []=>False
  | y::r=>LeV H D N ρ x y∧LeL H D N ρ l r
end
def LeB (H:l3) (D N:List Nat) (ρ:Nat→Nat):ABlk→ABlk→Prop
 | .box ty cs,B=>match B with
  | .box ty' cs'=>ty=ty'∧LeL H D N ρ cs cs'
  | _=>False
 | .obx ty cs,B=>match B with
  | .obx ty' cs'=>ty=ty'∧LeL H D N ρ cs cs'
  | _=>False
 | .arr e t xs,B=>match B with
  | .arr e' t' ys=>e=e'∧(if h:t=t' then a1f h xs=ys else False)
  | _=>False
 | .imm t xs,B=>match B with
  | .imm t' ys=>if h:t=t' then a1f h xs=ys else False
  | _=>False
 | .map ak ae kt vt xs,B=>match B with
  | .map ak' ae' kt' vt' ys=>ak=ak'∧ae=ae'∧(if h:kt=kt'∧vt=vt' then b8B h.1 h.2 xs=ys else False)
  | _=>False
def LeH (H:l3) (D N:List Nat) (ρ:Nat→Nat):List (Nat×ABlk)→Prop
 | []=>True
 | (c,B)::r=>(if N.contains c=true then (match B with|.arr _ _ xs=>xs=[]|_=>False) else (match H (ρ c) with|some B0=>LeB H D N ρ B0 B|none=>False))∧LeH H D N ρ r
def i8:List (Nat×ABlk)→Nat→Bool
 | [],_=>false
 | (c,_)::r,b=>c==b || i8 r b
def E3 (ρ:Nat→Nat) (D N:List Nat):List (Nat×ABlk)→Bool
 | []=>D.all fun b=>decide (b<1000000000)
 | (c,B)::r=>!i8 r c&&(if N.contains c then decide (c<1000) || decide (2000≤c) else !(D.contains (ρ c)&&B.mut)&&(decide (c<1000) || decide (2000≤c) || (ρ c==c))&&(r.all fun q=>N.contains q.1 || ρ q.1 != ρ c))&&E3 ρ D N r
mutual
def AVal.ren (f:Nat→Nat):AVal→AVal
 | .own b=>.own (f b)
 | .bp b o=>.bp (f b) o
 | .ap b z i o=>.ap (f b) z i o
 | .vw b z i o=>.vw (f b) z i o
 | .one=>.one
 | .agg l=>.agg (AVal.renL f l)
 | .tup l=>.tup (AVal.renL f l)
 | .fn g p c=>.fn g (AVal.renL f p) (AVal.renL f c)
 | .un=>.un
 | .int k n=>.int k n
 | .bool b=>.bool b
 | .sl t xs=>.sl t xs
 | .cut t xs=>.cut t xs
 | .dp t x o=>.dp t x o
 | .cv v=>.cv v
def AVal.renL (f:Nat→Nat):List AVal→List AVal
 | []=>[]
 | x::l=>x.ren f::AVal.renL f l
end
def ABlk.ren (f:Nat→Nat):ABlk→ABlk
 | .box ty cs=>.box ty (AVal.renL f cs)
 | .obx ty cs=>.obx ty (AVal.renL f cs)
 | .arr e t xs=>.arr e t xs
 | .imm t xs=>.imm t xs
 | .map ak ae kt vt xs=>.map ak ae kt vt xs
def D9 (f:Nat→Nat):List (Nat×ABlk)→List (Nat×ABlk)
 | []=>[]
 | (c,B)::r=>(f c,B.ren f)::D9 f r
def Ty.dry:Ty→Bool
 | .int _=>true
 | .bool=>true
 | .unit=>true
 | .pair a b=>a.dry&&b.dry
 | .sl _=>false
mutual
def AVal.dry:AVal→Bool
 | .un=>true
 | .int _ _=>true
 | .bool _=>true
 | .cv _=>true
 | .own _=>true
 | .bp _ _=>true
 | .ap _ _ _ _=>true
 | .vw _ _ _ _=>true
 | .one=>true
 | .sl _ _=>false
 | .cut _ _=>false
 | .dp _ _ _=>false
 | .agg l=>AVal.dryL l
 | .tup l=>AVal.dryL l
 | .fn _ p c=>AVal.dryL p&&AVal.dryL c
def AVal.dryL:List AVal→Bool
 | []=>true
 | x::l=>x.dry&&AVal.dryL l
end
def ABlk.dry:ABlk→Bool
 | .box _ cs=>AVal.dryL cs
 | .obx _ cs=>AVal.dryL cs
 | .arr _ t _=>t.dry
 | .imm _ _=>false
 | .map _ _ _ vt _=>vt.dry
def a09:List (Nat×ABlk)→Bool
 | []=>true
 | (_,B)::r=>B.dry&&a09 r
def b5H:List (Nat×ABlk)→Bool
 | []=>true
 | (_,B)::r=>B.mut&&b5H r
def a2D:List (Nat×ABlk)→List Nat
 | []=>[]
 | (_,.box _ cs)::r=>AVal.idsL cs++a2D r
 | (_,.obx _ cs)::r=>AVal.idsL cs++a2D r
 | (_,.arr _ _ _)::r=>a2D r
 | (_,.imm _ _)::r=>a2D r
 | (_,.map _ _ _ _ _)::r=>a2D r
def AVal.cell (H:l3):AVal→Bool
 | .int _ _=>true
 | .bool _=>true
 | .sl _ _=>true
 | .own b=>(H b).isSome
 | .bp _ _=>true
 | .ap _ _ _ _=>true
 | .vw _ _ _ _=>true
 | .one=>true
 | .dp _ _ _=>true
 | .cv v=>v.oneCell'
 | .fn _ _ _=>true
 | _=>false
/-! ### Contracts -/
def b9y (P:Program) (f:FuncId):Prop:=∃ fn,P.funcs[f]?=some fn∧fn.body.isSome=true∧(fn.name=="runtime.NumGoroutine")=false
structure Fr (L0:Nat→Prop) (w0 w:World):Prop where
 os:w.os=w0.os
 tape:w.tape=w0.tape
 output:w.output=w0.output
 size:w0.heap.size≤w.heap.size
 heap:∀ k,k<w0.heap.size→¬ L0 k→w.heap[k]?=w0.heap[k]?
def R3 (b:Nat):Prop:=1000≤b∧b<2000
structure Gave (η:Nat→Value) (A0:Nat→Prop) (w:World) (hin hout:List (Nat×ABlk)) (r:AVal) (v:Value) (η':Nat→Value) (w':World):Prop where
 hd:∀ b,R3 b→i8 hout b=true→η' b=η b
 hp:RelH A0 η' (b6 hout) w'
 rv:d9 η' w' (Av A0 η' (b6 hout)) r v
 fr:Fr (p9 η (b6 hin)) w w'
 old:∀ g,p9 η' (b6 hout) g→g<w.heap.size→p9 η (b6 hin) g
def HC (P:Program) (f:FuncId) (hin:List (Nat×ABlk)) (l:List AVal) (hout:List (Nat×ABlk)) (r:AVal):Prop :=
 b9y P f∧∀ (η:Nat→Value) (A0:Nat→Prop) (w:World) (vs:Array Value),RelH A0 η (b6 hin) w→d6 η w (Av A0 η (b6 hin)) l vs.toList →
  Calls P f vs w fun e w'=>∃ v η',e=.returned v∧Gave η A0 w hin hout r v η' w'
abbrev PC (P:Program) (f:FuncId) (l:List AVal) (r:AVal):Prop:=HC P f [] l [] r
/-! ### What an operation does -/
section
variable (P:Program) (T:Tab) (s:ASt)
def L4:AVal→Option ((t:Ty)×List (El t))
 | .sl t xs=>some ⟨t,xs⟩
 | .own b=>match s.H b with
  | some (.arr _ t xs)=>some ⟨t,xs⟩
  | some (.imm t xs)=>some ⟨t,xs⟩
  | _=>none
 | _=>none
def g5 (l:List AVal) (off:Nat) (us:List AVal):List AVal:=l.take off++us++l.drop (off+us.length)
def M7 (t:TypeId) (x:AVal) (K:Eff→Prop):Prop :=
 match T t with
 | none=>False
 | some i=>match x with
  | .bp b off=>match s.H b with
   | some (.box _ cs)=>off+i.size≤cs.length∧(i.desc.agg=true∨i.size=1)∧K { v:=b0V i.desc ((cs.drop off).take i.size) }
   | _=>False
  | .dp τ x off=>off+i.size≤τ.size∧(i.desc.agg=true∨i.size=1)∧K { v:=b0V i.desc (((cellsOf τ x).drop off).take i.size) }
  | .ap b sz j off=>match s.H b with
   | some (.arr _ τ xs)=>sz=τ.size∧off+i.size≤τ.size∧(i.desc.agg=true∨i.size=1)∧j<xs.length∧K { v:=b0V i.desc (((cellsOf τ (xs.getD j τ.dflt)).drop off).take i.size) }
   | some (.obx _ cs)=>sz=1∧off=0∧i.size=1∧i.desc.agg=false∧j<cs.length∧K { v:=cs.getD j .un }
   | _=>False
  | _=>False
def Z4 (t:TypeId) (x v:AVal) (K:Eff→Prop):Prop :=
 match T t with
 | none=>False
 | some i=>(r5 v).length=i.size∧(r5 v).all (AVal.cell s.H)=true ∧
  match x with
  | .bp b off=>match s.H b with
   | some (.box ty cs)=>off+i.size≤cs.length∧K { v:=.un,hp:=[(b,.box ty (g5 cs off (r5 v)))] }
   | _=>False
  | .ap b sz j off=>match s.H b with
   | some (.arr e τ xs)=>sz=τ.size∧off+i.size≤τ.size∧j<xs.length∧(v.ids.contains b=false) ∧
    match C6 s.H τ (g5 (cellsOf τ (xs.getD j τ.dflt)) off (r5 v)) with
    | some (x',[])=>K { v:=.un,hp:=(b,.arr e τ (xs.set j x'))::rest s.H v.ids }
    | _=>False
   | _=>False
  | _=>False
def a5h (k:IntKind) (a b:Int):Int:=k.wrap (((BitVec.ofInt k.bits a &&& BitVec.ofInt k.bits b).toNat:Nat):Int)
def ior (k:IntKind) (a b:Int):Int:=k.wrap (((BitVec.ofInt k.bits a ||| BitVec.ofInt k.bits b).toNat:Nat):Int)
def b9j (k:IntKind) (a b:Int):Int:=k.wrap (((BitVec.ofInt k.bits a ^^^ BitVec.ofInt k.bits b).toNat:Nat):Int)
def b5W (k:IntKind) (a b:Int):Int:=k.wrap (((BitVec.ofInt k.bits a &&& ~~~ BitVec.ofInt k.bits b).toNat:Nat):Int)
def a2C (k:IntKind) (a b:Int):Int:=k.wrap (a*2 ^ (min b.toNat k.bits))
def b9k (k:IntKind) (a b:Int):Int:=a.fdiv (2 ^ (min b.toNat k.bits))
def a4V (op:BinOp) (x y:AVal) (K:Eff→Prop):Prop :=
 match x,y with
 | .int k a,.int k' b =>
  match op with
  | .shl=>0≤b∧K { v:=.int k (a2C k a b) }
  | .shr=>0≤b∧K { v:=.int k (b9k k a b) }
  | .and=>k=k'∧K { v:=.int k (a5h k a b) }
  | .or=>k=k'∧K { v:=.int k (ior k a b) }
  | .xor=>k=k'∧K { v:=.int k (b9j k a b) }
  | .andNot=>k=k'∧K { v:=.int k (b5W k a b) }
  | .add=>k=k'∧InK k (a+b)∧K { v:=.int k (a+b) }
  | .sub=>k=k'∧InK k (a - b)∧K { v:=.int k (a - b) }
  | .mul=>k=k'∧InK k (a*b)∧K { v:=.int k (a*b) }
  | .quo=>k=k'∧0≤a∧0<b∧InK k (a / b)∧K { v:=.int k (a / b) }
  | .rem=>k=k'∧0≤a∧0<b∧K { v:=.int k (a % b) }
  | .eql=>k=k'∧K { v:=.bool (decide (a=b)) }
  | .neq=>k=k'∧K { v:=.bool (!decide (a=b)) }
  | .lss=>k=k'∧K { v:=.bool (decide (a<b)) }
  | .leq=>k=k'∧K { v:=.bool (decide (a≤b)) }
  | .gtr=>k=k'∧K { v:=.bool (decide (b<a)) }
  | .geq=>k=k'∧K { v:=.bool (decide (b≤a)) }
 | _,_=>False
def a7U (t:TypeId) (neg:Bool) (x y:AVal) (K:Eff→Prop):Prop :=
 match x,y with
 | .bool a,.bool b=>(match T t with|some i=>i.desc=.bool|none=>False)∧K { v:=.bool ((a==b) != neg) }
 | _,_=>False
def a8H (op:UnOp) (x:AVal) (K:Eff→Prop):Prop :=
 match op,x with
 | .not,.bool b=>K { v:=.bool (!b) }
 | .neg,.int k n=>InK k (-n)∧K { v:=.int k (-n) }
 | _,_=>False
def a2y (dst:TypeId) (x:AVal) (K:Eff→Prop):Prop :=
 match T dst,x with
 | some i,.int _ n=>match i.desc with
  | .int k=>InK k n∧K { v:=.int k n }
  | _=>False
 | _,_=>False
def J6 (t:TypeId) (x:AVal) (f:Nat) (K:Eff→Prop):Prop :=
 match T t with
 | some i=>match i.desc with
  | .struct fs=>match fs[f]? with
   | some (off,_,sz)=>sz≠0 ∧
    match x with
    | .bp b o=>K { v:=.bp b (o+off) }
    | .dp τ y o=>K { v:=.dp τ y (o+off) }
    | .ap b n j o=>K { v:=.ap b n j (o+off) }
    | _=>False
   | none=>False
  | _=>False
 | none=>False
def a0T (t:TypeId) (x:AVal) (f:Nat) (K:Eff→Prop):Prop :=
 match T t with
 | some i=>match i.desc with
  | .struct fs=>match fs[f]?,x with
   | some (off,ft,sz),.agg l=>match T ft with
    | some j=>j.size=sz∧off+sz≤l.length∧(j.desc.agg=true∨sz=1)∧K { v:=b0V j.desc ((l.drop off).take sz) }
    | none=>False
   | _,_=>False
  | _=>False
 | none=>False
def w7 (t:TypeId) (x ix:AVal) (K:Eff→Prop):Prop :=
 match T t with
 | some i=>match i.desc with
  | .sl e=>match T e,ix with
   | some ie,.int _ n=>match x with
    | .sl τ xs=>τ.size=ie.size∧0≤n∧n<(xs.length:Int)∧K { v:=.dp τ (xs.getD n.toNat τ.dflt) 0 }
    | .vw b z lo m=>match s.H b with
     | some (.box _ _)=>z=1∧ie.size=1∧0≤n∧n<(m:Int)∧K { v:=.bp b (lo+n.toNat) }
     | some (.arr _ τ _)=>z=τ.size∧τ.size=ie.size∧0≤n∧n<(m:Int)∧K { v:=.ap b τ.size (lo+n.toNat) 0 }
     | _=>False
    | .own b=>match s.H b with
     | some (.arr _ τ xs)=>τ.size=ie.size∧0≤n∧n<(xs.length:Int)∧K { v:=.ap b τ.size n.toNat 0 }
     | some (.imm τ xs)=>τ.size=ie.size∧0≤n∧n<(xs.length:Int)∧K { v:=.dp τ (xs.getD n.toNat τ.dflt) 0 }
     | some (.obx _ cs)=>ie.size=1∧0≤n∧n<(cs.length:Int)∧K { v:=.ap b 1 n.toNat 0 }
     | _=>False
    | _=>False
   | _,_=>False
  | .arr len e=>match T e,ix with
   | some ie,.int _ n=>0≤n∧n<(len:Int) ∧
    match x with
    | .bp b o=>K { v:=.bp b (o+n.toNat*ie.size) }
    | .dp τ y o=>K { v:=.dp τ y (o+n.toNat*ie.size) }
    | .ap b m j o=>K { v:=.ap b m j (o+n.toNat*ie.size) }
    | _=>False
   | _,_=>False
  | _=>False
 | none=>False
def b1F:Option AVal→Option Int
 | none=>some 0
 | some (.int _ l)=>some l
 | _=>none
def b1G (len:Nat):Option AVal→Option Int
 | none=>some (len:Int)
 | some (.int _ h)=>some h
 | _=>none
def W5 (t:TypeId) (x:AVal) (lo hi:Option AVal) (K:Eff→Prop):Prop :=
 match T t with
 | some i=>match i.desc with
  | .arr len e=>match T e,b1F lo,b1G len hi with
   | some ie,some l,some h=>0≤l∧l≤h∧h≤(len:Int)∧(len:Int)≤140737488355328 ∧
    match x with
    | .bp b off=>ie.size=1∧K { v:=.vw b 1 (off+l.toNat) (h.toNat - l.toNat) }
    | .dp τ y off=>match ie.dt with
     | some τe=>match E0 τe len ((cellsOf τ y).drop off) with
      | some ys=>K { v:=.sl τe ((ys.take h.toNat).drop l.toNat) }
      | none=>False
     | none=>False
    | _=>False
   | _,_,_=>False
  | .sl e=>match T e,L4 s x with
   | some ie,some ⟨τ,xs⟩=>τ.size=ie.size ∧
    match lo,hi with
    | none,none=>K { v:=.sl τ xs,hp:=rest s.H x.ids }
    | some (.int _ l),none=>0≤l∧l≤(xs.length:Int)∧K { v:=.sl τ (xs.drop l.toNat),hp:=rest s.H x.ids }
    | none,some (.int _ h)=>0≤h∧h≤(xs.length:Int)∧K { v:=.sl τ (xs.take h.toNat),hp:=rest s.H x.ids }
    | some (.int _ l),some (.int _ h)=>0≤l∧l≤h∧h≤(xs.length:Int)∧K { v:=.sl τ ((xs.take h.toNat).drop l.toNat),hp:=rest s.H x.ids }
    | _,_=>False
   | _,_=>False
  | _=>False
 | none=>False
def a4T (t:TypeId) (x:AVal) (lo hi mx:Option AVal) (K:Eff→Prop):Prop :=
 match T t with
 | some i=>match i.desc with
  | .sl e=>match T e,x,lo,hi,mx with
   | some ie,.sl τ xs,none,some (.int _ h),some (.int _ m)=>τ.size=ie.size∧h=m∧0≤h∧h≤(xs.length:Int)∧K { v:=.cut τ (xs.take h.toNat) }
   | _,_,_,_,_=>False
  | _=>False
 | none=>False
def b8r (P:Program) (t:TypeId) (ok:Bool) (y:AVal) (ak ae:Bool) (kt vt:Ty) (xs:List (El kt×El vt)) (r:AVal):Prop :=
 ∀ (η:Nat→Value) (w:World) (A:Nat→Prop) (q:Nat) (es:Array MapEntry) (c:Nat) (v:Value),w.heap[q]?=some (.map es c)→a0C w A ak ae kt vt es.toList xs→(∀ p∈xs,okD kt p.1)→(xs.map (·.1)).Nodup→d9 η w A y v→∃ u,d9 η w A r u∧(Instr.lookup t (.map (some q)) v ok).run P w=.ok u w
def U2 (P:Program) (t:TypeId) (ok:Bool) (x y:AVal) (K:Eff→Prop):Prop :=
 match x with
 | .own b=>match s.H b with
  | some (.map ak ae kt vt xs)=>∃ r,b8r P t ok y ak ae kt vt xs r∧K { v:=r }
  | _=>False
 | _=>False
def a55 (fs:List (Nat×TypeId×Nat)) (cells:List AVal):List (Nat×AVal)→Option (List AVal)
 | []=>some cells
 | (i,v)::r=>match fs[i]? with
  | some (off,_,sz)=>if (r5 v).length=sz∧off+sz≤cells.length then a55 fs (g5 cells off (r5 v)) r else none
  | none=>none
def W6 (t:TypeId) (parts:List (Nat×AVal)) (K:Eff→Prop):Prop :=
 match T t with
 | some i=>match i.desc with
  | .struct fs=>(parts.all fun p=>(r5 p.2).all (AVal.cell s.H))=true∧match a55 fs (i.zero.map N8) parts with
   | some cells=>K { v:=.agg cells }
   | none=>False
  | .arr n e=>match T e with
   | some ie=>(parts.all fun p=>(r5 p.2).all (AVal.cell s.H))=true∧match a55 ((List.range n).map fun j=>(j*ie.size,e,ie.size)) (i.zero.map N8) parts with
    | some cells=>K { v:=.agg cells }
    | none=>False
   | none=>False
  | _=>False
 | none=>False
def a3J (H:l3) (t:Ty):List AVal→Option (List (El t))
 | []=>some []
 | v::r=>match C6 H t (r5 v),a3J H t r with
  | some (x,[]),some xs=>some (x::xs)
  | _,_=>none
def t7 (nid:Nat) (t:TypeId) (len:Nat) (parts:List (Nat×AVal)) (K:Eff→Prop):Prop :=
 match T t with
 | some i=>match i.desc with
  | .sl e=>match T e with
   | some ie=>match ie.dt with
    | some τ=>parts.map (·.1)=List.range len∧len*ie.size≤16777216∧(parts.all fun p=>(r5 p.2).all (AVal.cell s.H))=true∧((AVal.idsL (parts.map (·.2))).contains nid=false) ∧
     match a3J s.H τ (parts.map (·.2)) with
     | some xs=>K { v:=.own nid,kill:=[nid],hp:=(nid,.arr e τ xs)::rest s.H (AVal.idsL (parts.map (·.2))) }
     | none=>False
    | none=>False
   | none=>False
  | _=>False
 | none=>False
def J5 (nid:Nat) (t:TypeId) (l c:AVal) (K:Eff→Prop):Prop :=
 match T t,l,c with
 | some i,.int _ n,.int _ m=>match i.desc with
  | .sl e=>match T e with
   | some ie=>match ie.dt with
    | some τ=>0≤n∧n≤m∧(ie.bytes:Int)*m≤281474976710656∧m≤9223372036854775807∧K { v:=.own nid,kill:=[nid],hp:=[(nid,.arr e τ (List.replicate n.toNat τ.dflt))] }
    | none=>False
   | none=>False
  | _=>False
 | _,_,_=>False
def Q5 (nid:Nat) (t:TypeId) (x y:AVal) (K:Eff→Prop):Prop :=
 match T t with
 | some i=>match i.desc with
  | .sl e=>match T e with
   | some ie=>match ie.dt with
    | some τ=>match x with
     | .own b=>match s.H b with
      | some (.arr e' τ' xs)=>e'=e∧(y.ids.contains b=false)∧(y.ids.contains nid=false) ∧
       (match y with
       | .cv v=>v=.slice none 0 0∧τ'=τ∧K { v:=.own b }
       | _=>match L4 s y with
        | some ⟨τy,ys⟩=>if h1:τ'=τ then if h2:τy=τ then (xs.length+ys.length)*ie.bytes≤140737488355328∧xs.length+ys.length≤maxLen ∧
         K { v:=.own nid,kill:=[b,nid],hp:=[(nid,.arr e τ (a1f h1 xs++a1f h2 ys))] } else False else False
        | none=>False)
      | _=>False
     | .cv v=>v=.slice none 0 0∧(y.ids.contains nid=false) ∧
      (match L4 s y with
      | some ⟨τy,ys⟩=>if h2:τy=τ then ys.length*ie.bytes≤140737488355328∧ys.length≤maxLen ∧
       K { v:=.own nid,kill:=[nid],hp:=[(nid,.arr e τ (a1f h2 ys))] } else False
      | none=>False)
     | .cut τ' xs=>(y.ids.contains nid=false) ∧
      (match L4 s y with
      | some ⟨τy,ys⟩=>if h1:τ'=τ then if h2:τy=τ then 0<ys.length∧(xs.length+ys.length)*ie.bytes≤140737488355328∧xs.length+ys.length≤maxLen ∧
       K { v:=.own nid,kill:=[nid],hp:=[(nid,.arr e τ (a1f h1 xs++a1f h2 ys))] } else False else False
      | none=>False)
     | _=>False
    | none=>False
   | none=>False
  | _=>False
 | none=>False
def a2P (x:AVal) (K:Eff→Prop):Prop :=
 match x with
 | .cv v=>v=.slice none 0 0∧K { v:=.int .i64 0 }
 | .vw _ _ _ m=>K { v:=.int .i64 (m:Int) }
 | _=>match L4 s x with
  | some ⟨_,xs⟩=>K { v:=.int .i64 xs.length }
  | none=>False
def S8 (x:AVal) (i:Nat) (K:Eff→Prop):Prop :=
 match x with
 | .tup l=>match l[i]? with
  | some v=>K { v:=v }
  | none=>False
 | _=>False
def a5B (x:AVal) (K:Eff→Prop):Prop :=
 match x with
 | .bp b o=>K { v:=.bp b o }
 | .ap b n j o=>K { v:=.ap b n j o }
 | .dp t y o=>K { v:=.dp t y o }
 | .fn (.func f) p c=>K { v:=.fn (.func f) p c }
 | _=>False
def Z1 (d c:Nat):Nat:=10000+1000*d+(c - 2000)
def E7 (d:Nat) (rn:List (Nat×Nat)) (hin:List (Nat×ABlk)) (c:Nat):Nat:=if i8 hin c then g6 rn c else Z1 d c
def U4 (rn:List (Nat×Nat)) (hout:List (Nat×ABlk)):List (Nat×ABlk)→List Nat
 | []=>[]
 | (c,_)::r=>if i8 hout c then U4 rn hout r else g6 rn c::U4 rn hout r
def a0E (d:Nat) (hin:List (Nat×ABlk)):List (Nat×ABlk)→List Nat
 | []=>[]
 | (c,_)::r=>if i8 hin c then a0E d hin r else Z1 d c::a0E d hin r
def a7D:List (Nat×ABlk)→Bool
 | []=>true
 | (c,_)::r=>decide (1000≤c)&&decide (c<2000)&&a7D r
def a9p (hin:List (Nat×ABlk)):List (Nat×ABlk)→Bool
 | []=>true
 | (c,_)::r=>!i8 r c&&(i8 hin c || (decide (2000≤c)&&decide (c<3000)))&&a9p hin r
def a0R (d:Nat) (D:List Nat) (rn:List (Nat×Nat)) (hin hout:List (Nat×ABlk)) (r:AVal) (xs:List AVal):Bool :=
 a7D hin&&b5H hin&&b5H hout&&a9p hin hout&&((hin.isEmpty&&D.isEmpty) || !(AVal.idsL xs).isEmpty)&&((r.ids++a2D hout).all (i8 hout)) &&
  (hin.all fun q=>!D.contains (g6 rn q.1))&&rnOK rn hin&&(hin.all fun q=>!(a0E d hin hout).contains (g6 rn q.1)) &&
  (hin.all fun q=>!D.contains (g6 rn q.1+1000000000))&&((r.dry&&a09 hout) || D.all fun b=>decide (b<1000000000))
where
 rnOK (rn:List (Nat×Nat)):List (Nat×ABlk)→Bool
  | []=>true
  | (c,_)::r=>!i8 r c&&(r.all fun q=>g6 rn q.1 != g6 rn c)&&rnOK rn r
def L2 (d:Nat) (f:AVal) (args:List AVal) (K:Eff→Prop):Prop :=
 match f with
 | .fn (.func g) p c=>∃ (D:List Nat) (rn:List (Nat×Nat)) (hin:List (Nat×ABlk)) (l:List AVal) (hout:List (Nat×ABlk)) (r:AVal),HC P g hin l hout r∧a0R d D rn hin hout r (p++args++c)=true ∧
   LeL s.H D [] (g6 rn) (p++args++c) l∧LeH s.H D [] (g6 rn) hin ∧
   K { v:=r.ren (E7 d rn hin),kill:=U4 rn hout hin++a0E d hin hout,hp:=D9 (E7 d rn hin) hout++(if (r.dry&&a09 hout)=true then [] else rest s.H D) }
 | _=>False
def M8 (nid:Nat) (b:Builtin) (tys:List TypeId) (args:List AVal) (K:Eff→Prop):Prop :=
 match b,tys,args with
 | .len,[t],[x]=>(match T t with|some i=>(match i.desc with|.sl _=>True|_=>False)|none=>False)∧a2P s x K
 | .append,[t,t'],[x,y]=>t'=t∧Q5 T s nid t x y K
 | .max,_,[.int k a,.int k' b]=>k=k'∧K { v:=.int k (max a b) }
 | .min,_,[.int k a,.int k' b]=>k=k'∧K { v:=.int k (min a b) }
 | _,_,_=>False
def b9l:Operand→Bool
 | .const (.slice none 0 0)=>true
 | _=>false
def I8 (o:Oper) (K:Eff→Prop):Prop :=
 match o.op with
 | .move x=>K { v:=s.ev x }
 | .assign x=>K { v:=s.ev x }
 | .pick c a b=>match s.ev c with
  | .bool p=>(p=true→K { v:=s.ev a })∧(p=false→K { v:=s.ev b })
  | _=>False
 | .alloc t=>match T t with
  | some i=>K { v:=.bp (o.dst.getD 0) 0,kill:=[o.dst.getD 0],hp:=[(o.dst.getD 0,.box t (i.zero.map N8))] }
  | none=>False
 | .box t x=>match T t with
  | some i=>(r5 (s.ev x)).length=i.size∧(r5 (s.ev x)).all (AVal.cell s.H)=true∧(s.ev x).ids.contains (o.dst.getD 0)=false ∧
   K { v:=.bp (o.dst.getD 0) 0,kill:=[o.dst.getD 0],hp:=[(o.dst.getD 0,.box t (r5 (s.ev x)))] }
  | none=>False
 | .build t parts=>W6 T s t (parts.toList.map fun p=>(p.1,s.ev p.2)) K
 | .buildSlice t len parts=>t7 T s (o.dst.getD 0) t len (parts.toList.map fun p=>(p.1,s.ev p.2)) K
 | .load t x=>M7 T s t (s.ev x) K
 | .store t x v=>Z4 T s t (s.ev x) (s.ev v) K
 | .nilCheck x=>a5B (s.ev x) K
 | .binOp op t x y _=>match s.ev x,op with
  | .bool a,.eql=>a7U T t false (.bool a) (s.ev y) K
  | .bool a,.neq=>a7U T t true (.bool a) (s.ev y) K
  | x',_=>a4V op x' (s.ev y) K
 | .unOp op _ x=>a8H op (s.ev x) K
 | .convert src dst x=>(T src).isSome=true∧a2y T dst (s.ev x) K
 | .makeFunc fn first cap=>K { v:=.fn fn (first.toList.map s.ev) (cap.toList.map s.ev) }
 | .makeSlice t l c=>J5 T (o.dst.getD 0) t (s.ev l) (s.ev c) K
 | .slice t x lo hi none=>W5 T s t (s.ev x) (lo.map s.ev) (hi.map s.ev) K
 | .fieldAddr t x f=>J6 T t (s.ev x) f K
 | .field t x f=>a0T T t (s.ev x) f K
 | .indexAddr t x ix=>w7 T s t (s.ev x) (s.ev ix) K
 | .extract x i=>S8 (s.ev x) i K
 | .call c=>match c.callee with
  | .builtin b=>M8 T s (o.dst.getD 0) b c.argTypes.toList (c.args.toList.map s.ev) K
  | .value f=>L2 P s (o.dst.getD 0) (s.ev f) (c.args.toList.map s.ev) K
  | .invoke _ _=>False
 | .slice t x lo hi (some mx)=>a4T T t (s.ev x) (lo.map s.ev) (hi.map s.ev) (some (s.ev mx)) K
 | .lookup t x y ok=>U2 s P t ok (s.ev x) (s.ev y) K
 | _=>False
end
end Go.Proofs.YtanaeefeggokkaaGreat
/-! The abstract machine,3: how its states stand to frames and worlds; one effect. No program is named here. -/
namespace Go.Proofs.YtanaeefeggokkaaGreat
open Go.RowKit
set_option linter.constructorNameAsVariable false
theorem Fr.refl (L0:Nat→Prop) (w:World):Fr L0 w w:=⟨rfl,rfl,rfl,Nat.le_refl _,fun _ _ _=>rfl⟩
structure Old extends World where
 ηh:Nat→Value
 A:Nat→Prop:=fun _=>False
 U:Nat→Prop:=fun _=>False
 rd:Option (Nat×Loop):=none
def a4w (w0:Old) (w:World):Prop:=∀ q r,w0.rd=some (q,r)→w0.U q∧w.heap[q]?=some (.loop r)
def b1a (M:Nat):Deferred:={ target:=.collected M,args:=#[] }
def b6M (w0:Old) (ds dfs:List Deferred) (A0 L0:Nat→Prop) (η:Nat→Value) (s:ASt) (w:World):Prop :=
 ∃ (A1:Nat→Prop) (Ms:List Nat),dfs=Ms.map b1a++ds∧Ms.Nodup∧(∀ M∈Ms,w0.heap.size≤M∧¬ A1 M∧w.heap[M]?=some (.deferred (some []))) ∧
  (∀ g,A1 g→¬ w0.U g)∧a4w w0 w∧(∀ g,A0 g↔A1 g∨w0.U g∨g∈Ms)∧s.g.J A1 (fun g=>p9 η s.H g∨w0.U g∨g∈Ms) w∧(if s.g.yl=true then ∀ g,A1 g→g<w0.heap.size→L0 g else A1=w0.A)
structure Rel (n:Nat) (ds:List Deferred) (A0 L0:Nat→Prop) (w0:Old) (η:Nat→Value) (s:ASt) (a:Act) (w:World):Prop where
 size:a.tmps.size=n
 few:n≤1000
 hd:∀ b,R3 b→(s.H b).isSome=true→η b=w0.ηh b
 tmp:∀ i,d9 η w (Av A0 η s.H) (s.σ i) (a.tmps.getD i undef)
 hp:RelH A0 η s.H w
 fr:Fr L0 w0.toWorld w
 old:∀ g,p9 η s.H g→g<w0.heap.size→L0 g
 gh:b6M w0 ds a.defers A0 L0 η s w
theorem p9.cells {A0:Nat→Prop} {η:Nat→Value} {H:l3} {w:World} (h:RelH A0 η H w) {g:Nat} (hg:p9 η H g):(∀ d,w.heap[g]?≠some (.deferred d))∧∀ r,w.heap[g]?≠some (.loop r):=by
 obtain ⟨b,B,hb,hm,he⟩:=hg;have:=h.blk b B hb
 cases B with
 | box ty cs =>
  obtain ⟨g',vs,e1,e2,_⟩:=this;rw [e1] at he;injection he with he;subst he;exact ⟨(fun d hc=>by rw [hc] at e2; cases e2),(fun d hc=>by rw [hc] at e2; cases e2)⟩
 | arr e t xs =>
  rcases this with ⟨_,e1⟩|⟨g',cap,cur,e1,e2,_⟩
  ·rw [e1] at he; cases he
  ·rw [e1] at he;injection he with he;subst he;exact ⟨(fun d hc=>by rw [hc] at e2; cases e2),(fun d hc=>by rw [hc] at e2; cases e2)⟩
 | obx e cs =>
  rcases this with ⟨_,e1⟩|⟨g',cap,vs,e1,e2,_⟩
  ·rw [e1] at he; cases he
  ·rw [e1] at he;injection he with he;subst he;exact ⟨(fun d hc=>by rw [hc] at e2; cases e2),(fun d hc=>by rw [hc] at e2; cases e2)⟩
 | imm t xs=>cases hm
 | map ak ae kt vt xs =>
  obtain ⟨g',es,c,e1,e2,_⟩:=this;rw [e1] at he;injection he with he;subst he;exact ⟨(fun d hc=>by rw [hc] at e2; cases e2),(fun d hc=>by rw [hc] at e2; cases e2)⟩
theorem a36 {w0:Old} {w w':World} (h:a4w w0 w) (hk:∀ q:Nat,(∃ r,w.heap[q]?=some (.loop r))→w'.heap[q]?=w.heap[q]?):a4w w0 w':=fun q r hq=>by
 obtain ⟨h1,h2⟩:=h q r hq;refine ⟨h1,?_⟩;rw [hk q ⟨r,h2⟩]; exact h2
theorem a1N {w0:Old} {ds dfs:List Deferred} {A0 L0:Nat→Prop} {η η':Nat→Value} {s s':ASt} {w w':World} (h:b6M w0 ds dfs A0 L0 η s w) (hp:RelH A0 η s.H w) (hs:s'.g=s.g) (ht:Turns (fun g=>p9 η s.H g) w w')
  (hl:∀ g,p9 η' s'.H g→p9 η s.H g∨(w.heap.size≤g∧g<w'.heap.size)):b6M w0 ds dfs A0 L0 η' s' w':=by
 obtain ⟨A1,Ms,h1,h2,h3,h7,h8,h4,h5,h6⟩:=h;refine ⟨A1,Ms,h1,h2,fun M hM=>⟨(h3 M hM).1,(h3 M hM).2.1,?_⟩,h7,a36 h8 fun q hq=>?_,h4,?_,by rw [hs]; exact h6⟩
 ·rw [ht.heap M (Array.getElem?_eq_some_iff.1 (h3 M hM).2.2).1 (fun hl=>(p9.cells hp hl).1 _ (h3 M hM).2.2)];exact (h3 M hM).2.2
 ·obtain ⟨r,hq⟩:=hq;exact ht.heap q (Array.getElem?_eq_some_iff.1 hq).1 fun hl=>(p9.cells hp hl).2 _ hq
 ·rw [hs];refine s.g.cl _ _ _ _ _ h5 (ht.mono fun g _ hg=>.inl hg) fun g hg=>?_;rcases hg with hg|hg
  ·rcases hl g hg with hg|hg
   ·exact .inl (.inl hg)
   ·exact .inr hg
  ·exact .inl (.inr hg)
theorem a68 (η:Nat→Value) (w:World) (A:Nat→Prop) (v:Value):d9 η w A (N8 v) v:=by
 cases v<;>simp [N8,d9]
theorem Rel.ev {n:Nat} {ds:List Deferred} {A0 L0:Nat→Prop} {w0:Old} {η:Nat→Value} {s:ASt} {a:Act} {w:World} (h:Rel n ds A0 L0 w0 η s a w) (x:Operand) :
  d9 η w (Av A0 η s.H) (s.ev x) (a.eval x):=by
 cases x with
 | tmp t=>exact h.tmp t
 | const v=>exact a68 _ _ _ v
 | global g=>simp [ASt.ev,Act.eval,d9]
 | func f=>simp [ASt.ev,Act.eval,d9,d6]
theorem d9.clean {η η':Nat→Value} {A A':Nat→Prop} {w w':World} {K:List Nat} (k:Keeps A A' w w') (hη:∀ b,K.contains b=false→η' b=η b) (x:AVal) (v:Value) (h:d9 η w A x v) :
  d9 η' w' A' (x.clean K) v:=by
 unfold AVal.clean
 split
 ·unfold d9; trivial
 ·rename_i hK;refine d9.step k x v (fun b hb=>hη b ?_) h
  cases hc:K.contains b with
  | false=>rfl
  | true=>exact absurd (List.any_eq_true.2 ⟨b,by simpa using hc,hb⟩) hK
theorem d6.clean {η η':Nat→Value} {A A':Nat→Prop} {w w':World} {K:List Nat} (k:Keeps A A' w w') (hη:∀ b,K.contains b=false→η' b=η b):∀ (l:List AVal) (vs:List Value),d6 η w A l vs →
  d6 η' w' A' (l.map (AVal.clean K)) vs
 | [],vs,h=>by unfold d6 at *; exact h
 | x::l,vs,h=>by
  rw [List.map_cons];unfold d6 at *;obtain ⟨u,us,hv,hx,hl⟩:=h;exact ⟨u,us,hv,d9.clean k hη x u hx,d6.clean k hη l us hl⟩
theorem ABlk.mut_clean (K:List Nat) (B:ABlk):(B.clean K).mut=B.mut:=by cases B<;>rfl
theorem r6.step {η η':Nat→Value} {A A':Nat→Prop} {w w':World} {K:List Nat} (k:Keeps A A' w w') (hη:∀ b,K.contains b=false→η' b=η b) {B:ABlk} {h:Value}
  (hg:∀ g,B.mut=true→hblk h=some g→w'.heap[g]?=w.heap[g]?) (hr:r6 η w A B h):r6 η' w' A' (B.clean K) h:=by
 cases B with
 | box ty cs =>
  obtain ⟨g,vs,e,hw,hc⟩:=hr;exact ⟨g,vs,e,(hg g rfl (by rw [e]; rfl)).trans hw,d6.clean k hη cs _ hc⟩
 | obx e cs =>
  rcases hr with ⟨hn,hn2⟩|⟨g,cap,vs,e1,hw,h1,h2,h3,h4⟩
  ·exact .inl ⟨by rw [hn]; rfl,hn2⟩
  ·refine .inr ⟨g,cap,vs,by rw [List.length_map]; exact e1,(hg g rfl (by rw [e1]; rfl)).trans hw,by rw [List.length_map]; exact h1,h2,h3,?_⟩;rw [List.length_map];exact d6.clean k hη cs _ h4
 | arr e t xs =>
  rcases hr with hn|⟨g,cap,cur,e1,hw,h1,h2,h3,h4⟩
  ·exact .inl hn
  ·have hs:=hg g rfl (by rw [e1]; rfl);exact .inr ⟨g,cap,cur,e1,hs.trans hw,h1,h2,h3,fun i x hi=>i9.step k t x g _ hs (h4 i x hi)⟩
 | imm t xs =>
  obtain ⟨a,c,e,hs⟩:=hr;exact ⟨a,c,e,hs.step k.size k.av fun x b' o' hb' hn hx=>i9.step k t x b' o' (k.heap b' hb' hn) hx⟩
 | map ak ae kt vt xs =>
  obtain ⟨g,es,c,e,hw,hm,hm2⟩:=hr;exact ⟨g,es,c,e,(hg g rfl (by rw [e]; rfl)).trans hw,hm.step k,hm2⟩
theorem a5I (a:Act) (d:Option Nat) (v:Value):(a.put d v).tmps.size=a.tmps.size:=by cases d<;>simp [Act.put]
theorem b2k (a:Act) (d:Option Nat) (v:Value):(a.put d v).defers=a.defers:=by cases d<;>rfl
theorem a2U (a:Act) (d:Option Nat) (v:Value) (i:Nat):(a.put d v).tmps.getD i undef=if d=some i∧i<a.tmps.size then v else a.tmps.getD i undef:=by
 cases d with
 | none=>simp [Act.put]
 | some d =>
  simp only [Act.put,Array.getD_eq_getD_getElem?,Option.some.injEq]
  by_cases hd:d=i
  ·subst hd
   by_cases hlt:d<a.tmps.size
   ·simp [hlt]
   ·simp [hlt]
  ·simp [hd]
theorem a0p (x:AVal):x.clean []=x:=by simp [AVal.clean]
theorem z9 (B:ABlk):B.clean []=B:=by
 cases B with
 | box ty cs=>simp only [ABlk.clean]; congr 1; rw [show AVal.clean []=id from funext a0p]; simp
 | obx ty cs=>simp only [ABlk.clean]; congr 1; rw [show AVal.clean []=id from funext a0p]; simp
 | arr=>rfl
 | imm=>rfl
 | map=>rfl
section
variable {n:Nat} {ds:List Deferred} {A0 L0:Nat→Prop} {w0:Old} {η:Nat→Value} {s:ASt} {a:Act} {w:World}
theorem Rel.effN (h:Rel n ds A0 L0 w0 η s a w) {e:Eff} {d:Option Nat} {w':World} {η':Nat→Value} {u:Value} (N:Nat→Prop)
  (hd:∀ i,d=some i→i<n)
  (hη:∀ b,e.kill.contains b=false→η' b=η b)
  (hos:w'.os=w.os∧w'.tape=w.tape∧w'.output=w.output) (hsz:w.heap.size≤w'.heap.size)
  (hW:∀ g,g<w.heap.size→w'.heap[g]?=w.heap[g]?∨∃ b B,s.H b=some B∧B.mut=true∧hblk (η b)=some g∧((b6 e.hp b).isSome=true∨e.kill.contains b=true))
  (hN:∀ b B g,b6 e.hp b=some B→B.mut=true→hblk (η' b)=some g→(∃ b0 B0,s.H b0=some B0∧B0.mut=true∧hblk (η b0)=some g∧(b0=b∨(N b∧e.kill.contains b0=true)))∨(w.heap.size≤g∧N b))
  (hI:∀ b b' B B' g,N b→N b'→b6 e.hp b=some B→b6 e.hp b'=some B'→B.mut=true→B'.mut=true→hblk (η' b)=some g→hblk (η' b')=some g→b=b')
  (hK:∀ b,e.kill.contains b=true→(b6 e.hp b).isSome=true→N b)
  (hN1:∀ b,N b→¬ R3 b)
  (hhn:∀ b,R3 b→(b6 e.hp b).isSome=true→e.kill.contains b=false→(s.H b).isSome=true)
  (hhp:Keeps (Av A0 η s.H) (Av A0 η' (s.app d e).H) w w'→∀ b B,b6 e.hp b=some B→r6 η' w' (Av A0 η' (s.app d e).H) B (η' b))
  (hv:Keeps (Av A0 η s.H) (Av A0 η' (s.app d e).H) w w'→d9 η' w' (Av A0 η' (s.app d e).H) e.v u) :
  Rel n ds A0 L0 w0 η' (s.app d e) (a.put d u) w':=by
 have hold:∀ b B,(s.app d e).H b=some B→b6 e.hp b=some B∨(b6 e.hp b=none∧e.kill.contains b=false∧∃ B0,s.H b=some B0∧B=B0.clean e.kill):=by
  intro b B hb;simp only [ASt.app] at hb
  cases hg:b6 e.hp b with
  | some B'=>rw [hg] at hb; exact .inl hb
  | none =>
   rw [hg] at hb;simp only at hb
   cases hk:e.kill.contains b with
   | true=>simp at hb; exact absurd (by simpa using hk) hb.1
   | false =>
    have hk':¬ b∈e.kill:=by simpa using hk
    simp only [List.elem_eq_mem,hk',decide_false,Bool.false_eq_true,if_false,Option.map_eq_some_iff] at hb;obtain ⟨B0,h1,h2⟩:=hb;exact .inr ⟨rfl,rfl,B0,h1,h2.symm⟩
 -- a live block behind is one that was live,or a new one
 have hL:∀ b B g,(s.app d e).H b=some B→B.mut=true→hblk (η' b)=some g→(∃ b0 B0,s.H b0=some B0∧B0.mut=true∧hblk (η b0)=some g∧((b0=b∧(b6 e.hp b=some B∨e.kill.contains b=false))∨(N b∧b6 e.hp b=some B∧e.kill.contains b0=true))) ∨
   (w.heap.size≤g∧N b∧b6 e.hp b=some B):=by
  intro b B g hb hm hg;rcases hold b B hb with h1|⟨_,hk,B0,h1,h2⟩
  ·rcases hN b B g h1 hm hg with ⟨b0,B0,k1,k2,k3,k4⟩|⟨k1,k2⟩
   ·refine .inl ⟨b0,B0,k1,k2,k3,?_⟩;rcases k4 with k4|⟨k4,k5⟩
    ·exact .inl ⟨k4,.inl h1⟩
    ·exact .inr ⟨k4,h1,k5⟩
   ·exact .inr ⟨k1,k2,h1⟩
  ·refine .inl ⟨b,B0,h1,by rw [h2,ABlk.mut_clean] at hm; exact hm,?_,.inl ⟨rfl,.inr hk⟩⟩;rw [← hη b hk]; exact hg
 have hlive:∀ g,p9 η' (s.app d e).H g→g<w.heap.size→p9 η s.H g:=by
  rintro g ⟨b,B,h1,h2,h3⟩ hg
  rcases hL b B g h1 h2 h3 with ⟨b0,B0,k1,k2,k3,_⟩|⟨k1,_⟩
  ·exact ⟨b0,B0,k1,k2,k3⟩
  ·omega
 have k:Keeps (Av A0 η s.H) (Av A0 η' (s.app d e).H) w w':=by
  refine ⟨hsz,fun g hg hn=>?_,fun g hg hc=>?_⟩
  ·rcases hW g hg with h1|⟨b,B,h1,h2,h3,_⟩
   ·exact h1
   ·exact absurd (.inr ⟨b,B,h1,h2,h3⟩) hn
  ·rcases hc with hc|hc
   ·exact .inl hc
   ·exact .inr (hlive g hc hg)
 have hp':RelH A0 η' (s.app d e).H w':=by
  refine ⟨fun b B hb=>?_,fun b b' B B' g hb hb' hm hm' hg hg'=>?_,fun g hg=>?_⟩
  ·rcases hold b B hb with h1|⟨h0,hk,B0,h1,h2⟩
   ·exact hhp k b B h1
   ·rw [h2,hη b hk];refine r6.step k hη (fun g hm hg=>?_) (h.hp.blk b B0 h1);rcases hW g (p9.lt h.hp ⟨b,B0,h1,hm,hg⟩) with h3|⟨b',B',k1,k2,k3,k4⟩
    ·exact h3
    ·have:b'=b:=h.hp.inj b' b B' B0 g k1 h1 k2 hm k3 hg;subst this;rcases k4 with k4|k4
     ·rw [h0] at k4; cases k4
     ·rw [hk] at k4; cases k4
  ·rcases hL b B g hb hm hg with ⟨b0,B0,k1,k2,k3,k4⟩|⟨h4,h5,h6⟩
   ·rcases hL b' B' g hb' hm' hg' with ⟨b0',B0',k1',k2',k3',k4'⟩|⟨h4',_⟩
    ·have e0:=h.hp.inj b0 b0' B0 B0' g k1 k1' k2 k2' k3 k3';subst e0;rcases k4 with ⟨k4,k5⟩|⟨k4,k5,k6⟩<;>rcases k4' with ⟨k4',k5'⟩|⟨k4',k5',k6'⟩
     ·exact k4.symm.trans k4'
     ·subst k4;rcases k5 with k5|k5
      ·exact hI _ _ _ _ g (hK _ k6' (by rw [k5]; rfl)) k4' k5 k5' hm hm' hg hg'
      ·rw [k6'] at k5; cases k5
     ·subst k4';rcases k5' with k5'|k5'
      ·exact hI _ _ _ _ g k4 (hK _ k6 (by rw [k5']; rfl)) k5 k5' hm hm' hg hg'
      ·rw [k6] at k5'; cases k5'
     ·exact hI _ _ _ _ g k4 k4' k5 k5' hm hm' hg hg'
    ·have:=p9.lt h.hp ⟨b0,B0,k1,k2,k3⟩; omega
   ·rcases hL b' B' g hb' hm' hg' with ⟨b0',B0',k1',k2',k3',k4'⟩|⟨h4',h5',h6'⟩
    ·have:=p9.lt h.hp ⟨b0',B0',k1',k2',k3'⟩; omega
    ·exact hI _ _ _ _ g h5 h5' h6 h6' hm hm' hg hg'
  ·obtain ⟨h1,h2⟩:=h.hp.av g hg;exact ⟨Nat.lt_of_lt_of_le h1 hsz,fun hl=>h2 (hlive g hl h1)⟩
 have hWn:∀ g,g<w.heap.size→¬ p9 η s.H g→w'.heap[g]?=w.heap[g]?:=fun g hg hn=>by
  rcases hW g hg with h1|⟨b,B,h1,h2,h3,_⟩
  ·exact h1
  ·exact absurd ⟨b,B,h1,h2,h3⟩ hn
 refine ⟨by rw [a5I]; exact h.size,h.few,fun b hb hs=>?_,fun i=>?_,hp',⟨hos.1.trans h.fr.os,hos.2.1.trans h.fr.tape,hos.2.2.trans h.fr.output,Nat.le_trans h.fr.size hsz,fun g hg hn=>?_⟩,fun g hg hlt=>?_,?_⟩
 ·have hk:e.kill.contains b=false:=by
   cases hk:e.kill.contains b with
   | false=>rfl
   | true =>
    obtain ⟨B,hB⟩:=Option.isSome_iff_exists.1 hs;rcases hold b B hB with h1|⟨_,h2,_⟩
    ·exact absurd hb (hN1 b (hK b hk (by rw [h1]; rfl)))
    ·rw [hk] at h2; cases h2
  rw [hη b hk];refine h.hd b hb ?_;obtain ⟨B,hB⟩:=Option.isSome_iff_exists.1 hs;rcases hold b B hB with h1|⟨_,_,B0,h2,_⟩
  ·exact hhn b hb (by rw [h1]; rfl) hk
  ·rw [h2]; rfl
 ·rw [a2U,h.size]
  by_cases hdi:d=some i
  ·rw [if_pos ⟨hdi,hd i hdi⟩];simp only [ASt.app,hdi,if_true];rw [hdi] at hv k;exact hv k
  ·rw [if_neg (fun hc=>hdi hc.1)];have:=d9.clean (K:=e.kill) k hη _ _ (h.tmp i);simp only [ASt.app,hdi,if_false];exact this
 ·have hgw:g<w.heap.size:=Nat.lt_of_lt_of_le hg h.fr.size;rcases hW g hgw with h1|⟨b,B,h1,h2,h3,_⟩
  ·exact h1.trans (h.fr.heap g hg hn)
  ·exact absurd (h.old g ⟨b,B,h1,h2,h3⟩ hg) hn
 ·exact h.old g (hlive g hg (Nat.lt_of_lt_of_le hlt h.fr.size)) hlt
 ·rw [b2k];refine a1N h.gh h.hp rfl ⟨hos.1,hos.2.1,hos.2.2,hsz,fun g hg hn=>hWn g hg hn⟩ fun g hg=>?_
  by_cases hlt:g<w.heap.size
  ·exact .inl (hlive g hg hlt)
  ·exact .inr ⟨by omega,p9.lt hp' hg⟩
theorem Rel.eff (h:Rel n ds A0 L0 w0 η s a w) {e:Eff} {d:Option Nat} {w':World} {η':Nat→Value} {u:Value} {nid:Nat}
  (hd:∀ i,d=some i→i<n)
  (hη:∀ b,e.kill.contains b=false→η' b=η b)
  (hos:w'.os=w.os∧w'.tape=w.tape∧w'.output=w.output) (hsz:w.heap.size≤w'.heap.size)
  (hW:∀ g,g<w.heap.size→w'.heap[g]?=w.heap[g]?∨∃ b B,s.H b=some B∧B.mut=true∧hblk (η b)=some g∧((b6 e.hp b).isSome=true∨e.kill.contains b=true))
  (hN:∀ b B g,b6 e.hp b=some B→B.mut=true→hblk (η' b)=some g→(∃ b0 B0,s.H b0=some B0∧B0.mut=true∧hblk (η b0)=some g∧(b0=b∨(b=nid∧e.kill.contains b0=true)))∨(w.heap.size≤g∧b=nid))
  (hhp:Keeps (Av A0 η s.H) (Av A0 η' (s.app d e).H) w w'→∀ b B,b6 e.hp b=some B→r6 η' w' (Av A0 η' (s.app d e).H) B (η' b))
  (hv:Keeps (Av A0 η s.H) (Av A0 η' (s.app d e).H) w w'→d9 η' w' (Av A0 η' (s.app d e).H) e.v u)
  (hnid:nid<1000:=by omega)
  (hK:∀ b,e.kill.contains b=true→(b6 e.hp b).isSome=true→b=nid:=by intro b hb; simp at hb)
  (hhn:∀ b,b≠nid→(b6 e.hp b).isSome=true→(s.H b).isSome=true:=by intro b _ hb; simp [b6] at hb) :
  Rel n ds A0 L0 w0 η' (s.app d e) (a.put d u) w' :=
 h.effN (fun b=>b=nid) hd hη hos hsz hW hN (fun b b' _ _ _ e1 e2 _ _ _ _ _ _=>e1.trans e2.symm) hK (fun b e hc=>by unfold R3 at hc; omega) (fun b hb hs _=>hhn b (fun e=>by unfold R3 at hb; omega) hs) hhp hv
theorem Rel.pure (h:Rel n ds A0 L0 w0 η s a w) {v:AVal} {d:Option Nat} {u:Value} (hd:∀ i,d=some i→i<n) (hv:d9 η w (Av A0 η s.H) v u) :
  Rel n ds A0 L0 w0 η (s.app d { v:=v }) (a.put d u) w:=by
 refine h.eff (nid:=0) hd (fun _ _=>rfl) ⟨rfl,rfl,rfl⟩ (Nat.le_refl _) (fun g _=>.inl rfl) (fun b B g hb=>by simp [b6] at hb) (fun _ b B hb=>by simp [b6] at hb) (fun k=>?_);exact d9.step k v u (fun _ _=>rfl) hv
end
def fen (ro:Option Nat):Fence:={ Fence.wide with round:=ro }
theorem a4s (ro:Option Nat) (f:FuncId):(fen ro).fn f:=trivial
theorem a9t (ro:Option Nat) (n:Nat):(fen ro).depth.isSome=true→1≤n:=by intro h; simp [fen,Fence.wide] at h
section
variable {P:Program} {ro:Option Nat} {m:Nat} {o:Oper} {a:Act} {w w':World} {next:Act→World→Prop} {Q:Exit→Act→World→Prop} {u:Value}
theorem n7 (hdf:∀ c,o.op≠.defer c) (h:(execOp a.eval o).run P w=.ok (.value u) w') (hn:next (a.put o.dst u) w'):o.wpIn (fen ro) m P a w next Q:=by
 refine ⟨fun f _=>a4s ro f,?_⟩;rw [Oper.semAt_eq _ _ _ hdf,h];exact hn
theorem a1t (hdf:∀ c,o.op≠.defer c) (h:(execOp a.eval o).run P w=.ok .skip w') (hn:next (a.put o.dst undef) w'):o.wpIn (fen ro) m P a w next Q:=by
 refine ⟨fun f _=>a4s ro f,?_⟩;rw [Oper.semAt_eq _ _ _ hdf,h];exact hn
theorem b3E (hdf:∀ c,o.op≠.defer c) {f:FuncId} {vs:Array Value} (h:(execOp a.eval o).run P w=.ok (.enter f vs) w')
  (hc:Calls P f vs w' fun e w''=>∃ v,e=.returned v∧next (a.put o.dst v) w''):o.wpIn (fen ro) m P a w next Q:=by
 refine ⟨fun f _=>a4s ro f,?_⟩;rw [Oper.semAt_eq _ _ _ hdf,h];refine ⟨a9t ro _,?_⟩;have h1:=(callsIn_wide (n:=m - 1)).2 hc;refine CallsIn.mono (R:=fun e w''=>∃ v,e=.returned v∧next (a.put o.dst v) w'') ?_ (fun e w'' ⟨v,he,hn⟩=>by subst he; exact hn);exact ⟨trivial,fun cs _=>h1.2 cs (room_wide _)⟩
end
end Go.Proofs.YtanaeefeggokkaaGreat
/-! The abstract machine,4: cells and values; the laws that the operations need. No program is named here. -/
namespace Go.Proofs.YtanaeefeggokkaaGreat
open Go.RowKit
set_option linter.constructorNameAsVariable false
/-! ### Lists of values -/
section
variable {η:Nat→Value} {w:World} {A:Nat→Prop}
theorem d6.length:∀ {l:List AVal} {vs:List Value},d6 η w A l vs→l.length=vs.length
 | [],vs,h=>by unfold d6 at h; simp [h]
 | x::l,vs,h=>by
  unfold d6 at h;obtain ⟨u,us,rfl,_,hl⟩:=h;simp [d6.length hl]
theorem d6.cons {x:AVal} {l:List AVal} {v:Value} {vs:List Value} (hx:d9 η w A x v) (hl:d6 η w A l vs):d6 η w A (x::l) (v::vs):=by
 unfold d6; exact ⟨v,vs,rfl,hx,hl⟩
theorem d6.nil:d6 η w A [] []:=by unfold d6; rfl
theorem d6.append:∀ {l m:List AVal} {vs us:List Value},d6 η w A l vs→d6 η w A m us→d6 η w A (l++m) (vs++us)
 | [],m,vs,us,h,k=>by unfold d6 at h; subst h; exact k
 | x::l,m,vs,us,h,k=>by
  unfold d6 at h;obtain ⟨u,vs',rfl,hx,hl⟩:=h;exact d6.cons hx (d6.append hl k)
theorem d6.drop:∀ {l:List AVal} {vs:List Value} (j:Nat),d6 η w A l vs→d6 η w A (l.drop j) (vs.drop j)
 | l,vs,0,h=>by simpa using h
 | [],vs,j+1,h=>by unfold d6 at h; subst h; simpa using d6.nil
 | x::l,vs,j+1,h=>by
  unfold d6 at h;obtain ⟨u,vs',rfl,hx,hl⟩:=h;simpa using d6.drop j hl
theorem d6.take:∀ {l:List AVal} {vs:List Value} (j:Nat),d6 η w A l vs→d6 η w A (l.take j) (vs.take j)
 | l,vs,0,h=>by simpa using d6.nil
 | [],vs,j+1,h=>by unfold d6 at h; subst h; simpa using d6.nil
 | x::l,vs,j+1,h=>by
  unfold d6 at h;obtain ⟨u,vs',rfl,hx,hl⟩:=h;rw [List.take_succ_cons,List.take_succ_cons];exact d6.cons hx (d6.take j hl)
theorem d6.split:∀ {l m:List AVal} {vs:List Value},d6 η w A (l++m) vs→∃ v1 v2,vs=v1++v2∧d6 η w A l v1∧d6 η w A m v2
 | [],m,vs,h=>⟨[],vs,rfl,d6.nil,h⟩
 | x::l,m,vs,h=>by
  rw [List.cons_append] at h;unfold d6 at h;obtain ⟨u,vs',rfl,hx,hl⟩:=h;obtain ⟨v1,v2,rfl,h1,h2⟩:=d6.split hl;exact ⟨u::v1,v2,rfl,d6.cons hx h1,h2⟩
theorem d6.get:∀ {l:List AVal} {vs:List Value} {i:Nat} {x:AVal},d6 η w A l vs→l[i]?=some x→∃ v,vs[i]?=some v∧d9 η w A x v
 | [],vs,i,x,h,hi=>by simp at hi
 | y::l,vs,0,x,h,hi=>by
  unfold d6 at h;obtain ⟨u,vs',rfl,hx,hl⟩:=h;simp at hi
  subst hi;exact ⟨u,rfl,hx⟩
 | y::l,vs,i+1,x,h,hi=>by
  unfold d6 at h;obtain ⟨u,vs',rfl,hx,hl⟩:=h;simpa using d6.get hl (by simpa using hi)
theorem m4:∀ (t:Ty) (x:El t),(cellsOf t x).length=t.size
 | .int _,_=>rfl
 | .bool,_=>rfl
 | .unit,_=>rfl
 | .pair a b,x=>by simp [cellsOf,Ty.size,m4 a,m4 b]
 | .sl _,_=>rfl
theorem i9.cells (η:Nat→Value):∀ (t:Ty) (x:El t) (g o:Nat),i9 w A t x g o→∃ vs:List Value,(∀ i v,vs[i]?=some v→w.cell? ⟨g,o+i,none⟩=some v)∧d6 η w A (cellsOf t x) vs
 | .int k,x,g,o,h=>by
  unfold i9 at h;refine ⟨[.int k x],fun i v hi=>?_,d6.cons (by unfold d9; rfl) d6.nil⟩
  cases i with
  | zero=>simp at hi; subst hi; exact h
  | succ i=>simp at hi
 | .bool,x,g,o,h=>by
  unfold i9 at h;refine ⟨[.bool x],fun i v hi=>?_,d6.cons (by unfold d9; rfl) d6.nil⟩
  cases i with
  | zero=>simp at hi; subst hi; exact h
  | succ i=>simp at hi
 | .unit,x,g,o,h=>⟨[],fun i v hi=>by simp at hi,d6.nil⟩
 | .pair s t,x,g,o,h=>by
  unfold i9 at h;obtain ⟨v1,h1,r1⟩:=i9.cells η s x.1 g o h.1;obtain ⟨v2,h2,r2⟩:=i9.cells η t x.2 g (o+s.size) h.2;have hl:v1.length=s.size:=by rw [← r1.length,m4]
  refine ⟨v1++v2,fun i v hi=>?_,r1.append r2⟩
  by_cases hlt:i<v1.length
  ·exact h1 i v (by rwa [List.getElem?_append_left hlt] at hi)
  ·rw [List.getElem?_append_right (by omega)] at hi;have:=h2 _ v hi
   rwa [show o+s.size+(i - v1.length)=o+i by omega] at this
 | .sl t,xs,g,o,h=>by
  unfold i9 at h;obtain ⟨a,c,hc,hs⟩:=h;refine ⟨[_],fun i v hi=>?_,d6.cons (v:=.slice a (List.length (α:=El t) xs) c) (by unfold d9; exact ⟨a,c,rfl,hs⟩) d6.nil⟩
  cases i with
  | zero=>simp at hi; subst hi; exact hc
  | succ i=>simp at hi
theorem i9.of_cells {η:Nat→Value}:∀ (t:Ty) (x:El t) (g o:Nat) (vs:List Value),(∀ i v,vs[i]?=some v→w.cell? ⟨g,o+i,none⟩=some v)→d6 η w A (cellsOf t x) vs→i9 w A t x g o
 | .int k,x,g,o,vs,hc,h=>by
  unfold cellsOf d6 at h;obtain ⟨u,us,rfl,hu,_⟩:=h;unfold d9 at hu;unfold i9;subst hu;exact hc 0 _ rfl
 | .bool,x,g,o,vs,hc,h=>by
  unfold cellsOf d6 at h;obtain ⟨u,us,rfl,hu,_⟩:=h;unfold d9 at hu;unfold i9;subst hu;exact hc 0 _ rfl
 | .unit,x,g,o,vs,hc,h=>by unfold i9; trivial
 | .pair s t,x,g,o,vs,hc,h=>by
  unfold cellsOf at h;obtain ⟨v1,v2,rfl,h1,h2⟩:=h.split;have hl:v1.length=s.size:=by rw [← h1.length,m4]
  unfold i9
  refine ⟨i9.of_cells s x.1 g o v1 (fun i v hi=>hc i v (by
   rw [List.getElem?_append_left (List.getElem?_eq_some_iff.1 hi).1]; exact hi)) h1,i9.of_cells t x.2 g _ v2 (fun i v hi=>?_) h2⟩
  have:=hc (s.size+i) v (by rw [List.getElem?_append_right (by omega),hl,Nat.add_sub_cancel_left]; exact hi)
  rwa [← Nat.add_assoc] at this
 | .sl t,xs,g,o,vs,hc,h=>by
  unfold cellsOf d6 at h;obtain ⟨u,us,rfl,hu,_⟩:=h;unfold d9 at hu;obtain ⟨a,c,rfl,hs⟩:=hu;unfold i9;exact ⟨a,c,hc 0 _ rfl,hs⟩
end
/-! ### Types -/
section
variable {P:Program} {t:TypeId} {i:TInfo}
theorem TOK.isAgg (h:TOK P t i) (w:World):(Go.isAgg t).run P w=.ok i.desc.agg w:=by
 obtain ⟨info,z,d,_,_,_,_,_,hu,hf⟩:=h.ex
 cases d<;>cases hd:i.desc<;>rw [hd] at hf<;>simp [a7b] at hf<;>simp [Go.isAgg,run_underlying hu,TDesc.agg]
theorem TOK.sizeOf (h:TOK P t i) (w:World):(Go.sizeOf t).run P w=.ok i.size w:=by
 obtain ⟨info,z,d,hi,hs,_⟩:=h.ex;simp [Go.sizeOf,typeInfo,hi,hs]
theorem TOK.cellsOf (h:TOK P t i):P.cellsOf t=i.size:=by
 obtain ⟨info,z,d,hi,hs,_⟩:=h.ex;simp [Program.cellsOf,hi,hs]
theorem TOK.slice (h:TOK P t i) {e:TypeId} (hd:i.desc=.sl e):P.underlying t=some (.slice e):=by
 obtain ⟨info,z,d,_,_,_,_,_,hu,hf⟩:=h.ex;rw [hd] at hf
 cases d<;>simp [a7b] at hf
 rw [hf] at hu; exact hu
theorem TOK.array (h:TOK P t i) {n:Nat} {e:TypeId} (hd:i.desc=.arr n e):P.underlying t=some (.array n e):=by
 obtain ⟨info,z,d,_,_,_,_,_,hu,hf⟩:=h.ex;rw [hd] at hf
 cases d<;>simp [a7b] at hf
 rw [hf.1,hf.2] at hu; exact hu
theorem TOK.int (h:TOK P t i) {k:IntKind} (hd:i.desc=.int k):P.underlying t=some (.int k):=by
 obtain ⟨info,z,d,_,_,_,_,_,hu,hf⟩:=h.ex;rw [hd] at hf
 cases d<;>simp [a7b] at hf
 rw [hf] at hu; exact hu
theorem TOK.bool (h:TOK P t i) (hd:i.desc=.bool):P.underlying t=some .bool:=by
 obtain ⟨info,z,d,_,_,_,_,_,hu,hf⟩:=h.ex;rw [hd] at hf
 cases d<;>simp [a7b] at hf
 exact hu
theorem TOK.struct (h:TOK P t i) {fs:List (Nat×TypeId×Nat)} (hd:i.desc=.struct fs):∃ gs,P.underlying t=some (.struct gs)∧gs.toList.map (fun f=>(f.offset,f.type,P.cellsOf f.type))=fs∧∀ f∈gs.toList,(P.info? f.type).isSome=true:=by
 obtain ⟨info,z,d,_,_,_,_,_,hu,hf⟩:=h.ex;rw [hd] at hf
 cases d<;>unfold a7b at hf<;>try (cases hf; done)
 simp only [Bool.and_eq_true,beq_iff_eq,List.all_eq_true] at hf;exact ⟨_,hu,hf.2,hf.1⟩
end
/-! ### Loads and stores -/
def a2V (d:TDesc) (vs:List Value):Value:=if d.agg then .agg vs.toArray else vs.headD undef
theorem a01 {η:Nat→Value} {w:World} {A:Nat→Prop} {d:TDesc} {l:List AVal} {vs:List Value} (h:d6 η w A l vs):d9 η w A (b0V d l) (a2V d vs):=by
 unfold b0V a2V
 split
 ·unfold d9; exact ⟨_,rfl,h⟩
 ·cases l with
  | nil=>unfold d6 at h; subst h; simp [d9]
  | cons x l =>
   unfold d6 at h;obtain ⟨u,us,rfl,hx,_⟩:=h;exact hx
theorem U1 (g o j:Nat):(⟨g,o,none⟩:Addr).add j=⟨g,o+j,none⟩:=by unfold Addr.add; split<;>simp_all
theorem F8 {P:Program} {t:TypeId} {i:TInfo} (hT:TOK P t i) {w:World} {g o:Nat} {vs:List Value} (hl:vs.length=i.size) (h1:i.desc.agg=true∨i.size=1)
  (hc:∀ j v,vs[j]?=some v→w.cell? ⟨g,o+j,none⟩=some v):(Instr.loadAt t (.pointer (some ⟨g,o,none⟩))).run P w=.ok (a2V i.desc vs) w:=by
 unfold Instr.loadAt Instr.sureAddr loadVar a2V
 by_cases ha:i.desc.agg=true
 ·have hr:=run_loadCells_list (P:=P) w ⟨g,o,none⟩ vs (fun j v hj=>by rw [U1]; exact hc j v hj);rw [hl] at hr;simp [hT.isAgg,ha,hT.sizeOf,hr]
 ·have hs:=h1.resolve_left ha;rw [hs] at hl
  cases vs with
  | nil=>simp at hl
  | cons v vs =>
   have:=hc 0 v rfl;simp only [Nat.add_zero] at this;simp [hT.isAgg,ha,this]
theorem a3E {η:Nat→Value} {w:World} {A:Nat→Prop} {H:l3} {x:AVal} {v:Value} (hH:∀ b B,H b=some B→r6 η w A B (η b)) (hx:x.cell H=true) (h:d9 η w A x v):v.oneCell'=true:=by
 cases x<;>simp only [AVal.cell,Bool.false_eq_true] at hx<;>unfold d9 at h
 case int=>subst h; rfl
 case bool=>subst h; rfl
 case sl=>obtain ⟨a,c,rfl,_⟩:=h; rfl
 case own b =>
  cases hb:H b with
  | none=>rw [hb] at hx; cases hx
  | some B =>
   have:=hH b B hb;subst h
   cases B with
   | box=>obtain ⟨g,vs,e,_⟩:=this; rw [e]; rfl
   | arr =>
    rcases this with ⟨_,e⟩|⟨_,_,_,e,_⟩<;>rw [e]<;>rfl
   | obx =>
    rcases this with ⟨_,e⟩|⟨_,_,_,e,_⟩<;>rw [e]<;>rfl
   | imm=>obtain ⟨a,c,e,_⟩:=this; rw [e]; rfl
   | map=>obtain ⟨g,es,c,e,_⟩:=this; rw [e]; rfl
 case bp=>obtain ⟨g,_,rfl⟩:=h; rfl
 case ap=>obtain ⟨g,n,c,_,rfl⟩:=h; rfl
 case vw=>obtain ⟨a,c,rfl,_⟩:=h; rfl
 case one=>exact h
 case dp=>obtain ⟨g,o,rfl,_⟩:=h; rfl
 case cv=>subst h; exact hx
 case fn=>obtain ⟨_,_,rfl,_⟩:=h; rfl
theorem a0Z {η:Nat→Value} {w:World} {A:Nat→Prop} {H:l3} (hH:∀ b B,H b=some B→r6 η w A B (η b)):∀ {l:List AVal} {vs:List Value},l.all (AVal.cell H)=true→d6 η w A l vs→∀ v∈vs,v.oneCell'=true
 | [],vs,_,h,v,hv=>by unfold d6 at h; subst h; simp at hv
 | x::l,vs,hl,h,v,hv=>by
  unfold d6 at h;obtain ⟨u,us,rfl,hx,hr⟩:=h;simp only [List.all_cons,Bool.and_eq_true] at hl;rcases List.mem_cons.1 hv with rfl|hv
  ·exact a3E hH hl.1 hx
  ·exact a0Z hH hl.2 hr v hv
theorem a15 {η:Nat→Value} {w:World} {A:Nat→Prop} {H:l3} (hH:∀ b B,H b=some B→r6 η w A B (η b)) {x:AVal} {v:Value} (hx:(r5 x).all (AVal.cell H)=true) (h:d9 η w A x v) :
  d6 η w A (r5 x) v.cells.toList:=by
 by_cases ha:∃ l,x=.agg l
 ·obtain ⟨l,rfl⟩:=ha;unfold d9 at h;obtain ⟨vs,rfl,hl⟩:=h;exact hl
 ·have e:r5 x=[x]:=by cases x<;>first|rfl|(exact absurd ⟨_,rfl⟩ ha)
  rw [e] at hx ⊢;have h1:x.cell H=true:=by simpa using hx
  have:=a3E hH h1 h;have hc:v.cells=#[v]:=by cases v<;>first|rfl|cases this
  rw [hc];exact d6.cons h d6.nil
theorem a3K {P:Program} {t:TypeId} {i:TInfo} (hT:TOK P t i) {w:World} {g o:Nat} {v:Value} {cur:Array Value} {e:TypeId} (hg:w.heap[g]?=some (.cells cur e (0,0))) (hl:v.cells.size=i.size)
  (hfit:o+i.size≤cur.size) (h1:∀ u∈v.cells.toList,u.oneCell'=true) :
  (Instr.storeAt t (.pointer (some ⟨g,o,none⟩)) v).run P w=.ok () (w.setRow g (cur.toList.take o++v.cells.toList++cur.toList.drop (o+v.cells.toList.length)).toArray):=by
 unfold Instr.storeAt Instr.sureAddr storeVar;have:=run_storeCells_at P g o e v.cells.toList 0 cur w hg (by simpa [hl] using hfit) h1;simp only [Nat.add_zero] at this;simp [hT.sizeOf,hl,this]
end Go.Proofs.YtanaeefeggokkaaGreat
/-! The abstract machine,5: the operations that only read. No program is named here. -/
namespace Go.Proofs.YtanaeefeggokkaaGreat
open Go.RowKit
set_option linter.constructorNameAsVariable false
section
variable {P:Program} {T:Tab} {n:Nat} {ds:List Deferred} {A0 L0:Nat→Prop} {w0:Old} {η:Nat→Value} {s:ASt} {a:Act} {w:World}
def a1i (P:Program) (S:Sem Value) (n:Nat) (ds:List Deferred) (A0 L0:Nat→Prop) (w0:Old) (s:ASt) (a:Act) (w:World) (d:Option Nat) (K:Eff→Prop):Prop :=
 ∃ e u w' η',K e∧S.run P w=.ok u w'∧Rel n ds A0 L0 w0 η' (s.app d e) (a.put d u) w'
theorem g7 (h:Rel n ds A0 L0 w0 η s a w) {d:Option Nat} (hd:∀ i,d=some i→i<n) {S:Sem Value} {K:Eff→Prop} {v:AVal} {u:Value}
  (hr:S.run P w=.ok u w) (hv:d9 η w (Av A0 η s.H) v u) (hK:K { v:=v }):a1i P S n ds A0 L0 w0 s a w d K :=
 ⟨_,u,w,η,hK,hr,h.pure hd hv⟩
theorem S9 {vs:List Value} {off k j:Nat} {v:Value} (h:((vs.drop off).take k)[j]?=some v):vs[off+j]?=some v:=by
 rw [List.getElem?_take] at h
 split at h
 ·rwa [List.getElem?_drop] at h
 ·cases h
theorem b3v (h:RelH A0 η s.H w) {b:Nat} {e:TypeId} {t:Ty} {xs:List (El t)} (hb:s.H b=some (.arr e t xs)) {g n' c:Nat} (hg:η b=.slice (some ⟨g,0,none⟩) n' c) :
  ∃ cur,w.heap[g]?=some (.cells cur e (0,0))∧n'=xs.length∧xs.length≤c∧cur.size=c*t.size∧∀ i x,xs[i]?=some x→i9 w (Av A0 η s.H) t x g (i*t.size):=by
 rcases h.blk b _ hb with ⟨_,e1⟩|⟨g',cap,cur,e1,e2,e3,_,e5,e6⟩
 ·rw [hg] at e1; cases e1
 ·rw [hg] at e1;injection e1 with e1 e7 e8;injection e1 with e1;injection e1 with e1 _ _;subst e1 e8;exact ⟨cur,e2,e7,e3,e5,e6⟩
theorem a63 (hT:z5 P T) (h:Rel n ds A0 L0 w0 η s a w) {d:Option Nat} (hd:∀ i,d=some i→i<n) {t:TypeId} {x:AVal} {xv:Value} (hx:d9 η w (Av A0 η s.H) x xv) {K:Eff→Prop} (hs:M7 T s t x K) :
  a1i P (Instr.loadAt t xv) n ds A0 L0 w0 s a w d K:=by
 unfold M7 at hs
 cases ht:T t with
 | none=>simp [ht] at hs
 | some i =>
  have hti:=hT t i ht;simp only [ht] at hs
  cases x<;>simp only at hs
  case bp b off =>
   unfold d9 at hx;obtain ⟨g,hη,rfl⟩:=hx
   cases hb:s.H b with
   | none=>simp [hb] at hs
   | some B =>
    cases B<;>simp only [hb] at hs
    case box ty cs =>
     obtain ⟨h1,h2,hK⟩:=hs;obtain ⟨g',vs,e1,e2,e3⟩:=h.hp.blk b _ hb;rw [hη] at e1;injection e1 with e1;injection e1 with e1;injection e1 with e1;subst e1;have hl:=e3.length;refine g7 h hd (F8 (vs:=(vs.toList.drop off).take i.size) hti (by simp; simp at hl; omega) h2 fun j v hj=>?_) (a01 ((e3.drop off).take i.size)) hK;have:=S9 hj;simp [World.cell?,e2]
     simpa using this
  case dp τ y off =>
   unfold d9 at hx;obtain ⟨g,o,rfl,_,_,hat⟩:=hx;obtain ⟨h1,h2,hK⟩:=hs;obtain ⟨vs,hc,hr⟩:=i9.cells η τ y g o hat;have hl:=hr.length;rw [m4] at hl;refine g7 h hd (F8 (vs:=(vs.drop off).take i.size) hti (by simp; omega) h2 fun j v hj=>?_) (a01 ((hr.drop off).take i.size)) hK;have:=hc _ v (S9 hj)
   rwa [← Nat.add_assoc] at this
  case ap b sz j off =>
   unfold d9 at hx;obtain ⟨g,n',c,hη,rfl⟩:=hx
   cases hb:s.H b with
   | none=>simp [hb] at hs
   | some B =>
    cases B<;>simp only [hb] at hs
    case arr e τ xs =>
     obtain ⟨rfl,h1,h2,hj,hK⟩:=hs;obtain ⟨cur,_,_,_,_,hat⟩:=b3v h.hp hb hη;have hxj:xs[j]?=some (xs.getD j τ.dflt):=by simp [List.getD,hj]
     obtain ⟨vs,hc,hr⟩:=i9.cells η τ _ g _ (hat j _ hxj);have hl:=hr.length;rw [m4] at hl;refine g7 h hd (F8 (vs:=(vs.drop off).take i.size) hti (by simp; omega) h2 fun k v hk=>?_) (a01 ((hr.drop off).take i.size)) hK;have:=hc _ v (S9 hk)
     rwa [← Nat.add_assoc] at this
    case obx e cs =>
     obtain ⟨rfl,rfl,h1,h2,hj,hK⟩:=hs;have hy:cs[j]?=some (cs.getD j .un):=by simp [List.getD,hj]
     rcases h.hp.blk b _ hb with ⟨e1,_⟩|⟨gg',cap,vs,e1,e2,e3,e4,e5,e6⟩
     ·rw [e1] at hy; cases hy
     rw [hη] at e1;injection e1 with e1 _ _;injection e1 with e1;injection e1 with e1;subst e1;obtain ⟨v,hv,hrep⟩:=d6.get e6 hy;have hv':vs[j]?=some v:=by
      rw [List.getElem?_take_of_lt hj] at hv;simpa using hv
     have hp:a2V i.desc [v]=v:=by unfold a2V; rw [h2]; rfl
     have hrun:=F8 (P:=P) hti (w:=w) (g:=g) (o:=j*1+0) (vs:=[v]) (by rw [h1]; rfl) (.inr h1) (fun p u hp=>by
      cases p with
      | zero=>simp at hp; subst hp; simp [World.cell?,e2,hv']
      | succ p=>simp at hp)
     rw [hp] at hrun;exact g7 h hd hrun hrep hK
theorem b2f (h:Rel n ds A0 L0 w0 η s a w) {d:Option Nat} (hd:∀ i,d=some i→i<n) {op:BinOp} {t:TypeId} {x y:AVal} {ox oy:Operand} {xv yv:Value}
  (hx:d9 η w (Av A0 η s.H) x xv) (hy:d9 η w (Av A0 η s.H) y yv) {K:Eff→Prop} (hs:a4V op x y K) :
  a1i P (do eqGuard op t ox oy xv yv; binOp op t xv yv) n ds A0 L0 w0 s a w d K:=by
 unfold a4V at hs
 split at hs
 case h_1 k p k' q =>
   unfold d9 at hx hy;subst hx hy;have rep:∀ z:Int,d9 η w (Av A0 η s.H) (.int k z) (.int k z):=fun z=>by unfold d9; rfl
   have repb:∀ z:Bool,d9 η w (Av A0 η s.H) (.bool z) (.bool z):=fun z=>by unfold d9; rfl
   cases op<;>simp only at hs
   case add=>obtain ⟨rfl,hs⟩:=hs; exact g7 h hd (by simp [eqGuard,binOp,Op.intArith,a4x hs.1]) (rep _) hs.2
   case sub=>obtain ⟨rfl,hs⟩:=hs; exact g7 h hd (by simp [eqGuard,binOp,Op.intArith,a4x hs.1]) (rep _) hs.2
   case mul=>obtain ⟨rfl,hs⟩:=hs; exact g7 h hd (by simp [eqGuard,binOp,Op.intArith,a4x hs.1]) (rep _) hs.2
   case quo =>
    obtain ⟨rfl,h1,h2,h3,hK⟩:=hs;have hq:¬ q=0:=by omega
    exact g7 h hd (by simp [eqGuard,binOp,Op.intDiv,hq,Int.tdiv_eq_ediv_of_nonneg h1,a4x h3]) (rep _) hK
   case rem =>
    obtain ⟨rfl,h1,h2,hK⟩:=hs;have hq:¬ q=0:=by omega
    exact g7 h hd (by simp [eqGuard,binOp,Op.intDiv,hq,Int.tmod_eq_emod_of_nonneg h1]) (rep _) hK
   case eql=>obtain ⟨rfl,hs⟩:=hs; exact g7 h hd (u:=.bool (decide (p=q))) (by simp [eqGuard,binOp,Op.intCmp]; rfl) (repb _) hs
   case neq=>obtain ⟨rfl,hs⟩:=hs; exact g7 h hd (u:=.bool (!decide (p=q))) (by simp [eqGuard,binOp,Op.intCmp]; rfl) (repb _) hs
   case lss=>obtain ⟨rfl,hs⟩:=hs; exact g7 h hd (by simp [eqGuard,binOp,Op.intCmp]) (repb _) hs
   case leq=>obtain ⟨rfl,hs⟩:=hs; exact g7 h hd (by simp [eqGuard,binOp,Op.intCmp]) (repb _) hs
   case gtr=>obtain ⟨rfl,hs⟩:=hs; exact g7 h hd (by simp [eqGuard,binOp,Op.intCmp]) (repb _) hs
   case geq=>obtain ⟨rfl,hs⟩:=hs; exact g7 h hd (by simp [eqGuard,binOp,Op.intCmp]) (repb _) hs
   case shl =>
    obtain ⟨h1,hK⟩:=hs;have hq:¬ q<0:=by omega
    exact g7 h hd (u:=.int k (a2C k p q)) (by simp [eqGuard,binOp,Op.shift,hq,a2C]) (rep _) hK
   case shr =>
    obtain ⟨h1,hK⟩:=hs;have hq:¬ q<0:=by omega
    exact g7 h hd (u:=.int k (b9k k p q)) (by simp [eqGuard,binOp,Op.shift,hq,b9k]) (rep _) hK
   case and=>obtain ⟨rfl,hs⟩:=hs; exact g7 h hd (u:=.int k (a5h k p q)) (by simp [eqGuard,binOp,Op.intBits,a5h]) (rep _) hs
   case or=>obtain ⟨rfl,hs⟩:=hs; exact g7 h hd (u:=.int k (ior k p q)) (by simp [eqGuard,binOp,Op.intBits,ior]) (rep _) hs
   case xor=>obtain ⟨rfl,hs⟩:=hs; exact g7 h hd (u:=.int k (b9j k p q)) (by simp [eqGuard,binOp,Op.intBits,b9j]) (rep _) hs
   case andNot=>obtain ⟨rfl,hs⟩:=hs; exact g7 h hd (u:=.int k (b5W k p q)) (by simp [eqGuard,binOp,Op.intBits,b5W]) (rep _) hs
 case h_2=>exact hs.elim
theorem a84 (hT:z5 P T) (h:Rel n ds A0 L0 w0 η s a w) {d:Option Nat} (hd:∀ i,d=some i→i<n) {op:BinOp} {t:TypeId} {neg:Bool} {x y:AVal} {ox oy:Operand} {xv yv:Value}
  (hop:op=if neg then .neq else .eql)
  (hx:d9 η w (Av A0 η s.H) x xv) (hy:d9 η w (Av A0 η s.H) y yv) {K:Eff→Prop} (hs:a7U T t neg x y K) :
  a1i P (do eqGuard op t ox oy xv yv; binOp op t xv yv) n ds A0 L0 w0 s a w d K:=by
 unfold a7U at hs
 split at hs
 case h_2=>exact hs.elim
 case h_1 p q =>
   obtain ⟨ht,hK⟩:=hs;unfold d9 at hx hy;subst hx hy
   cases hti:T t with
   | none=>simp [hti] at ht
   | some i =>
    simp only [hti] at ht;have hu:=(hT t i hti).bool ht
    cases neg
    ·subst hop;exact g7 h hd (u:=.bool ((p==q) != false)) (by have:=run_eql_bool (P:=P) w t p q hu; simp [eqGuard,this]) (by unfold d9; rfl) hK
    ·subst hop;exact g7 h hd (u:=.bool ((p==q) != true)) (by have:=run_neq_bool (P:=P) w t p q hu; simp [eqGuard,this]) (by unfold d9; rfl) hK
theorem b3L (h:Rel n ds A0 L0 w0 η s a w) {d:Option Nat} (hd:∀ i,d=some i→i<n) {op:UnOp} {x:AVal} {xv:Value}
  (hx:d9 η w (Av A0 η s.H) x xv) {K:Eff→Prop} (hs:a8H op x K):a1i P (Op.unary op xv) n ds A0 L0 w0 s a w d K:=by
 unfold a8H at hs
 split at hs
 ·unfold d9 at hx; subst hx;exact g7 h hd (by simp [Op.unary]; rfl) (by unfold d9; rfl) hs
 ·unfold d9 at hx; subst hx;exact g7 h hd (by simp [Op.unary,Op.intArith,a4x hs.1]; rfl) (by unfold d9; rfl) hs.2
 ·exact hs.elim
theorem b0I (hT:z5 P T) (h:Rel n ds A0 L0 w0 η s a w) {d:Option Nat} (hd:∀ i,d=some i→i<n) {src dst:TypeId} {x:AVal} {xv:Value} (hsrc:∃ d,P.underlying src=some d)
  (hx:d9 η w (Av A0 η s.H) x xv) {K:Eff→Prop} (hs:a2y T dst x K):a1i P (convert src dst xv) n ds A0 L0 w0 s a w d K:=by
 unfold a2y at hs
 cases hti:T dst with
 | none=>simp [hti] at hs
 | some i =>
  cases x<;>simp only [hti] at hs
  case int k q =>
   cases hd':i.desc<;>simp only [hd'] at hs
   case int k' =>
    unfold d9 at hx; subst hx;have hu:=(hT dst i hti).int hd';obtain ⟨sd,hsd⟩:=hsrc;exact g7 h hd (by simp [convert,run_underlying hu,run_underlying hsd,Conv.intToInt,a4x hs.1]; rfl) (by unfold d9; rfl) hs.2
theorem a7T (h:Rel n ds A0 L0 w0 η s a w) {d:Option Nat} (hd:∀ i,d=some i→i<n) {i:Nat} {x:AVal} {xv:Value}
  (hx:d9 η w (Av A0 η s.H) x xv) {K:Eff→Prop} (hs:S8 x i K):a1i P (Instr.extract xv i) n ds A0 L0 w0 s a w d K:=by
 unfold S8 at hs
 cases x<;>simp only at hs
 case tup l =>
  unfold d9 at hx;obtain ⟨vs,rfl,hl⟩:=hx
  cases hi:l[i]? with
  | none=>simp [hi] at hs
  | some v =>
   simp only [hi] at hs;obtain ⟨u,hu,hr⟩:=hl.get hi;have hu':vs[i]?=some u:=by simpa using hu
   exact g7 h hd (by simp [Instr.extract,hu']) hr hs
theorem a1l (hT:z5 P T) {t:TypeId} {i:TInfo} (ht:T t=some i) {fs:List (Nat×TypeId×Nat)} (hd:i.desc=.struct fs) {f off sz:Nat} {ft:TypeId} (hf:fs[f]?=some (off,ft,sz)) (hz:sz≠0) (g o:Nat) (w:World) :
  (Instr.fieldAt t (.pointer (some ⟨g,o,none⟩)) f).run P w=.ok (.pointer (some ⟨g,o+off,none⟩)) w:=by
 obtain ⟨gs,hu,hg,_⟩:=(hT t i ht).struct hd;rw [← hg,List.getElem?_map] at hf
 cases hgf:gs.toList[f]? with
 | none=>rw [hgf] at hf; cases hf
 | some fl =>
  rw [hgf] at hf;injection hf with hf;injection hf with e1 e2;injection e2 with e2 e3;have hgf':gs[f]?=some fl:=by simpa using hgf
  have hso:∃ j,P.info? fl.type=some j∧j.size=sz:=by
   unfold Program.cellsOf at e3
   cases hj:P.info? fl.type with
   | none=>rw [hj] at e3; simp at e3; exact absurd e3.symm hz
   | some j=>rw [hj] at e3; exact ⟨j,rfl,by simpa using e3⟩
  obtain ⟨j,hj,hjs⟩:=hso;subst e1;simp [Instr.fieldAt,run_underlying hu,hgf',Instr.sureAddr,fieldPlace,sizeOf,typeInfo,hj,hjs,hz,U1]
theorem a6m (hT:z5 P T) (h:Rel n ds A0 L0 w0 η s a w) {d:Option Nat} (hd:∀ i,d=some i→i<n) {t:TypeId} {f:Nat} {x:AVal} {xv:Value}
  (hx:d9 η w (Av A0 η s.H) x xv) {K:Eff→Prop} (hs:J6 T t x f K):a1i P (Instr.fieldAt t xv f) n ds A0 L0 w0 s a w d K:=by
 unfold J6 at hs
 cases ht:T t with
 | none=>simp [ht] at hs
 | some i =>
  simp only [ht] at hs
  cases hdd:i.desc<;>simp only [hdd] at hs
  case struct fs =>
   cases hf:fs[f]? with
   | none=>simp [hf] at hs
   | some q =>
    obtain ⟨off,ft,sz⟩:=q;simp only [hf] at hs;obtain ⟨hz,hs⟩:=hs
    cases x<;>simp only at hs
    case bp b o =>
     unfold d9 at hx;obtain ⟨g,hη,rfl⟩:=hx;exact g7 h hd (a1l hT ht hdd hf hz g o w) (by unfold d9; exact ⟨g,hη,rfl⟩) hs
    case dp τ y o =>
     unfold d9 at hx;obtain ⟨g,p,rfl,hr⟩:=hx;exact g7 h hd (a1l hT ht hdd hf hz g _ w) (by unfold d9; exact ⟨g,p,by rw [Nat.add_assoc],hr⟩) hs
    case ap b m j o =>
     unfold d9 at hx;obtain ⟨g,n',c,hη,rfl⟩:=hx;exact g7 h hd (a1l hT ht hdd hf hz g _ w) (by unfold d9; exact ⟨g,n',c,hη,by rw [Nat.add_assoc]⟩) hs
theorem a9V {t:TypeId} {i:TInfo} (hT:TOK P t i) {cs:Array Value} {off:Nat} (hfit:off+i.size≤cs.size) (h1:i.desc.agg=true∨i.size=1) (w:World) :
  (part t cs off).run P w=.ok (a2V i.desc ((cs.toList.drop off).take i.size)) w:=by
 unfold part a2V
 by_cases ha:i.desc.agg=true
 ·have:cs.extract off (off+i.size)=((cs.toList.drop off).take i.size).toArray:=by
   apply Array.ext';simp [Array.toList_extract,List.extract_eq_take_drop]
  simp [hT.isAgg,ha,hT.sizeOf,this]
 ·have hs:=h1.resolve_left ha;have hlt:off<cs.size:=by omega
  have e:(cs.toList.drop off).take i.size=[cs[off]]:=by
   rw [hs,List.take_one,List.head?_drop];simp [hlt]
  simp [hT.isAgg,ha,hlt,e]
theorem a9P (hT:z5 P T) (h:Rel n ds A0 L0 w0 η s a w) {d:Option Nat} (hd:∀ i,d=some i→i<n) {t:TypeId} {f:Nat} {x:AVal} {xv:Value}
  (hx:d9 η w (Av A0 η s.H) x xv) {K:Eff→Prop} (hs:a0T T t x f K):a1i P (Instr.field t xv f) n ds A0 L0 w0 s a w d K:=by
 unfold a0T at hs
 cases ht:T t with
 | none=>simp [ht] at hs
 | some i =>
  simp only [ht] at hs
  cases hdd:i.desc<;>simp only [hdd] at hs
  case struct fs =>
   cases hf:fs[f]? with
   | none=>simp [hf] at hs
   | some q =>
    obtain ⟨off,ft,sz⟩:=q
    cases x<;>simp only [hf] at hs
    case agg l =>
     cases hj:T ft with
     | none=>simp [hj] at hs
     | some j =>
      simp only [hj] at hs;obtain ⟨rfl,h1,h2,hK⟩:=hs;unfold d9 at hx;obtain ⟨vs,rfl,hl⟩:=hx;have hlen:=hl.length;obtain ⟨gs,hu,hg,_⟩:=(hT t i ht).struct hdd;rw [← hg,List.getElem?_map] at hf
      cases hgf:gs.toList[f]? with
      | none=>rw [hgf] at hf; cases hf
      | some fl =>
       rw [hgf] at hf;injection hf with hf;injection hf with e1 e2;injection e2 with e2 e3;have hgf':gs[f]?=some fl:=by simpa using hgf
       subst e1 e2;have hp:=a9V (P:=P) (hT _ _ hj) (cs:=vs) (off:=fl.offset) (by simp at hlen; omega) h2 w;exact g7 h hd (by simp [Instr.field,run_underlying hu,hgf',asAgg,hp]) (a01 ((hl.drop _).take _)) hK
theorem Q6 (hT:z5 P T) {t e:TypeId} {i ie:TInfo} (ht:T t=some i) (hd:i.desc=.sl e) (he:T e=some ie) (g o len c:Nat) (k:IntKind) (q:Int) (h0:0≤q) (h1:q<len) (w:World) :
  (Instr.indexAt t (.slice (some ⟨g,o,none⟩) len c) (.int k q)).run P w=.ok (.pointer (some ⟨g,o+q.toNat*ie.size,none⟩)) w:=by
 have hu:=(hT t i ht).slice hd;simp [Instr.indexAt,asIntOf,run_underlying hu,h0,h1,(hT e ie he).sizeOf,U1]
theorem a1k (hT:z5 P T) {t e:TypeId} {i ie:TInfo} {len:Nat} (ht:T t=some i) (hd:i.desc=.arr len e) (he:T e=some ie) (g o:Nat) (k:IntKind) (q:Int) (h0:0≤q) (h1:q<len) (w:World) :
  (Instr.indexAt t (.pointer (some ⟨g,o,none⟩)) (.int k q)).run P w=.ok (.pointer (some ⟨g,o+q.toNat*ie.size,none⟩)) w:=by
 have hu:=(hT t i ht).array hd;simp [Instr.indexAt,asIntOf,run_underlying hu,h0,h1,Instr.sureAddr,(hT e ie he).sizeOf,U1]
theorem a5G {t:Ty} {xs:List (El t)} {a:Option Addr} {c:Nat} {A:Nat→Prop} (hs:A3 w.heap.size A t.size (fun x b o=>i9 w A t x b o) xs a c) {q:Int} (h0:0≤q) (h1:q<(xs.length:Int)) :
  ∃ g o,a=some ⟨g,o,none⟩∧g<w.heap.size∧¬ A g∧i9 w A t (xs.getD q.toNat t.dflt) g (o+q.toNat*t.size):=by
 obtain ⟨_,_,h3⟩:=hs;obtain ⟨g,o,e,hg,hn,hx⟩:=h3 (by omega);refine ⟨g,o,e,hg,hn,hx q.toNat _ ?_⟩;have:q.toNat<xs.length:=by omega
 simp [List.getD,this]
theorem a6k (hT:z5 P T) (h:Rel n ds A0 L0 w0 η s a w) {d:Option Nat} (hd:∀ i,d=some i→i<n) {t:TypeId} {x ix:AVal} {xv iv:Value}
  (hx:d9 η w (Av A0 η s.H) x xv) (hi:d9 η w (Av A0 η s.H) ix iv) {K:Eff→Prop} (hs:w7 T s t x ix K):a1i P (Instr.indexAt t xv iv) n ds A0 L0 w0 s a w d K:=by
 unfold w7 at hs
 cases ht:T t with
 | none=>simp [ht] at hs
 | some i =>
  simp only [ht] at hs
  cases hdd:i.desc<;>simp only [hdd] at hs
  case sl e =>
   cases he:T e with
   | none=>simp [he] at hs
   | some ie =>
    cases ix<;>simp only [he] at hs
    case int k q =>
     unfold d9 at hi; subst hi
     cases x<;>simp only at hs
     case sl τ xs =>
      obtain ⟨hsz,h0,h1,hK⟩:=hs;unfold d9 at hx;obtain ⟨a',c,rfl,hb⟩:=hx;obtain ⟨g,o,rfl,hg,hn,hr⟩:=a5G hb h0 h1;refine g7 h hd (Q6 hT ht hdd he g o _ c k q h0 h1 w) ?_ hK;unfold d9;exact ⟨g,_,by rw [hsz]; rfl,hg,hn,hr⟩
     case vw b z lo m =>
      unfold d9 at hx
      cases hb:s.H b with
      | none=>simp [hb] at hs
      | some B =>
       cases B<;>simp only [hb] at hs
       case box ty cs =>
        obtain ⟨rfl,hsz,h0,h1,hK⟩:=hs;obtain ⟨a',c,rfl,_,_,hx⟩:=hx;obtain ⟨g,hg,rfl⟩:=hx (by omega);obtain ⟨g',vs,e1,_⟩:=h.hp.blk b _ hb;rcases hg with ⟨_,_,hg⟩|hg
        ·rw [e1] at hg; cases hg
        ·refine g7 h hd (Q6 hT ht hdd he g _ m c k q h0 h1 w) ?_ hK;unfold d9;exact ⟨g,hg,by rw [hsz,Nat.mul_one,Nat.mul_one]⟩
       case arr e' τ xs =>
        obtain ⟨rfl,hsz,h0,h1,hK⟩:=hs;obtain ⟨a',c,rfl,_,_,hx⟩:=hx;obtain ⟨g,hg,rfl⟩:=hx (by omega);rcases hg with ⟨n',c',hg⟩|hg
        ·refine g7 h hd (Q6 hT ht hdd he g _ m c k q h0 h1 w) ?_ hK;unfold d9;exact ⟨g,n',c',hg,by rw [← hsz,Nat.add_mul,Nat.add_zero]⟩
        ·rcases h.hp.blk b _ hb with ⟨_,e1⟩|⟨_,_,_,e1,_⟩<;>(rw [e1] at hg; cases hg)
     case own b =>
      unfold d9 at hx
      cases hb:s.H b with
      | none=>simp [hb] at hs
      | some B =>
       cases B<;>simp only [hb] at hs
       case arr e' τ xs =>
        obtain ⟨hsz,h0,h1,hK⟩:=hs;rcases h.hp.blk b _ hb with ⟨e1,_⟩|⟨g,cap,cur,e1,_⟩
        ·rw [e1] at h1; simp at h1; omega
        ·rw [hx,e1];refine g7 h hd (Q6 hT ht hdd he g 0 _ cap k q h0 h1 w) ?_ hK;unfold d9;exact ⟨g,_,cap,e1,by rw [hsz]; simp⟩
       case imm τ xs =>
        obtain ⟨hsz,h0,h1,hK⟩:=hs;obtain ⟨a',c,e1,hbd⟩:=h.hp.blk b _ hb;obtain ⟨g,o,rfl,hg,hn,hr⟩:=a5G hbd h0 h1;rw [hx,e1];refine g7 h hd (Q6 hT ht hdd he g o _ c k q h0 h1 w) ?_ hK;unfold d9;exact ⟨g,_,by rw [hsz]; rfl,hg,hn,hr⟩
       case obx e' cs =>
        obtain ⟨hsz,h0,h1,hK⟩:=hs;rcases h.hp.blk b _ hb with ⟨e1,_⟩|⟨g,cap,vs,e1,_⟩
        ·rw [e1] at h1; simp at h1; omega
        ·rw [hx,e1];refine g7 h hd (Q6 hT ht hdd he g 0 _ cap k q h0 h1 w) ?_ hK;unfold d9;exact ⟨g,_,cap,e1,by rw [hsz]; simp⟩
  case arr len e =>
   cases he:T e with
   | none=>simp [he] at hs
   | some ie =>
    cases ix<;>simp only [he] at hs
    case int k q =>
     unfold d9 at hi; subst hi;obtain ⟨h0,h1,hs⟩:=hs
     cases x<;>simp only at hs
     case bp b o =>
      unfold d9 at hx;obtain ⟨g,hη,rfl⟩:=hx;exact g7 h hd (a1k hT ht hdd he g o k q h0 h1 w) (by unfold d9; exact ⟨g,hη,rfl⟩) hs
     case dp τ y o =>
      unfold d9 at hx;obtain ⟨g,p,rfl,hr⟩:=hx;exact g7 h hd (a1k hT ht hdd he g _ k q h0 h1 w) (by unfold d9; exact ⟨g,p,by rw [Nat.add_assoc],hr⟩) hs
     case ap b m j o =>
      unfold d9 at hx;obtain ⟨g,n',c,hη,rfl⟩:=hx;exact g7 h hd (a1k hT ht hdd he g _ k q h0 h1 w) (by unfold d9; exact ⟨g,n',c,hη,by rw [Nat.add_assoc]⟩) hs
theorem a8g (h:Rel n ds A0 L0 w0 η s a w) {x:AVal} {xv:Value} (hx:d9 η w (Av A0 η s.H) x xv) {t:Ty} {xs:List (El t)} (hl:L4 s x=some ⟨t,xs⟩):∃ a c,xv=.slice a xs.length c∧xs.length≤c∧c≤maxLen:=by
 cases x<;>simp only [L4] at hl
 case sl τ ys =>
  injection hl with hl;injection hl with e1 e2;subst e1;have e2:=eq_of_heq e2;subst e2;unfold d9 at hx;obtain ⟨a',c,rfl,hb⟩:=hx;exact ⟨a',c,rfl,hb.1,hb.2.1⟩
 case own b =>
  unfold d9 at hx
  cases hb:s.H b with
  | none=>simp [hb] at hl
  | some B =>
   cases B<;>simp only [hb] at hl
   case box=>cases hl
   case obx=>cases hl
   case map=>cases hl
   case arr e' τ ys =>
    injection hl with hl;injection hl with e1 e2;subst e1;have e2:=eq_of_heq e2;subst e2;rcases h.hp.blk b _ hb with ⟨e1,e2⟩|⟨g,cap,cur,e1,_,e3,e4,_⟩
    ·rw [hx,e2,e1]; exact ⟨none,0,rfl,by simp,by simp [maxLen]⟩
    ·rw [hx,e1]; exact ⟨_,cap,rfl,e3,e4⟩
   case imm τ ys =>
    injection hl with hl;injection hl with e1 e2;subst e1;have e2:=eq_of_heq e2;subst e2;obtain ⟨a',c,e1,hbd⟩:=h.hp.blk b _ hb;rw [hx,e1];exact ⟨a',c,rfl,hbd.1,hbd.2.1⟩
 all_goals cases hl
theorem b18 (hT:z5 P T) (h:Rel n ds A0 L0 w0 η s a w) {d:Option Nat} (hd:∀ i,d=some i→i<n) {t ty:TypeId} {i:TInfo} (ht:T t=some i) {e:TypeId} (hdd:i.desc=.sl e) {x:AVal} {xv:Value}
  (hx:d9 η w (Av A0 η s.H) x xv) {K:Eff→Prop} (hs:a2P s x K):a1i P (Builtin.len_ #[t] ty #[xv]) n ds A0 L0 w0 s a w d K:=by
 have hu:=(hT t i ht).slice hdd;unfold a2P at hs
 split at hs
 ·obtain ⟨rfl,hK⟩:=hs;unfold d9 at hx; subst hx;exact g7 h hd (by simp [Builtin.len_,run_underlying hu]; rfl) (by unfold d9; rfl) hK
 ·unfold d9 at hx;obtain ⟨a',c,rfl,_⟩:=hx;exact g7 h hd (by simp [Builtin.len_,run_underlying hu]; rfl) (by unfold d9; rfl) hs
 ·cases hl:L4 s x with
  | none=>simp [hl] at hs
  | some q =>
   obtain ⟨τ,xs⟩:=q;simp only [hl] at hs;obtain ⟨a',c,rfl,_⟩:=a8g h hx hl;exact g7 h hd (by simp [Builtin.len_,run_underlying hu]; rfl) (by unfold d9; rfl) hs
end
end Go.Proofs.YtanaeefeggokkaaGreat
/-! The abstract machine,6: new variables,stores. No program is named here. -/
namespace Go.Proofs.YtanaeefeggokkaaGreat
open Go.RowKit
set_option linter.constructorNameAsVariable false
theorem t6 (H:l3):∀ (ids:List Nat) (b:Nat) (B:ABlk),b6 (rest H ids) b=some B→∃ e t xs,H b=some (.arr e t xs)∧B=.imm t xs∧b∈ids
 | [],b,B,h=>by simp [rest,b6] at h
 | c::r,b,B,h=>by
  unfold rest at h
  cases hc:H c with
  | none =>
   simp only [hc] at h;obtain ⟨e,t,xs,h1,h2,h3⟩:=t6 H r b B h;exact ⟨e,t,xs,h1,h2,List.mem_cons_of_mem _ h3⟩
  | some C =>
   cases C with
   | arr e t xs =>
    simp only [hc,b6] at h
    split at h
    ·rename_i hbc;injection h with h;subst hbc;exact ⟨e,t,xs,hc,h.symm,by simp⟩
    ·obtain ⟨e,t,xs,h1,h2,h3⟩:=t6 H r b B h;exact ⟨e,t,xs,h1,h2,List.mem_cons_of_mem _ h3⟩
   | box=>
    simp only [hc] at h;obtain ⟨e,t,xs,h1,h2,h3⟩:=t6 H r b B h;exact ⟨e,t,xs,h1,h2,List.mem_cons_of_mem _ h3⟩
   | obx =>
    simp only [hc] at h;obtain ⟨e,t,xs,h1,h2,h3⟩:=t6 H r b B h;exact ⟨e,t,xs,h1,h2,List.mem_cons_of_mem _ h3⟩
   | imm =>
    simp only [hc] at h;obtain ⟨e,t,xs,h1,h2,h3⟩:=t6 H r b B h;exact ⟨e,t,xs,h1,h2,List.mem_cons_of_mem _ h3⟩
   | map =>
    simp only [hc] at h;obtain ⟨e,t,xs,h1,h2,h3⟩:=t6 H r b B h;exact ⟨e,t,xs,h1,h2,List.mem_cons_of_mem _ h3⟩
theorem a2T (H:l3):∀ (ids:List Nat) (b:Nat) {e:TypeId} {t:Ty} {xs:List (El t)},b∈ids→H b=some (.arr e t xs)→b6 (rest H ids) b=some (.imm t xs)
 | c::r,b,e,t,xs,hm,hb=>by
  unfold rest
  by_cases hbc:b=c
  ·subst hbc;simp [hb,b6]
  ·have hr:b∈r:=(List.mem_cons.1 hm).resolve_left hbc;have ih:=a2T H r b hr hb
   cases hc:H c with
   | none=>simpa only [hc] using ih
   | some C=>cases C<;>simp only [b6,hbc,if_false]<;>exact ih
mutual
theorem a5O:∀ (x:AVal) (b:Nat),x.has b=true→b∈x.ids
 | .own c,b,h=>by simp [AVal.has] at h; simp [AVal.ids,h]
 | .bp c _,b,h=>by simp [AVal.has] at h; simp [AVal.ids,h]
 | .ap c _ _ _,b,h=>by simp [AVal.has] at h; simp [AVal.ids,h]
 | .vw c _ _ _,b,h=>by simp [AVal.has] at h; simp [AVal.ids,h]
 | .one,b,h=>by simp [AVal.has] at h
 | .agg l,b,h=>by simp only [AVal.has] at h; simp only [AVal.ids]; exact a02 l b h
 | .tup l,b,h=>by simp only [AVal.has] at h; simp only [AVal.ids]; exact a02 l b h
 | .fn _ p c,b,h=>by
  simp only [AVal.has,Bool.or_eq_true] at h;simp only [AVal.ids,List.mem_append];exact h.imp (a02 p b) (a02 c b)
 | .un,b,h=>by simp [AVal.has] at h
 | .int _ _,b,h=>by simp [AVal.has] at h
 | .bool _,b,h=>by simp [AVal.has] at h
 | .sl _ _,b,h=>by simp [AVal.has] at h
 | .cut _ _,b,h=>by simp [AVal.has] at h
 | .dp _ _ _,b,h=>by simp [AVal.has] at h
 | .cv _,b,h=>by simp [AVal.has] at h
theorem a02:∀ (l:List AVal) (b:Nat),AVal.hasL l b=true→b∈AVal.idsL l
 | [],b,h=>by simp [AVal.hasL] at h
 | x::l,b,h=>by
  simp only [AVal.hasL,Bool.or_eq_true] at h;simp only [AVal.idsL,List.mem_append];exact h.imp (a5O x b) (a02 l b)
end
theorem R5 (x:AVal):AVal.idsL (r5 x)=x.ids:=by
 cases x<;>simp [r5,AVal.idsL,AVal.ids]
theorem v9:∀ (l m:List AVal),AVal.idsL (l++m)=AVal.idsL l++AVal.idsL m
 | [],m=>rfl
 | x::l,m=>by simp [AVal.idsL,v9 l m]
theorem G7:∀ (t:Ty) (x:El t),AVal.idsL (cellsOf t x)=[]
 | .int _,_=>rfl
 | .bool,_=>rfl
 | .unit,_=>rfl
 | .pair a b,x=>by simp [cellsOf,v9,G7 a,G7 b]
 | .sl _,_=>rfl
theorem a93 {l:List AVal} (h:AVal.idsL l=[]) (b:Nat):AVal.hasL l b=false:=by
 cases hb:AVal.hasL l b with
 | false=>rfl
 | true=>have:=a02 l b hb; rw [h] at this; simp at this
theorem d6.data {η η':Nat→Value} {A A':Nat→Prop} {w w':World} (k:Keeps A A' w w') {t:Ty} {x:El t} {vs:List Value} (h:d6 η w A (cellsOf t x) vs):d6 η' w' A' (cellsOf t x) vs :=
 d6.step k _ _ (fun b hb=>by rw [a93 (G7 t x) b] at hb; cases hb) h
theorem Keeps.refl (A:Nat→Prop) (w:World):Keeps A A w w:=⟨Nat.le_refl _,fun _ _ _=>rfl,fun _ _ h=>h⟩
theorem a38 {A0:Nat→Prop} {η:Nat→Value} {H:l3} {w w':World} {A':Nat→Prop} (h:RelH A0 η H w) {b:Nat} {e:TypeId} {t:Ty} {xs:List (El t)} (hb:H b=some (.arr e t xs)∨H b=some (.imm t xs))
  (k:Keeps (Av A0 η H) A' w w') (hrow:∀ g,H b=some (.arr e t xs)→hblk (η b)=some g→w'.heap[g]?=w.heap[g]?∧¬ A' g) :
  ∃ a c,η b=.slice a xs.length c∧A3 w'.heap.size A' t.size (fun x b o=>i9 w' A' t x b o) xs a c:=by
 rcases hb with hb|hb
 ·rcases h.blk b _ hb with ⟨e1,e2⟩|⟨g,cap,cur,e1,e2,e3,e4,e5,e6⟩
  ·subst e1;exact ⟨none,0,e2,by simp,by simp [maxLen],fun hp=>by simp at hp⟩
  ·obtain ⟨r1,r2⟩:=hrow g hb (by rw [e1]; rfl);refine ⟨_,cap,e1,e3,e4,fun _=>⟨g,0,rfl,Nat.lt_of_lt_of_le (Array.getElem?_eq_some_iff.1 e2).1 k.size,r2,fun i x hi=>?_⟩⟩;have:=i9.step k t x g _ r1 (e6 i x hi);simpa using this
 ·obtain ⟨a,c,e1,hs⟩:=h.blk b _ hb;exact ⟨a,c,e1,hs.step k.size k.av fun x b' o' hb' hn hx=>i9.step k t x b' o' (k.heap b' hb' hn) hx⟩
theorem a2N {η η':Nat→Value} {H:l3} {A A':Nat→Prop} {w w':World} (k:Keeps A A' w w'):∀ (t:Ty) (l:List AVal) (x:El t) (r:List AVal) (vs:List Value),C6 H t l=some (x,r)→d6 η w A l vs →
  (∀ b t xs e,b∈AVal.idsL l→(H b=some (.arr e t xs)∨H b=some (.imm t xs))→∃ a c,η b=.slice a xs.length c∧A3 w'.heap.size A' t.size (fun x b o=>i9 w' A' t x b o) xs a c) →
  ∃ v1 v2,vs=v1++v2∧d6 η' w' A' (cellsOf t x) v1∧d6 η w A r v2∧(∀ b,b∈AVal.idsL r→b∈AVal.idsL l)
 | .int kd,l,x,r,vs,h,hr,hown=>by
  unfold C6 a6Y at h
  split at h<;>simp at h
  rename_i k' m l';obtain ⟨rfl,rfl,rfl⟩:=h;unfold d6 at hr;obtain ⟨u,us,rfl,hu,hl⟩:=hr;unfold d9 at hu;subst hu;exact ⟨[_],us,rfl,d6.cons (by unfold d9; rfl) d6.nil,hl,fun b hb=>by simp [AVal.idsL,hb]⟩
 | .bool,l,x,r,vs,h,hr,hown=>by
  unfold C6 a6g at h
  split at h<;>simp at h
  obtain ⟨rfl,rfl⟩:=h;unfold d6 at hr;obtain ⟨u,us,rfl,hu,hl⟩:=hr;unfold d9 at hu;subst hu;exact ⟨[_],us,rfl,d6.cons (by unfold d9; rfl) d6.nil,hl,fun b hb=>by simp [AVal.idsL,hb]⟩
 | .unit,l,x,r,vs,h,hr,hown=>by
  unfold C6 at h;simp at h
  subst h;exact ⟨[],vs,rfl,d6.nil,hr,fun b hb=>hb⟩
 | .pair s t,l,x,r,vs,h,hr,hown=>by
  unfold C6 at h
  cases h1:C6 H s l with
  | none=>simp [h1] at h
  | some p =>
   obtain ⟨x1,r1⟩:=p;simp only [h1] at h
   cases h2:C6 H t r1 with
   | none=>simp [h2] at h
   | some q =>
    obtain ⟨x2,r2⟩:=q;simp only [h2,Option.some.injEq,Prod.mk.injEq] at h;obtain ⟨rfl,rfl⟩:=h;obtain ⟨v1,v2,rfl,k1,k2,k3⟩:=a2N k s l x1 r1 vs h1 hr hown;obtain ⟨v3,v4,rfl,k4,k5,k6⟩:=a2N k t r1 x2 r2 v2 h2 k2 (fun b t xs e hb=>hown b t xs e (k3 b hb));exact ⟨v1++v3,v4,by simp,by unfold cellsOf; exact k1.append k4,k5,fun b hb=>k3 b (k6 b hb)⟩
 | .sl t,l,x,r,vs,h,hr,hown=>by
  unfold C6 a9H at h
  split at h
  ·rename_i t' xs l'
   split at h
   ·rename_i ht;subst ht;injection h with h;injection h with e1 e2;subst e1 e2;unfold d6 at hr;obtain ⟨u,us,rfl,hu,hl⟩:=hr;exact ⟨[u],us,rfl,d6.cons (d9.step k _ _ (fun b hb=>by simp [AVal.has] at hb) hu) d6.nil,hl,fun b hb=>by simp [AVal.idsL,hb]⟩
   ·cases h
  ·rename_i b l';unfold d6 at hr;obtain ⟨u,us,rfl,hu,hl⟩:=hr;unfold d9 at hu
   split at h
   ·rename_i e t' xs hb
    split at h
    ·rename_i ht;subst ht;injection h with h;injection h with e1 e2;subst e1 e2;obtain ⟨a,c,e3,hs⟩:=hown b _ xs e (by simp [AVal.idsL,AVal.ids]) (.inl hb);refine ⟨[u],us,rfl,d6.cons ?_ d6.nil,hl,fun b hb=>by simp [AVal.idsL,hb]⟩;unfold d9;exact ⟨a,c,by rw [hu,e3],hs⟩
    ·cases h
   ·rename_i t' xs hb
    split at h
    ·rename_i ht;subst ht;injection h with h;injection h with e1 e2;subst e1 e2;obtain ⟨a,c,e3,hs⟩:=hown b _ xs 0 (by simp [AVal.idsL,AVal.ids]) (.inr hb);refine ⟨[u],us,rfl,d6.cons ?_ d6.nil,hl,fun b hb=>by simp [AVal.idsL,hb]⟩;unfold d9;exact ⟨a,c,by rw [hu,e3],hs⟩
    ·cases h
   ·cases h
  ·rename_i u0 l'
   split at h
   case isFalse=>cases h
   rename_i hnil;have hnil:=a6z hnil;subst hnil;injection h with h;injection h with e1 e2;subst e1 e2;unfold d6 at hr;obtain ⟨u,us,rfl,hu,hl⟩:=hr;unfold d9 at hu;subst hu;refine ⟨[_],us,rfl,d6.cons ?_ d6.nil,hl,fun b hb=>by simp [AVal.idsL,hb]⟩;unfold d9;exact ⟨none,0,rfl,by simp,by simp [maxLen],fun hp=>by simp at hp⟩
  ·cases h
section
variable {P:Program} {T:Tab} {n:Nat} {ds:List Deferred} {A0 L0:Nat→Prop} {w0:Old} {η:Nat→Value} {s:ASt} {a:Act} {w:World}
def a2Q (η:Nat→Value) (b:Nat) (v:Value) (c:Nat):Value:=if c=b then v else η c
theorem s7 (η:Nat→Value) (b:Nat) (v:Value):a2Q η b v b=v:=by simp [a2Q]
theorem S1 (η:Nat→Value) {b c:Nat} (v:Value) (h:c≠b):a2Q η b v c=η c:=by simp [a2Q,h]
theorem a3r {e:Eff} {d:Option Nat} {η':Nat→Value} {nid:Nat} (h:RelH A0 η s.H w) (hL:∀ b B g,(s.app d e).H b=some B→B.mut=true→hblk (η' b)=some g→(∃ b0 B0,s.H b0=some B0∧B0.mut=true∧hblk (η b0)=some g∧(b0=b∨(b=nid∧e.kill.contains b0=true)))∨(w.heap.size≤g∧b=nid))
  {b:Nat} {ee:TypeId} {t:Ty} {xs:List (El t)} (hb:s.H b=some (.arr ee t xs)) (hr:(s.app d e).H b=some (.imm t xs)) (hnk:e.kill.contains b=false) {g:Nat} (hg:hblk (η b)=some g):¬ Av A0 η' (s.app d e).H g:=by
 have hlive:p9 η s.H g:=⟨b,_,hb,rfl,hg⟩
 rintro (hA|⟨b',B',k1,k2,k3⟩)
 ·exact (h.av g hA).2 hlive
 ·rcases hL b' B' g k1 k2 k3 with ⟨b0,B0,j1,j2,j3,j4⟩|⟨j,_⟩
  ·have:=h.inj b b0 _ _ g hb j1 rfl j2 hg j3;subst this;rcases j4 with j4|⟨_,j4⟩
   ·subst j4;rw [hr] at k1;injection k1 with k1;subst k1
    cases k2
   ·rw [hnk] at j4; cases j4
  ·have:=p9.lt h hlive; omega
theorem a6c {e:Eff} {d:Option Nat} {η':Nat→Value} {nid:Nat} (hη:∀ b,e.kill.contains b=false→η' b=η b)
  (hN:∀ b B g,b6 e.hp b=some B→B.mut=true→hblk (η' b)=some g→(∃ b0 B0,s.H b0=some B0∧B0.mut=true∧hblk (η b0)=some g∧(b0=b∨(b=nid∧e.kill.contains b0=true)))∨(w.heap.size≤g∧b=nid)) :
  ∀ b B g,(s.app d e).H b=some B→B.mut=true→hblk (η' b)=some g→(∃ b0 B0,s.H b0=some B0∧B0.mut=true∧hblk (η b0)=some g∧(b0=b∨(b=nid∧e.kill.contains b0=true)))∨(w.heap.size≤g∧b=nid):=by
 intro b B g hb hm hg;simp only [ASt.app] at hb
 cases hgt:b6 e.hp b with
 | some B'=>rw [hgt] at hb; injection hb with hb; subst hb; exact hN b _ g hgt hm hg
 | none =>
  rw [hgt] at hb;simp only at hb
  split at hb
  ·cases hb
  ·rename_i hk;obtain ⟨B0,h1,h2⟩:=Option.map_eq_some_iff.1 hb;have hk':e.kill.contains b=false:=by simpa using hk
   refine .inl ⟨b,B0,h1,by rw [← h2,ABlk.mut_clean] at hm; exact hm,?_,.inl rfl⟩;rw [← hη b hk']; exact hg
theorem Rel.newBox (h:Rel n ds A0 L0 w0 η s a w) {d:Option Nat} (hd:∀ i,d=some i→i<n) {nid:Nat} {ty:TypeId} {cs:List AVal} {vs:Array Value} (hnid:nid<1000) (hc:d6 η w (Av A0 η s.H) cs vs.toList) (hno:AVal.hasL cs nid=false) :
  Rel n ds A0 L0 w0 (a2Q η nid (.pointer (some ⟨w.heap.size,0,none⟩))) (s.app d { v:=.bp nid 0,kill:=[nid],hp:=[(nid,.box ty cs)] }) (a.put d (.pointer (some ⟨w.heap.size,0,none⟩))) (w.alloc (.cells vs ty)):=by
 have hη:∀ b,[nid].contains b=false→a2Q η nid (.pointer (some ⟨w.heap.size,0,none⟩)) b=η b:=fun b hb=>S1 _ _ (by simpa using hb);refine h.eff (nid:=nid) hd hη ⟨rfl,rfl,rfl⟩ (by simp) (fun g hg=>.inl (heap_alloc_old _ _ _ hg)) ?_ ?_ ?_ hnid (fun b hb _=>by simpa using hb) (fun b hb hs=>by simp only [b6,hb,if_false] at hs; cases hs)
 ·intro b B g hb hm hg;simp only [b6] at hb
  split at hb
  ·rename_i e;subst e;rw [s7] at hg;injection hg with hg;exact .inr ⟨Nat.le_of_eq hg,rfl⟩
  ·cases hb
 ·intro k b B hb;simp only [b6] at hb
  split at hb
  ·rename_i e;subst e;injection hb with hb;subst hb;rw [s7];refine ⟨_,vs,rfl,heap_alloc_new _ _,d6.step k _ _ (fun c hc'=>S1 _ _ fun e=>?_) hc⟩;subst e;rw [hno] at hc'
   cases hc'
  ·cases hb
 ·intro k;unfold d9;exact ⟨w.heap.size,s7 _ _ _,rfl⟩
theorem a7L (η:Nat→Value) (A:Nat→Prop):∀ (l:List Value),d6 η w A (l.map N8) l
 | []=>d6.nil
 | v::l=>d6.cons (a68 _ _ _ v) (a7L η A l)
theorem b0t:∀ (l:List Value),AVal.idsL (l.map N8)=[]
 | []=>rfl
 | v::l=>by
  have:(N8 v).ids=[]:=by cases v<;>rfl
  simp [AVal.idsL,this,b0t l]
theorem a9T (hT:z5 P T) (h:Rel n ds A0 L0 w0 η s a w) {d:Option Nat} (hd:∀ i,d=some i→i<n) {nid:Nat} (hnid:nid<1000) {t:TypeId} {i:TInfo} (ht:T t=some i) {K:Eff→Prop}
  (hK:K { v:=.bp nid 0,kill:=[nid],hp:=[(nid,.box t (i.zero.map N8))] }):a1i P (Instr.alloc t true (.tuple #[])) n ds A0 L0 w0 s a w d K:=by
 obtain ⟨info,z,dd,hi,_,_,hz,hzz,_⟩:=(hT t i ht).ex;refine ⟨_,_,_,_,hK,?_,h.newBox hd (vs:=z.cells) hnid ?_ (a93 (b0t _) nid)⟩
 ·simp [Instr.alloc,zeroValue,typeInfo,hi,hz,newVar,newRow]
 ·rw [hzz]; exact a7L _ _ _
theorem b2d (h:Rel n ds A0 L0 w0 η s a w) {d:Option Nat} (hd:∀ i,d=some i→i<n) {nid:Nat} (hnid:nid<1000) {t:TypeId} {x:AVal} {xv:Value} (hx:d9 η w (Av A0 η s.H) x xv) {K:Eff→Prop}
  (hc:(r5 x).all (AVal.cell s.H)=true) (hid:x.ids.contains nid=false)
  (hK:K { v:=.bp nid 0,kill:=[nid],hp:=[(nid,.box t (r5 x))] }):a1i P (Instr.box t xv) n ds A0 L0 w0 s a w d K:=by
 have hr:=a15 (fun b B hb=>h.hp.blk b B hb) hc hx;refine ⟨_,_,_,_,hK,?_,h.newBox hd (vs:=xv.cells) hnid hr ?_⟩
 ·simp [Instr.box,newVar,newRow]
 ·cases hb:AVal.hasL (r5 x) nid with
  | false=>rfl
  | true =>
   have:=a02 _ _ hb;rw [R5] at this;simp only [List.contains_eq_mem,decide_eq_false_iff_not] at hid;exact absurd this hid
theorem a2i (w:World) (g k:Nat) (cs:Array Value) (h:k≠g):(w.setRow g cs).heap[k]?=w.heap[k]?:=setRow_other w g k cs h
theorem a49 {η:Nat→Value} {A:Nat→Prop} {l us:List AVal} {vs uv:List Value} (off:Nat) (h:d6 η w A l vs) (hu:d6 η w A us uv):d6 η w A (g5 l off us) (vs.take off++uv++vs.drop (off+uv.length)):=by
 unfold g5;rw [hu.length];exact ((h.take off).append hu).append (h.drop _)
theorem b13 (hT:z5 P T) (h:Rel n ds A0 L0 w0 η s a w) {d:Option Nat} (hd:∀ i,d=some i→i<n) {t:TypeId} {i:TInfo} (ht:T t=some i) {b off:Nat} {xv:Value} (hx:d9 η w (Av A0 η s.H) (.bp b off) xv)
  {v:AVal} {vv:Value} (hv:d9 η w (Av A0 η s.H) v vv) (hl:(r5 v).length=i.size) (hc:(r5 v).all (AVal.cell s.H)=true) {ty:TypeId} {cs:List AVal} (hb:s.H b=some (.box ty cs)) (hfit:off+i.size≤cs.length) :
  ∃ w',(Instr.storeAt t xv vv).run P w=.ok () w'∧Rel n ds A0 L0 w0 η (s.app d { v:=.un,hp:=[(b,.box ty (g5 cs off (r5 v)))] }) (a.put d undef) w':=by
 unfold d9 at hx;obtain ⟨g,hη,rfl⟩:=hx;obtain ⟨g',vs,e1,e2,e3⟩:=h.hp.blk b _ hb;rw [hη] at e1;injection e1 with e1;injection e1 with e1;injection e1 with e1;subst e1;have hH:∀ b B,s.H b=some B→r6 η w (Av A0 η s.H) B (η b):=fun b B hb=>h.hp.blk b B hb;have hr:=a15 hH hc hv;have hlen:vv.cells.size=i.size:=by have:=hr.length; rw [hl] at this; simpa using this.symm
 have hcl:=e3.length;have hone:=a0Z hH hc hr;refine ⟨_,a3K (hT t i ht) e2 hlen (by simp at hcl; omega) hone,?_⟩
 refine h.eff (nid:=0) hd (fun _ _=>rfl) ⟨rfl,rfl,rfl⟩ (by simp [World.setRow]) (fun k hk=>?_) ?_ ?_ ?_ (hhn:=fun b' _ hs=>by
  simp only [b6] at hs
  split at hs
  ·rename_i e; subst e; rw [hb]; rfl
  ·cases hs)
 ·by_cases hkg:k=g
  ·subst hkg;exact .inr ⟨b,_,hb,rfl,by rw [hη]; rfl,.inl (by simp [b6])⟩
  ·exact .inl (a2i w g k _ hkg)
 ·intro b' B' g' hb' hm hg';simp only [b6] at hb'
  split at hb'
  ·rename_i e;subst e;exact .inl ⟨_,_,hb,rfl,hg',.inl rfl⟩
  ·cases hb'
 ·intro k b' B' hb';simp only [b6] at hb'
  split at hb'
  ·rename_i e;subst e;injection hb' with hb';subst hb';refine ⟨g,_,hη,setRow_heap w g _ _ _ _ e2,?_⟩;have hs:=a49 off e3 hr;exact d6.step k _ _ (fun _ _=>rfl) hs
  ·cases hb'
 ·intro k; unfold d9; trivial
end
end Go.Proofs.YtanaeefeggokkaaGreat
/-! The abstract machine,7: rows of the call's own: stores,literals,make,append. No program is named here. -/
namespace Go.Proofs.YtanaeefeggokkaaGreat
open Go.RowKit
set_option linter.constructorNameAsVariable false
theorem a5a {α:Type} (L us:List α) (o q:Nat) (h:o+us.length≤L.length):(L.take o++us++L.drop (o+us.length))[q]?=if o≤q∧q<o+us.length then us[q - o]? else L[q]?:=by
 have ht:(L.take o).length=o:=by simp; omega
 by_cases h1:q<o
 ·rw [if_neg (by omega),List.append_assoc,List.getElem?_append_left (by omega),List.getElem?_take,if_pos h1]
 ·by_cases h2:q<o+us.length
  ·rw [if_pos ⟨by omega,h2⟩,List.append_assoc,List.getElem?_append_right (by omega),ht,List.getElem?_append_left (by omega)]
  ·rw [if_neg (by omega),List.getElem?_append_right (by simp; omega),List.getElem?_drop];congr 1;simp; omega
theorem Z2 {t:Ty}:∀ (xs:List (El t)),(xs.flatMap (cellsOf t)).length=xs.length*t.size
 | []=>by simp
 | x::xs=>by simp [Z2 xs,m4,Nat.add_mul,Nat.add_comm]
section
variable {η:Nat→Value} {w:World} {A:Nat→Prop} {t:Ty}
theorem a3j (η:Nat→Value) {g:Nat}:∀ (xs:List (El t)) (o:Nat),(∀ i x,xs[i]?=some x→i9 w A t x g (o+i*t.size)) →
  ∃ cells:List Value,(∀ i v,cells[i]?=some v→w.cell? ⟨g,o+i,none⟩=some v)∧d6 η w A (xs.flatMap (cellsOf t)) cells
 | [],o,_=>⟨[],fun i v hi=>by simp at hi,d6.nil⟩
 | x::xs,o,h=>by
  obtain ⟨v1,c1,r1⟩:=i9.cells η t x g o (by simpa using h 0 x rfl)
  obtain ⟨v2,c2,r2⟩:=a3j η xs (o+t.size) (fun i y hi=>by
   have:=h (i+1) y (by simpa using hi)
   rwa [show o+(i+1)*t.size=o+t.size+i*t.size by rw [Nat.add_mul]; omega] at this)
  have hl:v1.length=t.size:=by rw [← r1.length,m4]
  refine ⟨v1++v2,fun i v hi=>?_,by rw [List.flatMap_cons]; exact r1.append r2⟩
  by_cases hlt:i<v1.length
  ·exact c1 i v (by rwa [List.getElem?_append_left hlt] at hi)
  ·rw [List.getElem?_append_right (by omega)] at hi;have:=c2 _ v hi
   rwa [show o+t.size+(i - v1.length)=o+i by omega] at this
theorem a0B {g:Nat}:∀ (xs:List (El t)) (o:Nat) (cells:List Value),(∀ i v,cells[i]?=some v→w.cell? ⟨g,o+i,none⟩=some v)→d6 η w A (xs.flatMap (cellsOf t)) cells →
  ∀ i x,xs[i]?=some x→i9 w A t x g (o+i*t.size)
 | [],o,cells,_,_,i,x,hi=>by simp at hi
 | y::xs,o,cells,hc,hr,i,x,hi=>by
  rw [List.flatMap_cons] at hr;obtain ⟨v1,v2,rfl,r1,r2⟩:=hr.split;have hl:v1.length=t.size:=by rw [← r1.length,m4]
  cases i with
  | zero =>
   simp at hi
   subst hi;rw [Nat.zero_mul,Nat.add_zero];exact i9.of_cells t y g o v1 (fun j v hj=>hc j v (by rw [List.getElem?_append_left (List.getElem?_eq_some_iff.1 hj).1]; exact hj)) r1
  | succ i =>
   have:=a0B xs (o+t.size) v2 (fun j v hj=>by
    have:=hc (t.size+j) v (by rw [List.getElem?_append_right (by omega),hl,Nat.add_sub_cancel_left]; exact hj)
    rwa [← Nat.add_assoc] at this) r2 i x (by simpa using hi)
   rwa [show o+t.size+i*t.size=o+(i+1)*t.size by rw [Nat.add_mul]; omega] at this
theorem b0i:∀ (t:Ty) (x:El t) (vs:List Value),d6 η w A (cellsOf t x) vs→∀ v∈vs,v.oneCell'=true:=by
 intro t x vs h;refine a0Z (H:=fun _=>none) (fun b B hb=>by cases hb) ?_ h;have:∀ (t:Ty) (x:El t),(cellsOf t x).all (AVal.cell fun _=>none)=true:=by
  intro t
  induction t with
  | int=>intro x; rfl
  | bool=>intro x; rfl
  | unit=>intro x; rfl
  | pair a b ha hb=>intro x; simp only [cellsOf,List.all_append,ha,hb,Bool.and_true]
  | sl=>intro x; rfl
 exact this t x
theorem a3A:∀ (xs:List (El t)) (vs:List Value),d6 η w A (xs.flatMap (cellsOf t)) vs→∀ v∈vs,v.oneCell'=true
 | [],vs,h,v,hv=>by rw [List.flatMap_nil] at h; unfold d6 at h; subst h; simp at hv
 | x::xs,vs,h,v,hv=>by
  rw [List.flatMap_cons] at h;obtain ⟨v1,v2,rfl,r1,r2⟩:=h.split;rcases List.mem_append.1 hv with hv|hv
  ·exact b0i t x v1 r1 v hv
  ·exact a3A xs v2 r2 v hv
theorem b1v:∀ (xs:List (El t)),AVal.idsL (xs.flatMap (cellsOf t))=[]
 | []=>rfl
 | x::xs=>by rw [List.flatMap_cons,v9,G7,b1v xs]; rfl
theorem d6.flat {η':Nat→Value} {A':Nat→Prop} {w':World} (k:Keeps A A' w w') {xs:List (El t)} {vs:List Value} (h:d6 η w A (xs.flatMap (cellsOf t)) vs):d6 η' w' A' (xs.flatMap (cellsOf t)) vs :=
 d6.step k _ _ (fun b hb=>by rw [a93 (b1v xs) b] at hb; cases hb) h
end
section
variable {P:Program} {T:Tab} {n:Nat} {ds:List Deferred} {A0 L0:Nat→Prop} {w0:Old} {η:Nat→Value} {s:ASt} {a:Act} {w:World}
theorem b14 (hT:z5 P T) (h:Rel n ds A0 L0 w0 η s a w) {d:Option Nat} (hd:∀ i,d=some i→i<n) {t:TypeId} {i:TInfo} (ht:T t=some i) {b sz j off:Nat} {xv:Value} (hx:d9 η w (Av A0 η s.H) (.ap b sz j off) xv)
  {v:AVal} {vv:Value} (hv:d9 η w (Av A0 η s.H) v vv) (hl:(r5 v).length=i.size) (hc:(r5 v).all (AVal.cell s.H)=true) {e:TypeId} {τ:Ty} {xs:List (El τ)} (hb:s.H b=some (.arr e τ xs)) (hsz:sz=τ.size) (hfit:off+i.size≤τ.size)
  (hj:j<xs.length) (hid:v.ids.contains b=false) {x':El τ} (hel:C6 s.H τ (g5 (cellsOf τ (xs.getD j τ.dflt)) off (r5 v))=some (x',[])) :
  ∃ w',(Instr.storeAt t xv vv).run P w=.ok () w'∧Rel n ds A0 L0 w0 η (s.app d { v:=.un,hp:=(b,.arr e τ (xs.set j x'))::rest s.H v.ids }) (a.put d undef) w':=by
 unfold d9 at hx;obtain ⟨g,n',c,hη,rfl⟩:=hx;subst hsz;have hH:∀ b B,s.H b=some B→r6 η w (Av A0 η s.H) B (η b):=fun b B hb=>h.hp.blk b B hb;rcases hH b _ hb with ⟨e1,_⟩|⟨g',cap,cur,e1,e2,e3,e4,e5,e6⟩
 ·rw [e1] at hj; simp at hj
 rw [hη] at e1;injection e1 with e1 e7 e8;injection e1 with e1;injection e1 with e1 _ _;subst e1 e8;have hr:=a15 hH hc hv;have hlen:vv.cells.toList.length=i.size:=by rw [← hr.length,hl]
 have hone:=a0Z hH hc hr;have hjc:(j+1)*τ.size≤c*τ.size:=Nat.mul_le_mul_right _ (by omega);rw [Nat.add_mul,Nat.one_mul] at hjc;have hfit':j*τ.size+off+i.size≤cur.size:=by rw [e5]; omega
 refine ⟨_,a3K (hT t i ht) e2 (by simpa using hlen) hfit' hone,?_⟩;have hrow:(w.setRow g (cur.toList.take (j*τ.size+off)++vv.cells.toList++cur.toList.drop (j*τ.size+off+vv.cells.toList.length)).toArray).heap[g]?=_:=setRow_heap w g _ _ _ _ e2;have hcell:∀ q,(w.setRow g (cur.toList.take (j*τ.size+off)++vv.cells.toList++cur.toList.drop (j*τ.size+off+vv.cells.toList.length)).toArray).cell? ⟨g,q,none⟩=if j*τ.size+off≤q∧q<j*τ.size+off+i.size then vv.cells.toList[q - (j*τ.size+off)]? else cur[q]?:=by
  intro q;rw [cell_of_row _ g q _ _ _ hrow,List.getElem?_toArray,a5a cur.toList vv.cells.toList (j*τ.size+off) q (by rw [hlen]; simpa using hfit'),hlen,← Array.getElem?_toList (xs:=cur)]
 have hN:∀ b' B g',b6 ((b,ABlk.arr e τ (xs.set j x'))::rest s.H v.ids) b'=some B→B.mut=true→hblk (η b')=some g'→(∃ b0 B0,s.H b0=some B0∧B0.mut=true∧hblk (η b0)=some g'∧(b0=b'∨(b'=0∧([]:List Nat).contains b0=true)))∨(w.heap.size≤g'∧b'=0):=by
  intro b' B g' hb' hm hg';simp only [b6] at hb'
  split at hb'
  ·rename_i e;subst e;exact .inl ⟨_,_,hb,rfl,hg',.inl rfl⟩
  ·obtain ⟨_,_,_,_,e9,_⟩:=t6 _ _ _ _ hb';subst e9
   cases hm
 refine h.eff (nid:=0) hd (fun _ _=>rfl) ⟨rfl,rfl,rfl⟩ (by simp [World.setRow]) (fun k hk=>?_) hN ?_ ?_ (hhn:=fun b' _ hs=>by
  simp only [b6] at hs
  split at hs
  ·rename_i e; subst e; rw [hb]; rfl
  ·obtain ⟨B9,hB9⟩:=Option.isSome_iff_exists.1 hs;obtain ⟨_,_,_,h9,_⟩:=t6 _ _ _ _ hB9
   rw [h9]; rfl)
 ·by_cases hkg:k=g
  ·subst hkg;exact .inr ⟨b,_,hb,rfl,by rw [hη]; rfl,.inl (by simp [b6])⟩
  ·exact .inl (a2i w g k _ hkg)
 ·intro k b' B' hb'
  -- rows that come to rest
  have hown:∀ b' t' ys e',b'∈v.ids→(s.H b'=some (.arr e' t' ys)∨s.H b'=some (.imm t' ys)) →
    ∃ a' c',η b'=.slice a' ys.length c'∧A3 (w.setRow g (cur.toList.take (j*τ.size+off)++vv.cells.toList++cur.toList.drop (j*τ.size+off+vv.cells.toList.length)).toArray).heap.size
     (Av A0 η (s.app d { v:=.un,hp:=(b,.arr e τ (xs.set j x'))::rest s.H v.ids }).H) t'.size (fun y p z=>i9 (w.setRow g (cur.toList.take (j*τ.size+off)++vv.cells.toList++cur.toList.drop (j*τ.size+off+vv.cells.toList.length)).toArray)
     (Av A0 η (s.app d { v:=.un,hp:=(b,.arr e τ (xs.set j x'))::rest s.H v.ids }).H) t' y p z) ys a' c':=by
   intro b' t' ys e' hm' hbb;have hne:b'≠b:=fun e=>by
    subst e;have:v.ids.contains b'=true:=by simpa using hm'
    rw [hid] at this; cases this
   refine a38 h.hp hbb k fun g' hba hg'=>⟨a2i w g g' _ (fun e=>?_),?_⟩
   ·subst e;exact hne (h.hp.inj b' b _ _ _ hba hb rfl rfl hg' (by rw [hη]; rfl))
   ·refine a3r (nid:=0) h.hp (a6c (fun _ _=>rfl) hN) hba ?_ rfl hg';simp only [ASt.app,b6,hne,if_false,a2T _ _ _ hm' hba]
  simp only [b6] at hb'
  split at hb'
  ·rename_i e;subst e;injection hb' with hb';subst hb';refine .inr ⟨g,c,_,by rw [hη,e7]; simp,hrow,by simpa using e3,e4,?_,fun q x hq=>?_⟩
   ·simp only [List.size_toArray,List.length_append,List.length_take,List.length_drop,Array.length_toList,hlen];omega
   ·by_cases hqj:q=j
    ·subst hqj;have hxx:x=x':=by
      have:(xs.set q x')[q]?=some x':=by simp [hj]
      rw [this] at hq; injection hq with hq; exact hq.symm
     subst hxx;have hxq:xs[q]?=some (xs.getD q τ.dflt):=by simp [List.getD,hj]
     obtain ⟨vs,hvc,hvr⟩:=i9.cells η τ _ g _ (e6 q _ hxq);have hvl:vs.length=τ.size:=by rw [← hvr.length,m4]
     have hsp:=a49 off hvr hr
     obtain ⟨v1,v2,hv12,r1,r2,_⟩:=a2N (η':=η) k τ _ x [] _ hel hsp (fun b' t' ys e' hm' hbb=>hown b' t' ys e' (by
      unfold g5 at hm';rw [v9,v9] at hm';have h1:AVal.idsL ((cellsOf τ (xs.getD q τ.dflt)).take off)=[]:=by
       have:=G7 τ (xs.getD q τ.dflt);rw [← List.take_append_drop off (cellsOf τ _),v9] at this;exact (List.append_eq_nil_iff.1 this).1
      have h2:AVal.idsL ((cellsOf τ (xs.getD q τ.dflt)).drop (off+(r5 v).length))=[]:=by
       have:=G7 τ (xs.getD q τ.dflt);rw [← List.take_append_drop (off+(r5 v).length) (cellsOf τ _),v9] at this;exact (List.append_eq_nil_iff.1 this).2
      rw [h1,h2,R5] at hm'
      simpa using hm') hbb)
     unfold d6 at r2;subst r2;rw [List.append_nil] at hv12;subst hv12;refine i9.of_cells τ x g _ _ (fun p u hp=>?_) r1;rw [hcell];rw [a5a vs vv.cells.toList off p (by rw [hvl,hlen]; exact hfit),hlen] at hp
     by_cases hp1:off≤p∧p<off+i.size
     ·rw [if_pos hp1] at hp;rw [if_pos (by omega),show q*τ.size+p - (q*τ.size+off)=p - off by omega];exact hp
     ·rw [if_neg hp1] at hp;rw [if_neg (by omega)];have:=hvc p u hp
      rwa [cell_of_row w g _ cur e _ e2] at this
    ·have hq':xs[q]?=some x:=by rwa [List.getElem?_set_ne (fun e=>hqj e.symm)] at hq
     obtain ⟨vs,hvc,hvr⟩:=i9.cells η τ x g _ (e6 q _ hq');have hvl:vs.length=τ.size:=by rw [← hvr.length,m4]
     refine i9.of_cells τ x g _ vs (fun p u hp=>?_) (d6.data (η':=η) k hvr);have hpl:p<τ.size:=by rw [← hvl]; exact (List.getElem?_eq_some_iff.1 hp).1
     rw [hcell,if_neg ?_]
     ·have:=hvc p u hp
      rwa [cell_of_row w g _ cur e _ e2] at this
     ·rcases Nat.lt_or_gt_of_ne hqj with hlt|hgt
      ·have:=Nat.mul_le_mul_right τ.size (show q+1≤j by omega);rw [Nat.add_mul,Nat.one_mul] at this;omega
      ·have:=Nat.mul_le_mul_right τ.size (show j+1≤q by omega);rw [Nat.add_mul,Nat.one_mul] at this;omega
  ·obtain ⟨e9,t9,ys,h9,e10,hm9⟩:=t6 _ _ _ _ hb';subst e10;exact hown b' t9 ys e9 hm9 (.inl h9)
 ·intro k; unfold d9; trivial
end
end Go.Proofs.YtanaeefeggokkaaGreat
/-! The abstract machine,8: literals,make,append,slicing. No program is named here. -/
namespace Go.Proofs.YtanaeefeggokkaaGreat
open Go.RowKit
set_option linter.constructorNameAsVariable false
section
variable {P:Program} {T:Tab} {n:Nat} {ds:List Deferred} {A0 L0:Nat→Prop} {w0:Old} {η:Nat→Value} {s:ASt} {a:Act} {w:World}
theorem Rel.newArr (h:Rel n ds A0 L0 w0 η s a w) {d:Option Nat} (hd:∀ i,d=some i→i<n) {nid:Nat} (hnid0:nid<1000) {e:TypeId} {τ:Ty} {xs:List (El τ)} {ids:List Nat} {cur:Array Value} {cap:Nat} {w':World} {kl:List Nat} (hkl:kl.contains nid=true) (hki:∀ b,kl.contains b=true→ids.contains b=false)
  (hos:w'.os=w.os∧w'.tape=w.tape∧w'.output=w.output) (hheap:w'.heap=w.heap.push (.cells cur e)) (hcap:xs.length≤cap) (hmax:cap≤maxLen) (hcur:cur.size=cap*τ.size)
  (hel:∀ A',Keeps (Av A0 η s.H) A' w w' →
   (∀ b' t' ys e',b'∈ids→(s.H b'=some (.arr e' t' ys)∨s.H b'=some (.imm t' ys))→∃ a' c',η b'=.slice a' ys.length c'∧A3 w'.heap.size A' t'.size (fun y p z=>i9 w' A' t' y p z) ys a' c') →
   ∀ i x,xs[i]?=some x→i9 w' A' τ x w.heap.size (i*τ.size)) :
  Rel n ds A0 L0 w0 (a2Q η nid (.slice (some ⟨w.heap.size,0,none⟩) xs.length cap)) (s.app d { v:=.own nid,kill:=kl,hp:=(nid,.arr e τ xs)::rest s.H ids }) (a.put d (.slice (some ⟨w.heap.size,0,none⟩) xs.length cap)) w':=by
 have hη:∀ b,kl.contains b=false→a2Q η nid (.slice (some ⟨w.heap.size,0,none⟩) xs.length cap) b=η b:=fun b hb=>S1 _ _ (fun e=>by rw [e,hkl] at hb; cases hb);have hold:∀ g,g<w.heap.size→w'.heap[g]?=w.heap[g]?:=fun g hg=>by rw [hheap,Array.getElem?_push,if_neg (by omega)]
 have hN:∀ b B g,b6 ((nid,ABlk.arr e τ xs)::rest s.H ids) b=some B→B.mut=true→hblk (a2Q η nid (.slice (some ⟨w.heap.size,0,none⟩) xs.length cap) b)=some g→(∃ b0 B0,s.H b0=some B0∧B0.mut=true∧hblk (η b0)=some g∧(b0=b∨(b=nid∧kl.contains b0=true)))∨(w.heap.size≤g∧b=nid):=by
  intro b B g hb hm hg;simp only [b6] at hb
  split at hb
  ·rename_i e';subst e';rw [s7] at hg;injection hg with hg;exact .inr ⟨Nat.le_of_eq hg,rfl⟩
  ·obtain ⟨_,_,_,_,e9,_⟩:=t6 _ _ _ _ hb;subst e9
   cases hm
 refine h.eff (nid:=nid) hd hη hos (by rw [hheap]; simp) (fun g hg=>.inl (hold g hg)) hN ?_ ?_ hnid0 (fun b hb hs=>by
  by_cases e:b=nid
  ·exact e
  ·exfalso;simp only [b6,e,if_false] at hs;obtain ⟨B9,hB9⟩:=Option.isSome_iff_exists.1 hs;obtain ⟨_,_,_,_,_,h9⟩:=t6 _ _ _ _ hB9;have:=hki b hb;simp only [List.contains_eq_mem,decide_eq_false_iff_not] at this;exact this h9) (fun b hb hs=>by
  simp only [b6,hb,if_false] at hs;obtain ⟨B9,hB9⟩:=Option.isSome_iff_exists.1 hs;obtain ⟨_,_,_,h9,_⟩:=t6 _ _ _ _ hB9
  rw [h9]; rfl)
 ·intro k b B hb;have hown:∀ b' t' ys e',b'∈ids→(s.H b'=some (.arr e' t' ys)∨s.H b'=some (.imm t' ys)) →
    ∃ a' c',η b'=.slice a' ys.length c'∧A3 w'.heap.size (Av A0 (a2Q η nid (.slice (some ⟨w.heap.size,0,none⟩) xs.length cap)) (s.app d { v:=.own nid,kill:=kl,hp:=(nid,.arr e τ xs)::rest s.H ids }).H) t'.size
     (fun y p z=>i9 w' (Av A0 (a2Q η nid (.slice (some ⟨w.heap.size,0,none⟩) xs.length cap)) (s.app d { v:=.own nid,kill:=kl,hp:=(nid,.arr e τ xs)::rest s.H ids }).H) t' y p z) ys a' c':=by
   intro b' t' ys e' hm' hbb;have hnk:kl.contains b'=false:=by
    cases hk:kl.contains b' with
    | false=>rfl
    | true =>
     have:=hki b' hk;simp only [List.contains_eq_mem,decide_eq_false_iff_not] at this;exact absurd hm' this
   have hne:b'≠nid:=fun e=>by rw [e,hkl] at hnk; cases hnk
   refine a38 h.hp hbb k fun g' hba hg'=>⟨hold g' (p9.lt h.hp ⟨b',_,hba,rfl,hg'⟩),?_⟩;refine a3r (nid:=nid) h.hp (a6c hη hN) hba ?_ hnk hg';simp only [ASt.app,b6,hne,if_false,a2T _ _ _ hm' hba]
  simp only [b6] at hb
  split at hb
  ·rename_i e';subst e';injection hb with hb;subst hb;refine .inr ⟨w.heap.size,cap,cur,s7 _ _ _,by rw [hheap,Array.getElem?_push,if_pos rfl],hcap,hmax,hcur,hel _ k hown⟩
  ·rename_i hne;obtain ⟨e9,t9,ys,h9,e10,hm9⟩:=t6 _ _ _ _ hb;subst e10;rw [S1 _ _ hne];exact hown b t9 ys e9 hm9 (.inl h9)
 ·intro k;unfold d9;exact (s7 _ _ _).symm
theorem Rel.newNil (h:Rel n ds A0 L0 w0 η s a w) {d:Option Nat} (hd:∀ i,d=some i→i<n) {nid:Nat} (hnid:nid<1000) {e:TypeId} {τ:Ty} :
  Rel n ds A0 L0 w0 (a2Q η nid (.slice none 0 0)) (s.app d { v:=.own nid,kill:=[nid],hp:=[(nid,.arr e τ [])] }) (a.put d (.slice none 0 0)) w:=by
 refine h.eff (nid:=nid) hd (fun b hb=>S1 _ _ (by simpa using hb)) ⟨rfl,rfl,rfl⟩ (Nat.le_refl _) (fun g _=>.inl rfl) ?_ ?_ ?_ hnid (fun b hb _=>by simpa using hb) (fun b hb hs=>by simp only [b6,hb,if_false] at hs; cases hs)
 ·intro b B g hb hm hg;simp only [b6] at hb
  split at hb
  ·rename_i e';subst e';rw [s7] at hg
   cases hg
  ·cases hb
 ·intro k b B hb;simp only [b6] at hb
  split at hb
  ·rename_i e';subst e';injection hb with hb;subst hb;exact .inl ⟨rfl,s7 _ _ _⟩
  ·cases hb
 ·intro k;unfold d9;exact (s7 _ _ _).symm
theorem a45 {A:Nat→Prop}:∀ (t:Ty),d6 η w A (cellsOf t t.dflt) (a3Z t)
 | .int k=>d6.cons (by unfold d9; rfl) d6.nil
 | .bool=>d6.cons (by unfold d9; rfl) d6.nil
 | .unit=>d6.nil
 | .pair a b=>by
  unfold cellsOf a3Z;exact (a45 a).append (a45 b)
 | .sl t=>d6.cons (by unfold d9; exact ⟨none,0,rfl,by simp [Ty.dflt],by simp [maxLen],fun hp=>by simp [Ty.dflt] at hp⟩) d6.nil
theorem b0C (hT:z5 P T) (h:Rel n ds A0 L0 w0 η s a w) {d:Option Nat} (hd:∀ i,d=some i→i<n) {nid:Nat} (hnid:nid<1000) {t:TypeId} {x y:AVal} {xv yv:Value} (hx:d9 η w (Av A0 η s.H) x xv) (hy:d9 η w (Av A0 η s.H) y yv) {K:Eff→Prop}
  (hs:J5 T nid t x y K):a1i P (Instr.makeSlice t xv yv) n ds A0 L0 w0 s a w d K:=by
 unfold J5 at hs
 split at hs
 case h_2=>exact hs.elim
 rename_i i k l k' c ht
 cases hdd:i.desc<;>simp only [hdd] at hs
 case sl e =>
  cases he:T e with
  | none=>simp [he] at hs
  | some ie =>
   simp only [he] at hs
   cases hdt:ie.dt with
   | none=>simp [hdt] at hs
   | some τ =>
    simp only [hdt] at hs;obtain ⟨h0,h1,h2,h3,hK⟩:=hs;unfold d9 at hx hy;subst hx hy;have hte:=hT e ie he;obtain ⟨info,z,dd,hi,hsz,hby,hz,hzz,_⟩:=hte.ex;obtain ⟨d1,d2,d3⟩:=hte.dt τ hdt;have hzs:z.cells.size=τ.size:=by
     have:=hte.zsize;rw [← hzz] at this;rw [d1]; simpa using this
    have hr:=run_make (P:=P) w t e info z ((hT t i ht).slice hdd) hi hz k k' l c h0 h1 (by rw [hby]; exact h2) h3;rw [hsz,← d1] at hr;have hl:(List.replicate l.toNat τ.dflt).length=l.toNat:=by simp
    have hrel:=h.newArr hd (nid:=nid) hnid (e:=e) (τ:=τ) (xs:=List.replicate l.toNat τ.dflt) (ids:=[]) (cur:=madeCells z.cells (c.toNat*τ.size)) (cap:=c.toNat) (w':=w.alloc (.cells (madeCells z.cells (c.toNat*τ.size)) e))
     (kl:=[nid]) (by simp) (by simp) ⟨rfl,rfl,rfl⟩ rfl (by rw [hl]; omega) (by simp [maxLen]; omega) (size_madeCells _ _) (fun A' k' _ j x hj=>by
      obtain ⟨hjl,hjx⟩:=List.getElem?_eq_some_iff.1 hj;rw [List.getElem_replicate] at hjx;subst hjx;rw [hl] at hjl;refine i9.of_cells (η:=η) τ _ _ _ (a3Z τ) (fun p u hp=>?_) (a45 τ);rw [World.cell?_alloc_new];have hpl:p<τ.size:=by
       have:=(List.getElem?_eq_some_iff.1 hp).1;rw [← d2,hte.zsize,← d1] at this;exact this
      have hjc:=Nat.mul_le_mul_right τ.size (show j+1≤c.toNat by omega);rw [Nat.add_mul,Nat.one_mul] at hjc;have hq:j*τ.size+p<c.toNat*τ.size:=by omega
      have hmod:(j*τ.size+p) % z.cells.size=p:=by rw [hzs,Nat.mul_comm,Nat.mul_add_mod,Nat.mod_eq_of_lt hpl]
      rw [← d2,← hzz] at hp;have hp':z.cells[p]?=some u:=by simpa using hp
      simp only [madeCells,Array.getElem?_map,Array.getElem?_range,hq,if_true,Option.map_some,hmod]
      rw [getElem!_def,hp'])
    rw [hl] at hrel;exact ⟨_,_,_,_,hK,hr,hrel⟩
theorem a6f {A A':Nat→Prop} {w':World} {η':Nat→Value} (hH:∀ b B,s.H b=some B→r6 η w A B (η b)) (k:Keeps A A' w w') {τ:Ty} (hpos:0<τ.size):∀ (l:List AVal) (xs:List (El τ)) (vs:List Value),a3J s.H τ l=some xs→d6 η w A l vs→(l.all fun p=>(r5 p).all (AVal.cell s.H))=true →
  (∀ b t ys e,b∈AVal.idsL l→(s.H b=some (.arr e t ys)∨s.H b=some (.imm t ys))→∃ a c,η b=.slice a ys.length c∧A3 w'.heap.size A' t.size (fun x b o=>i9 w' A' t x b o) ys a c) →
  xs.length=vs.length∧(∀ v∈vs,v.cells.size=τ.size)∧d6 η' w' A' (xs.flatMap (cellsOf τ)) (vs.flatMap fun v=>v.cells.toList)
 | [],xs,vs,h,hr,_,_=>by
  simp [a3J] at h
  subst h;unfold d6 at hr;subst hr;exact ⟨rfl,by simp,d6.nil⟩
 | v::l,xs,vs,h,hr,hc,hown=>by
  unfold a3J at h
  split at h
  case h_2=>cases h
  rename_i x xs' h1 h2;injection h with h;subst h;unfold d6 at hr;obtain ⟨u,us,rfl,hu,hl⟩:=hr;simp only [List.all_cons,Bool.and_eq_true] at hc;have hcell:=a15 hH hc.1 hu;obtain ⟨v1,v2,e1,r1,r2,_⟩:=a2N (η':=η') k τ _ x [] _ h1 hcell (fun b t ys e hb=>hown b t ys e (by rw [R5] at hb; simp [AVal.idsL,hb]));unfold d6 at r2;subst r2;rw [List.append_nil] at e1;obtain ⟨k1,k2,k3⟩:=a6f (η':=η') hH k hpos l xs' us h2 hl hc.2 (fun b t ys e hb=>hown b t ys e (by simp [AVal.idsL,hb]));have hsz:u.cells.size=τ.size:=by
   have:=r1.length;rw [m4,← e1] at this;simpa using this.symm
  refine ⟨by simp [k1],fun y hy=>?_,by rw [List.flatMap_cons,List.flatMap_cons,e1]; exact r1.append k3⟩;rcases List.mem_cons.1 hy with rfl|hy
  ·exact hsz
  ·exact k2 y hy
theorem a8Y {α:Type}:∀ (l:List (Nat×α)) (k:Nat),l.map (·.1)=List.range' k l.length→l=((l.map (·.2)).zipIdx k).map fun x=>(x.2,x.1)
 | [],k,_=>rfl
 | (i,x)::l,k,h=>by
  simp only [List.map_cons,List.length_cons,List.range'_succ,List.cons.injEq] at h;simp only [List.map_cons,List.zipIdx_cons];rw [← a8Y l (k+1) h.2,h.1]
theorem b4n {vs:List Value} {sz:Nat} (h:∀ v∈vs,v.cells.size=sz):(vs.flatMap fun v=>v.cells.toList).length=vs.length*sz:=by
 induction vs with
 | nil=>simp
 | cons v vs ih =>
  rw [List.flatMap_cons,List.length_append,ih (fun y hy=>h y (by simp [hy]))];have:=h v (by simp);simp [this,Nat.add_mul,Nat.add_comm]
theorem a2f (hT:z5 P T) (h:Rel n ds A0 L0 w0 η s a w) {d:Option Nat} (hd:∀ i,d=some i→i<n) {nid:Nat} (hnid:nid<1000) {t:TypeId} {len:Nat} {parts:List (Nat×AVal)} {vparts:Array (Nat×Value)} (hp1:vparts.toList.map (·.1)=parts.map (·.1))
  (hp2:d6 η w (Av A0 η s.H) (parts.map (·.2)) (vparts.toList.map (·.2))) {K:Eff→Prop} (hs:t7 T s nid t len parts K):a1i P (Instr.buildSlice t len vparts) n ds A0 L0 w0 s a w d K:=by
 unfold t7 at hs
 cases ht:T t with
 | none=>simp [ht] at hs
 | some i =>
  simp only [ht] at hs
  cases hdd:i.desc<;>simp only [hdd] at hs
  case sl e =>
   cases he:T e with
   | none=>simp [he] at hs
   | some ie =>
    simp only [he] at hs
    cases hdt:ie.dt with
    | none=>simp [hdt] at hs
    | some τ =>
     simp only [hdt] at hs;obtain ⟨hix,hsm,hc,hid,hs⟩:=hs
     split at hs
     case h_2=>exact hs.elim
     rename_i xs hxs;have hte:=hT e ie he;obtain ⟨info,z,dd,hi,hsz,hby,hz,hzz,_⟩:=hte.ex;obtain ⟨d1,d2,d3⟩:=hte.dt τ hdt;have hH:∀ b B,s.H b=some B→r6 η w (Av A0 η s.H) B (η b):=fun b B hb=>h.hp.blk b B hb;have hzs:z.cells.size=τ.size:=by
      have:=hte.zsize;rw [← hzz] at this;rw [d1]; simpa using this
     have hplen:parts.length=len:=by have:=congrArg List.length hix; simpa using this
     have hvlen:vparts.toList.length=len:=by have:=congrArg List.length hp1; simp only [List.length_map,hplen] at this; exact this
     have hvp:vparts.toList=((vparts.toList.map (·.2)).zipIdx 0).map fun x=>(x.2,x.1):=a8Y _ 0 (by rw [hp1,hix,hvlen,List.range_eq_range']);generalize hvs:vparts.toList.map (·.2)=vs at hp2 hvp;have hvsl:vs.length=len:=by rw [← hvs]; simpa using hvlen
     have hcall:((parts.map (·.2)).all fun p=>(r5 p).all (AVal.cell s.H))=true:=by rw [List.all_map]; exact hc
     have hsizes:xs.length=vs.length∧∀ v∈vs,v.cells.size=τ.size:=by
      have hown:∀ b t ys e,b∈AVal.idsL (parts.map (·.2))→(s.H b=some (.arr e t ys)∨s.H b=some (.imm t ys))→∃ a c,η b=.slice a ys.length c∧A3 w.heap.size (fun _=>False) t.size (fun x b o=>i9 w (fun _=>False) t x b o) ys a c:=fun b t ys e _ hb =>
       a38 h.hp hb ⟨Nat.le_refl _,fun _ _ _=>rfl,fun _ _ hf=>hf.elim⟩ (fun g _ _=>⟨rfl,fun hf=>hf⟩)
      obtain ⟨k1,k2,_⟩:=a6f (η':=η) hH ⟨Nat.le_refl _,fun _ _ _=>rfl,fun _ _ hf=>hf.elim⟩ d3 _ xs vs hxs hp2 hcall hown;exact ⟨k1,k2⟩
     have hfs:=b4n hsizes.2;have hrun:(Instr.buildSlice t len vparts).run P w=.ok (.slice (some ⟨w.heap.size,0,none⟩) len len) (w.alloc (.cells (vs.flatMap fun v=>v.cells.toList).toArray e)):=by
      by_cases hlen:len=0
      ·have hvnil:vs=[]:=List.eq_nil_of_length_eq_zero (by omega);have hvpn:vparts.toList=[]:=List.eq_nil_of_length_eq_zero (by omega);subst hlen;rw [hvnil];simp [Instr.buildSlice,run_underlying ((hT t i ht).slice hdd),sizeOf,typeInfo,hi,hvpn,Instr.fill,newRow,Array.range_zero']
      ·refine run_buildSlice w t e len vparts _ info z ((hT t i ht).slice hdd) hi hz (by rw [hsz]; omega) (by rw [hsz,← d1]; exact fun h0=>(Nat.mul_eq_zero.1 h0).elim hlen (by omega)) ?_;rw [hvp,hsz,← d1];exact Great.fill_whole d3 vs _ hsizes.2 (by simp [hvsl])
     have hxl:xs.length=len:=by rw [hsizes.1,hvsl]
     have hlenmax:len≤maxLen:=by
      have h1:1≤ie.size:=by omega
      have:=Nat.mul_le_mul_left len h1;simp [maxLen]; omega
     have hrel:=h.newArr hd (nid:=nid) hnid (e:=e) (τ:=τ) (xs:=xs) (ids:=AVal.idsL (parts.map (·.2))) (cur:=(vs.flatMap fun v=>v.cells.toList).toArray) (cap:=len) (w':=w.alloc (.cells (vs.flatMap fun v=>v.cells.toList).toArray e))
      (kl:=[nid]) (by simp) (fun b hb=>by
       have:b=nid:=by simpa using hb
       rw [this]; exact hid) ⟨rfl,rfl,rfl⟩ rfl (by omega) hlenmax (by simp only [List.size_toArray,hfs,hvsl]) (fun A' k' hown j x hj=>by
       obtain ⟨_,_,k3⟩:=a6f (η':=η) hH k' d3 _ xs vs hxs hp2 hcall hown
       have:=a0B (w:=w.alloc (.cells (vs.flatMap fun v=>v.cells.toList).toArray e)) (g:=w.heap.size) xs 0 (vs.flatMap fun v=>v.cells.toList) (fun q v hq=>by
        rw [Nat.zero_add,World.cell?_alloc_new]; simpa using hq) k3 j x hj
       rwa [Nat.zero_add] at this)
     rw [hxl] at hrel;exact ⟨_,_,_,_,hs,hrun,hrel⟩
end
abbrev Ty.i : Ty:=.int .i64
attribute [go_sem] Ty.i
end Go.Proofs.YtanaeefeggokkaaGreat
