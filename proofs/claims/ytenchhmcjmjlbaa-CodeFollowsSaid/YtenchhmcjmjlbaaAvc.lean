import Derived.Test.YtenchhmcjmjlbaaAvb
import Derived.RangeFuncNested
import Derived.RangeFuncBound
import Derived.RangeFuncCalls
import Derived.WalkSpells
import Derived.Maps.Keyed
import Derived.MapKept
import Derived.ChangeMaps5
import Derived.WideKeyPair
/-! The abstract machine,17: loops and joins beside what pure functions do. No program is named here. -/
namespace Go.Proofs.Ytenchhmcjmjlbaa
open Go.RowKit
set_option linter.constructorNameAsVariable false
/-! ### Pure functions -/
inductive Step (S R:Type) where
 | next (s:S)
 | done (r:R)
instance instInK (k:IntKind) (n:Int):Decidable (InK k n):=by unfold InK; infer_instance
def ck {α:Type} (c:Prop) [Decidable c] (k:Option α):Option α:=if c then k else none
theorem b5 {α:Type} {c:Prop} [Decidable c] {k:Option α} {r:α}:ck c k=some r↔c∧k=some r:=by
 unfold ck
 split
 ·rename_i h; simp [h]
 ·rename_i h; simp [h]
variable {S R:Type}
def G9 (body:S→Option (Step S R)):Nat→S→Option R
 | 0,_=>none
 | n+1,s=>match body s with
  | none=>none
  | some (.next s')=>G9 body n s'
  | some (.done r)=>some r
theorem a4j {body:S→Option (Step S R)}:∀ {n m:Nat} {s:S} {r:R},G9 body n s=some r→n≤m→G9 body m s=some r
 | 0,_,_,_,h,_=>by cases h
 | n+1,0,_,_,_,hm=>by omega
 | n+1,m+1,s,r,h,hm=>by
  unfold G9 at *
  cases hb:body s with
  | none=>simp [hb] at h
  | some x =>
   cases x with
   | next s'=>simp only [hb] at h ⊢; exact a4j h (by omega)
   | done r'=>simp only [hb] at h ⊢; exact h
theorem a9l {body:S→Option (Step S R)} {n m:Nat} {s:S} {r r':R} (h:G9 body n s=some r) (h':G9 body m s=some r'):r=r':=by
 have h1:=a4j h (Nat.le_max_left n m)
 have h2:=a4j h' (Nat.le_max_right n m)
 rw [h1] at h2; injection h2
open Classical in
noncomputable def i7 (body:S→Option (Step S R)) (s:S):Option R :=
 if h:∃ r n,G9 body n s=some r then some h.choose else none
theorem a1g {body:S→Option (Step S R)} {n:Nat} {s:S} {r:R} (h:G9 body n s=some r):i7 body s=some r:=by
 have hx:∃ r n,G9 body n s=some r:=⟨r,n,h⟩
 unfold i7
 rw [dif_pos hx]
 obtain ⟨m,hm⟩:=hx.choose_spec
 rw [a9l hm h]
theorem a6S {body:S→Option (Step S R)} {s:S} {r:R} (h:i7 body s=some r):∃ n,G9 body n s=some r:=by
 unfold i7 at h
 split at h
 ·rename_i hx
  injection h with h
  obtain ⟨m,hm⟩:=hx.choose_spec
  exact ⟨m,by rw [h] at hm; exact hm⟩
 ·cases h
theorem a5M {body:S→Option (Step S R)} (I:S→Prop) (μ:S→Nat) (G:R→Prop) (h:∀ s,I s→(∃ s',body s=some (.next s')∧I s'∧μ s'<μ s)∨(∃ r,body s=some (.done r)∧G r)):∀ s,I s→∃ r,i7 body s=some r∧G r:=by
 have:∀ m s,μ s=m→I s→∃ r n,G9 body n s=some r∧G r:=by
  intro m
  induction m using Nat.strongRecOn with
  | _ m ih =>
   intro s hs hI
   rcases h s hI with ⟨s',h1,h2,h3⟩|⟨r,h1,h2⟩
   ·obtain ⟨r,n,h4,h5⟩:=ih (μ s') (hs▸h3) s' rfl h2
    exact ⟨r,n+1,by simp [G9,h1,h4],h5⟩
   ·exact ⟨r,1,by simp [G9,h1],h2⟩
 intro s hI
 obtain ⟨r,n,h1,h2⟩:=this _ s rfl hI
 exact ⟨r,a1g h1,h2⟩
/-! ### Code -/
section
variable {P:Program} {ro:Option Nat} {n:Nat} {Q:Exit→ASt→Prop} {s:ASt} {K:ASt→Prop}
theorem AW.loopO {c:Code} (body:S→Option (Step S R)) (inv:S→ASt) (s0:S) {r:R} (hr:i7 body s0=some r) (h0:Wk n s (inv s0))
  (round:∀ st x,body st=some x→(∀ r',x=.done r'→r'=r)→AW P ro n c (a1F (fun s''=>∃ st',x=.next st'∧Wk n s'' (inv st')) Q) (inv st)):AW P ro n (.loop c) Q s:=by
 obtain ⟨m,hm⟩:=a6S hr
 refine AW.loop (ι:=Nat×S) (fun p=>inv p.2) (fun p=>G9 body p.1 p.2=some r) (fun p=>p.1) (m,s0) h0 hm ?_
 rintro ⟨k,st⟩ hk
 simp only at hk
 cases k with
 | zero=>cases hk
 | succ k =>
  unfold G9 at hk
  cases hb:body st with
  | none=>simp [hb] at hk
  | some x =>
   refine AW.mono (round st x hb ?_) ?_
   ·rintro r' rfl
    simp only [hb] at hk
    injection hk
   ·intro e s'' hq
    cases e with
    | normal =>
     obtain ⟨st',rfl,hw⟩:=hq
     simp only [hb] at hk
     exact ⟨(k,st'),hk,Nat.lt_succ_self _,hw⟩
    | _=>exact hq
theorem f7 {e:Code} (h:AW P ro n e Q s):a1F (AW P ro n e Q) Q .normal s:=h
theorem g7 {id:Nat} (h:Q (.exit id) s):a1F K Q (.exit id) s:=h
theorem d6 (h:Q .ret s):a1F K Q .ret s:=h
theorem i6 {id:Nat} (h:Q .normal s):a3L id Q .normal s:=h
theorem d7 {id:Nat} (h:Q .ret s):a3L id Q .ret s:=h
theorem l9 {id:Nat} (h:Q .normal s):a3L id Q (.exit id) s:=by
 show if id=id then Q .normal s else Q (.exit id) s
 rw [if_pos rfl]; exact h
theorem AW.have1 {B:Type} {x z:Code} (p:B→Prop) (out:B→ASt) (hk:∀ b,p b→AW P ro n z Q (out b)) (h:(∀ b,p b→AW P ro n z Q (out b))→AW P ro n (.seq x z) Q s):AW P ro n (.seq x z) Q s:=h hk
/-! ### Calls -/
section
variable {σ:Nat→AVal} {H:m0} {gg:Gh} {T:Tab} {ops l:List Oper} {o:Oper} {c:Call} {f:Operand} {g:FuncId} {p cp lx:List AVal} {r:AVal} {hin hout:List (Nat×ABlk)}
theorem a8d {K:Eff→Prop} (ho:o.op=.call c) (hc:c.callee=.value f) (hf:s.ev f=.fn (.func g) p cp) (D:List Nat) (rn:List (Nat×Nat)) (hcon:HC P g hin lx hout r)
  (hok:X3 (o.dst.getD 0) D rn hin hout r (p++c.args.toList.map s.ev++cp)=true) (hle:LeL s.H D [] (g8 rn) (p++c.args.toList.map s.ev++cp) lx) (hlh:LeH s.H D [] (g8 rn) hin)
  (hK:K { v:=r.ren (C5 (o.dst.getD 0) rn hin),kill:=P6 rn hout hin++W6 (o.dst.getD 0) hin hout,hp:=B6 (C5 (o.dst.getD 0) rn hin) hout++(if (r.dry&&Z7 hout)=true then [] else rest s.H D) }):F4 P T s o K:=by
 unfold F4
 rw [ho]
 simp only [hc]
 unfold H3
 rw [hf]
 exact ⟨D,rn,hin,lx,hout,r,hcon,hok,hle,hlh,hK⟩
theorem AO.call (hT:v7 P T) (hd:L4 n [o]=true) (ho:o.op=.call c) (hc:c.callee=.value f) (hf:(ASt.mk σ H gg).ev f=.fn (.func g) p cp) (hg:∀ K,F4 P T (ASt.mk σ H gg) o K→N5 P T ops (ASt.mk σ H gg) o K) (D:List Nat) (rn:List (Nat×Nat)) (hcon:HC P g hin lx hout r)
  (hok:X3 (o.dst.getD 0) D rn hin hout r (p++c.args.toList.map (ASt.mk σ H gg).ev++cp)=true) (hle:LeL H D [] (g8 rn) (p++c.args.toList.map (ASt.mk σ H gg).ev++cp) lx) (hlh:LeH H D [] (g8 rn) hin)
  (l':List (Nat×AVal)) (h':List (Nat×ABlk))
  (hK:fits l' h' gg ((ASt.mk σ H gg).app o.dst { v:=r.ren (C5 (o.dst.getD 0) rn hin),kill:=P6 rn hout hin++W6 (o.dst.getD 0) hin hout,hp:=B6 (C5 (o.dst.getD 0) rn hin) hout++(if (r.dry&&Z7 hout)=true then [] else rest H D) }))
  (h2:AO P ro n ops l Q ⟨fr l',b8 h',gg⟩):AO P ro n ops (o::l) Q ⟨σ,H,gg⟩ :=
 AO.segF hT 1 hd l' h' (hg _ (a8d ho hc hf D rn hcon hok hle hlh hK)) h2
theorem P2.call {X F:List (Nat×List Nat)} {i:Nat} {K:ASt→Prop} (hs:match E4 F i with|some φ=>a2x s φ o=true|none=>True) (ho:o.op=.call c) (hc:c.callee=.value f) (hf:s.ev f=.fn (.func g) p cp) (hg:∀ K,F4 P T s o K→N5 P T ops s o K) (D:List Nat) (rn:List (Nat×Nat)) (hcon:HC P g hin lx hout r)
  (hok:X3 (o.dst.getD 0) D rn hin hout r (p++c.args.toList.map s.ev++cp)=true) (hle:LeL s.H D [] (g8 rn) (p++c.args.toList.map s.ev++cp) lx) (hlh:LeH s.H D [] (g8 rn) hin)
  (hX:a4e X F i { v:=r.ren (C5 (o.dst.getD 0) rn hin),kill:=P6 rn hout hin++W6 (o.dst.getD 0) hin hout,hp:=B6 (C5 (o.dst.getD 0) rn hin) hout++(if (r.dry&&Z7 hout)=true then [] else rest s.H D) }=true)
  (hK:P2 P T ops X F (i+1) l (s.app o.dst { v:=r.ren (C5 (o.dst.getD 0) rn hin),kill:=P6 rn hout hin++W6 (o.dst.getD 0) hin hout,hp:=B6 (C5 (o.dst.getD 0) rn hin) hout++(if (r.dry&&Z7 hout)=true then [] else rest s.H D) }) K) :
  P2 P T ops X F i (o::l) s K:=by
 unfold P2
 exact ⟨hs,hg _ (a8d ho hc hf D rn hcon hok hle hlh ⟨hX,hK⟩)⟩
theorem g6 {X F:List (Nat×List Nat)} {i:Nat} {K:ASt→Prop} (h:K s):P2 P T ops X F i [] s K:=h
end
end
end Go.Proofs.Ytenchhmcjmjlbaa
/-! The abstract machine,18: iterators: calls of yield,contracts of iterators. No program is named here. -/
namespace Go.Proofs.Ytenchhmcjmjlbaa
open Go.RowKit
set_option linter.constructorNameAsVariable false
section
variable {P:Program} {T:Tab} {n:Nat} {ds:List Deferred} {A0 L0:Nat→Prop} {w0:Old} {η:Nat→Value} {s:ASt} {a:Act} {w:World}
theorem Rel.restD (h:Rel n ds A0 L0 w0 η s a w) (D:List Nat) (hDf:(D.all fun b=>decide (b<1000000000))=true) :
  Rel n ds A0 L0 w0 η (s.app none { v:=.un,hp:=rest s.H D }) a w∧∀ (xs ys:List AVal) (vs:List Value),LeL s.H D [] (g8 []) xs ys→d5 η w (Av A0 η s.H) xs vs→d5 η w (Av A0 η (s.app none { v:=.un,hp:=rest s.H D }).H) ys vs:=by
 have h1:=h.resting (d:=none) (fun i hi=>by cases hi) (v:=.un) (u:=undef) (ids:=D) (w':=w) (Below.refl _ _) (fun _ _=>by unfold d9; trivial)
 refine ⟨h1,fun xs ys vs hl hv=>?_⟩
 have hN:∀ b B g,b8 (rest s.H D) b=some B→B.mut=true→hblk (η b)=some g→(∃ b0 B0,s.H b0=some B0∧B0.mut=true∧hblk (η b0)=some g∧(b0=b∨(b=0∧([]:List Nat).contains b0=true)))∨(w.heap.size≤g∧b=0):=by
  intro b B g hb hm hg
  obtain ⟨_,_,_,_,e9,_⟩:=r4 _ _ _ _ hb
  subst e9
  cases hm
 have hlv:=a4g (s:=s) (η:=η) (η':=η) (w:=w) (d:=none) (e:={ v:=.un,hp:=rest s.H D }) (fun _ _=>rfl) hN
 have k:Keeps (Av A0 η s.H) (Av A0 η (s.app none { v:=.un,hp:=rest s.H D }).H) w w:=⟨Nat.le_refl _,fun _ _ _=>rfl,fun g hg hc=>hc.imp id fun ⟨b,B,h1,h2,h3⟩=>by
  rcases hlv b B g h1 h2 h3 with ⟨b0,B0,j1,j2,j3,_⟩|⟨j1,_⟩
  ·exact ⟨b0,B0,j1,j2,j3⟩
  ·omega⟩
 refine LeL.rep k (fun c hc=>by simp at hc) (fun c _=>rfl) ⟨fun b t zs hb=>?_,b0g h.hp.blk,fun b ty cs _ hc=>by
  have:=List.all_eq_true.1 hDf _ (show b+1000000000∈D by simpa using hc)
  simp only [decide_eq_true_eq] at this
  omega⟩ xs ys vs hl hv
 have key:∀ e,s.H b=some (.arr e t zs)∨s.H b=some (.imm t zs)→b∈D∨s.H b=some (.imm t zs)→∃ a' c',η b=.slice a' zs.length c'∧w7 w.heap.size (Av A0 η (s.app none { v:=.un,hp:=rest s.H D }).H) t.size (fun y p z=>j0 w (Av A0 η (s.app none { v:=.un,hp:=rest s.H D }).H) t y p z) zs a' c':=by
  intro e hbb hD
  refine a2A h.hp hbb k fun g hba hg=>⟨rfl,?_⟩
  have hbD:b∈D:=by
   rcases hD with hD|hD
   ·exact hD
   ·rw [hba] at hD; cases hD
  refine a1P (nid:=0) h.hp hlv hba ?_ rfl hg
  simp only [ASt.app,a1l _ _ _ hbD hba]
 rcases hb with ⟨⟨e,hb⟩,hD⟩|hb
 ·exact key e (.inl hb) (.inl (by simpa using hD))
 ·exact key 0 (.inr hb) (.inr hb)
theorem Rel.turned (h:Rel n ds A0 L0 w0 η s a w) {A1 A1':Nat→Prop} {Ms:List Nat} (hA:∀ g,A0 g↔A1 g∨w0.U g∨g∈Ms) (hd:a.defers=Ms.map a8I++ds) (hn:Ms.Nodup) (hM:∀ M∈Ms,w0.heap.size≤M∧¬ A1 M∧w.heap[M]?=some (.deferred (some [])))
  (hU:∀ g,A1 g→¬ w0.U g) (hR:a2U w0 w) (hL:∀ g,A1 g→g<w0.heap.size→L0 g) {w':World} (ht:Turns A1 w w') (hA':∀ g,A1' g→A1 g∨(w.heap.size≤g∧g<w'.heap.size)) {G:Gh} (hG:G.yl=true) (hJ:G.J A1' (fun g=>p9 η s.H g∨w0.U g∨g∈Ms) w') :
  Rel n ds (fun g=>A1' g∨w0.U g∨g∈Ms) L0 w0 η { s with g:=G } a w':=by
 have k:Keeps (Av A0 η s.H) (Av (fun g=>A1' g∨w0.U g∨g∈Ms) η s.H) w w':=by
  refine ⟨ht.size,fun g hg hn=>ht.heap g hg fun hc=>hn (.inl ((hA g).2 (.inl hc))),fun g hg hc=>?_⟩
  rcases hc with (hc|hc)|hc
  ·rcases hA' g hc with h1|h1
   ·exact .inl ((hA g).2 (.inl h1))
   ·omega
  ·exact .inl ((hA g).2 (.inr hc))
  ·exact .inr hc
 have hlive:∀ g,p9 η s.H g→¬ A1 g:=fun g hg hc=>(h.hp.av g ((hA g).2 (.inl hc))).2 hg
 refine ⟨h.size,h.few,h.hd,fun i=>d9.step k _ _ (fun _ _=>rfl) (h.tmp i),⟨fun b B hb=>?_,h.hp.inj,fun g hg=>?_⟩,⟨ht.os.trans h.fr.os,ht.tape.trans h.fr.tape,ht.output.trans h.fr.output,Nat.le_trans h.fr.size ht.size,fun g hg hn=>?_⟩,h.old,⟨A1',Ms,hd,hn,fun M hMm=>?_,fun g hg hu=>?_,?_,fun _=>Iff.rfl,hJ,?_⟩⟩
 ·have:=q6.step (K:=[]) (η':=η) (η:=η) k (fun _ _=>rfl) (fun g hm hg=>ht.heap g (p9.lt h.hp ⟨b,B,hb,hm,hg⟩) (hlive g ⟨b,B,hb,hm,hg⟩)) (h.hp.blk b B hb)
  rwa [w6] at this
 ·rcases hg with hg|hg
  ·rcases hA' g hg with h1|h1
   ·have:=h.hp.av g ((hA g).2 (.inl h1)); exact ⟨Nat.lt_of_lt_of_le this.1 ht.size,this.2⟩
   ·exact ⟨h1.2,fun hl=>by have:=p9.lt h.hp hl; omega⟩
  ·have:=h.hp.av g ((hA g).2 (.inr hg)); exact ⟨Nat.lt_of_lt_of_le this.1 ht.size,this.2⟩
 ·exact (ht.heap g (Nat.lt_of_lt_of_le hg h.fr.size) fun hc=>hn (hL g hc hg)).trans (h.fr.heap g hg hn)
 ·obtain ⟨m1,m2,m3⟩:=hM M hMm
  have hlt:=(Array.getElem?_eq_some_iff.1 m3).1
  refine ⟨m1,fun hc=>?_,(ht.heap M hlt m2).trans m3⟩
  rcases hA' M hc with h1|h1
  ·exact m2 h1
  ·omega
 ·rcases hA' g hg with h1|h1
  ·exact hU g h1 hu
  ·have:=(h.hp.av g ((hA g).2 (.inr (.inl hu)))).1; omega
 ·intro q r hq
  obtain ⟨h1,h2⟩:=hR q r hq
  exact ⟨h1,(ht.heap q (Array.getElem?_eq_some_iff.1 h2).1 fun hc=>hU q hc h1).trans h2⟩
 ·rw [show ({ s with g:=G }:ASt).g=G from rfl,hG,if_pos rfl]
  intro g hg hlt
  rcases hA' g hg with h1|h1
  ·exact hL g h1 hlt
  ·have:=h.fr.size; omega
end
/-! ### Yield -/
section
variable {S R Y:Type} {P:Program}
def a5J (P:Program) (l:Nat) (enc:Y→List AVal) (body:Y→S→Option (Step S R)) (Γ:S→Gh) (Γx:R→Gh):Prop :=
 ∀ (y:Y) (st:S) (x:Step S R),body y st=some x→∀ (η:Nat→Value) (A I:Nat→Prop) (w:World) (us:Array Value),(Γ st).J A I w→(∀ g,A g→g<w.heap.size∧¬ I g)→(∀ g,I g→g<w.heap.size)→d5 η w (fun g=>A g∨I g) (enc y) us.toList →
  YieldAt Fence.wide 0 P l us w fun e w'=>Turns A w w'∧∃ A':Nat→Prop,(∀ g,A' g→A g∨(w.heap.size≤g∧g<w'.heap.size)) ∧
   match x with
   | .next st'=>e=.returned (.bool true)∧(Γ st').J A' I w'
   | .done r=>e=.returned (.bool false)∧(Γx r).J A' I w'
theorem a8w {ro:Option Nat} {m k:Nat} {l:Nat} {f:FuncId} {tmps:Array Value} {assign body:Code} {w:World} {Q:Ending→World→Prop} (h:RoundIn Fence.wide m P l f tmps assign body w Q):RoundIn (fen ro) k P l f tmps assign body w Q :=
 ⟨trivial,fun c cs _=>h.2 c cs (room_wide _)⟩
theorem a88 {ro:Option Nat} {m k:Nat} {f:FuncId} {args:Array Value} {w:World} {Q:Ending→World→Prop} (h:CallsIn Fence.wide m P f args w Q):CallsIn (fen ro) k P f args w Q :=
 ⟨trivial,fun cs _=>h.2 cs (room_wide _)⟩
variable {n:Nat} {ro:Option Nat} {Q:Exit→ASt→Prop} {σ:Nat→AVal} {H:m0} {o:Oper} {ops rs:List Oper} {c:Call} {f:Operand} {enc:Y→List AVal} {body:Y→S→Option (Step S R)} {Γ:S→Gh} {Γx:R→Gh} {lp:Nat}
theorem d5.sub {η:Nat→Value} {w:World} {A A':Nat→Prop} (h:∀ g,A' g→A g) {l:List AVal} {vs:List Value} (hr:d5 η w A l vs):d5 η w A' l vs :=
 d5.step ⟨Nat.le_refl _,fun _ _ _=>rfl,fun g _ hg=>h g hg⟩ l vs (fun _ _=>rfl) hr
theorem a5L (ho:o.op=.call c) (hc:c.callee=.value f) (hg:o.guard=none) (hd:L4 n [o]=true) (st:S) (hf:(ASt.mk σ H (Γ st)).ev f=.fn (.yield lp) [] []) (hY:a5J P lp enc body Γ Γx) (hΓ:∀ st,(Γ st).yl=true) (hΓx:∀ r,(Γx r).yl=true)
  (y:Y) (D:List Nat) (hle:LeL H D [] (g8 []) (c.args.toList.map (ASt.mk σ H (Γ st)).ev) (enc y)) {x:Step S R} (hx:body y st=some x)
  (h2:match (generalizing:=false) x with
   | .next st'=>AO P ro n ops rs Q (((ASt.mk σ H (Γ st')).app none { v:=.un,hp:=rest H D }).app o.dst { v:=.bool true })
   | .done r=>AO P ro n ops rs Q (((ASt.mk σ H (Γx r)).app none { v:=.un,hp:=rest H D }).app o.dst { v:=.bool false })) (hDf:(D.all fun b=>decide (b<1000000000))=true:=by decide):AO P ro n ops (o::rs) Q ⟨σ,H,Γ st⟩:=by
 intro m ds A0 L0 w0 η a w hq0 hr
 unfold wpListIn
 have hwant:Region.wanted o (yielded ops.toArray a.tmps)=true:=by simp [Region.wanted,hg]
 rw [if_pos hwant]
 obtain ⟨hr1,hargs⟩:=hr.restD D hDf
 have hdo:∀ i,o.dst=some i→i<n:=fun i hi=>by
  unfold L4 at hd
  simp only [List.all_cons,List.all_nil,Bool.and_true] at hd
  rw [hi] at hd; simpa using hd
 have hfv:a.eval f=.func (.yield lp) #[] #[]:=by
  have:=hr.ev f
  rw [hf] at this
  unfold d9 at this
  obtain ⟨ps,cs,e,h1,h2⟩:=this
  unfold d5 at h1 h2
  rw [e]
  rw [Array.toList_eq_nil_iff.1 h1,Array.toList_eq_nil_iff.1 h2]
 have hvs:d5 η w (Av A0 η ((ASt.mk σ H (Γ st)).app none { v:=.un,hp:=rest H D }).H) (enc y) (c.args.map a.eval).toList:=by
  refine hargs _ _ _ hle ?_
  rw [Array.toList_map]
  exact evs hr _
 have hexe:(execOp a.eval o).run P w=(Instr.yield lp (c.args.map a.eval)).run P w:=by
  simp [execOp,ho,resolve,hc,hfv,invoke,Deferred.ofValue]
 refine ⟨fun f _=>a2P ro f,?_⟩
 rw [Oper.semAt_eq _ _ _ (by simp [ho]),hexe]
 obtain ⟨A1,Ms,k1,k2,k3,k7,k8,k4,k5,k6⟩:=hr1.gh
 have hyl:((ASt.mk σ H (Γ st)).app none { v:=.un,hp:=rest H D }).g=Γ st:=rfl
 rw [hyl] at k5 k6
 rw [hΓ st,if_pos rfl] at k6
 obtain ⟨fn,tmps,assign,bd,hy,hround⟩:=hY y st x hx η A1 _ w (c.args.map a.eval) k5 (fun g hg=>by
   have:=hr1.hp.av g ((k4 g).2 (.inl hg))
   refine ⟨this.1,fun hc=>?_⟩
   rcases hc with hc|hc|hc
   ·exact this.2 hc
   ·exact k7 g hg hc
   ·exact (k3 g hc).2.1 hg) (fun g hg=>by
   rcases hg with hg|hg
   ·exact p9.lt hr1.hp hg
   ·exact (hr1.hp.av g ((k4 g).2 (.inr hg))).1) (d5.sub (fun g hg=>by
   rcases hg with hg|hg|hg
   ·exact .inl ((k4 g).2 (.inl hg))
   ·exact .inr hg
   ·exact .inl ((k4 g).2 (.inr hg))) hvs)
 rw [hy]
 refine ⟨a7i ro _,RoundIn.mono (a8w hround) ?_⟩
 rintro e w' ⟨ht,A',hA',hm⟩
 cases x with
 | next st' =>
  obtain ⟨rfl,hJ⟩:=hm
  have hr2:=hr1.turned k4 k1 k2 k3 k7 k8 k6 ht hA' (hΓ st') hJ
  exact h2 m ds _ L0 w0 η _ w' hq0 (hr2.pure (v:=.bool true) (u:=.bool true) hdo (by unfold d9; rfl))
 | done r =>
  obtain ⟨rfl,hJ⟩:=hm
  have hr2:=hr1.turned k4 k1 k2 k3 k7 k8 k6 ht hA' (hΓx r) hJ
  exact h2 m ds _ L0 w0 η _ w' hq0 (hr2.pure (v:=.bool false) (u:=.bool false) hdo (by unfold d9; rfl))
end
end Go.Proofs.Ytenchhmcjmjlbaa
/-! The abstract machine,19: contracts of iterators; ranges over functions. No program is named here. -/
namespace Go.Proofs.Ytenchhmcjmjlbaa
open Go.RowKit
set_option linter.constructorNameAsVariable false
set_option linter.unusedVariables false
section
variable {S R Y:Type} {P:Program}
def b4p (Γ:S→Gh) (Γx:R→Gh):Sum S R→Gh
 | .inl s=>Γ s
 | .inr x=>Γx x
def IC (P:Program) (gf:FuncId) (hin:List (Nat×ABlk)) (pre cap:List AVal) (enc:Y→List AVal) (body:Y→S→Option (Step S R)) (s0:S) (r:Sum S R):Prop :=
 b52 P gf∧∀ (Γ:S→Gh) (Γx:R→Gh),(∀ s,(Γ s).yl=true)→(∀ r,(Γx r).yl=true)→∀ l,a5J P l enc body Γ Γx →
  ∀ (η:Nat→Value) (A0:Nat→Prop) (w:World) (us vs:Array Value),RelH A0 η (b8 hin) w→d5 η w (Av A0 η (b8 hin)) pre us.toList→d5 η w (Av A0 η (b8 hin)) cap vs.toList→(Γ s0).J A0 (p9 η (b8 hin)) w →
   Calls P gf (us++#[.func (.yield l) #[] #[]]++vs) w fun e w'=>(∃ v,e=.returned v)∧∃ A1 I1:Nat→Prop,Turns (fun g=>A0 g∨p9 η (b8 hin) g) w w'∧(b4p Γ Γx r).J A1 I1 w'
def b6b (G:Gh):Exit→ASt→Prop
 | .normal,s=>s.g=G
 | .ret,s=>s.g=G
 | _,_=>False
theorem IC.of_body {gf:FuncId} {fn:Func} {c:Code} {hin:List (Nat×ABlk)} {pre cap:List AVal} {enc:Y→List AVal} {body:Y→S→Option (Step S R)} {s0:S} {r:Sum S R} (hf:P.funcs[gf]?=some fn) (hb:fn.body=some c) (hname:(fn.name=="runtime.NumGoroutine")=false) (hres:fn.results=#[])
  {nt:Nat} (hnt:fn.ntmps=nt) (hfew:nt≤1000) (hl:pre.length+(cap.length+1)≤nt)
  (h:∀ (Γ:S→Gh) (Γx:R→Gh) (l:Nat),(∀ s,(Γ s).yl=true)→(∀ r,(Γx r).yl=true)→a5J P l enc body Γ Γx→AW P none nt c (b6b (b4p Γ Γx r)) ⟨fr (a0L 0 (pre++.fn (.yield l) [] []::cap)),b8 hin,Γ s0⟩):IC P gf hin pre cap enc body s0 r:=by
 refine ⟨⟨fn,hf,by simp [hb],hname⟩,fun Γ Γx hΓ hΓx l hY η A0 w us vs hA hu hv hJ=>?_⟩
 subst hnt
 have hlen:=hv.length
 have hlen0:=hu.length
 have hv':d5 η w (Av A0 η (b8 hin)) (pre++.fn (.yield l) [] []::cap) (us++#[Value.func (.yield l) #[] #[]]++vs).toList:=by
  rw [Array.toList_append,Array.toList_append,List.append_assoc]
  exact hu.append (d5.cons (by unfold d9; exact ⟨#[],#[],rfl,d5.nil,d5.nil⟩) hv)
 have hrel:Rel fn.ntmps [] A0 (fun g=>A0 g∨p9 η (b8 hin) g) { toWorld:=w,ηh:=η } η ⟨fr (a0L 0 (pre++.fn (.yield l) [] []::cap)),b8 hin,Γ s0⟩ { tmps:=(us++#[Value.func (.yield l) #[] #[]]++vs)++Array.replicate (fn.ntmps - (us++#[Value.func (.yield l) #[] #[]]++vs).size) undef,defers:=[] } w:=by
  refine ⟨by simp; simp at hlen hlen0; omega,hfew,fun b _ _=>rfl,fun i=>?_,hA,Fr.refl _ _,fun g hg _=>.inr hg,⟨A0,[],rfl,List.nodup_nil,by simp,fun _ _ h=>h,(fun _ _ h=>by cases h),fun g=>by simp,(Γ s0).cl _ _ _ _ _ hJ (Turns.refl _ _) (fun g hg=>.inl (by simpa using hg)),by rw [show (ASt.mk (fr (a0L 0 (pre++.fn (.yield l) [] []::cap))) (b8 hin) (Γ s0)).g=Γ s0 from rfl,hΓ,if_pos rfl]; exact fun g hg _=>.inl hg⟩⟩
  by_cases hi:i<(pre++AVal.fn (.yield l) [] []::cap).length
  ·have hx:(pre++AVal.fn (.yield l) [] []::cap)[i]?=some (pre++AVal.fn (.yield l) [] []::cap)[i]:=by simp
   obtain ⟨v,hv1,hv2⟩:=hv'.get hx
   have e1:(pre++AVal.fn (.yield l) [] []::cap).getD i .un=(pre++AVal.fn (.yield l) [] []::cap)[i]:=by simp [List.getD,hx]
   have hvi:(us++#[Value.func (.yield l) #[] #[]]++vs)[i]?=some v:=by simpa only [Array.getElem?_toList] using hv1
   have e2:((us++#[Value.func (.yield l) #[] #[]]++vs)++Array.replicate (fn.ntmps - (us++#[Value.func (.yield l) #[] #[]]++vs).size) undef).getD i undef=v:=by
    rw [Array.getD_eq_getD_getElem?,Array.getElem?_append_left (Array.getElem?_eq_some_iff.1 hvi).1,hvi]; rfl
   show d9 η w (Av A0 η (b8 hin)) (fr (a0L 0 (pre++.fn (.yield l) [] []::cap)) i) (Array.getD _ i undef)
   rw [a4a,Nat.sub_zero,if_neg (by omega),e1,e2]
   exact hv2
  ·have:(pre++AVal.fn (.yield l) [] []::cap).getD i .un=.un:=by
    rw [List.getD,List.getElem?_eq_none (Nat.le_of_not_lt hi)]; rfl
   show d9 η w (Av A0 η (b8 hin)) (fr (a0L 0 (pre++.fn (.yield l) [] []::cap)) i) (Array.getD _ i undef)
   rw [a4a,Nat.sub_zero,if_neg (by omega),this]; unfold d9; trivial
 have hwp:=h Γ Γx l hΓ hΓx hY 0 [] A0 _ _ η _ w rfl hrel
 rw [show (fen none)=Fence.wide from rfl] at hwp
 refine callsIn_wide.1 (callsIn_of_wp_marks (n:=0) hf hb trivial (wpIn_mono hwp ?_) rfl)
 rintro e a' w' ⟨A1,η',s',hQ,hR⟩
 have fin:s'.g=(b4p Γ Γx r)→LeavesInM Fence.wide 0 P fn a'.tmps (fun e w'=>(∃ v,e=.returned v)∧∃ A1 I1:Nat→Prop,Turns (fun g=>A0 g∨p9 η (b8 hin) g) w w'∧(b4p Γ Γx r).J A1 I1 w') a'.defers .returning w':=by
  intro hg
  obtain ⟨A2,Ms,hMs,hMn,hM,hU2,hRd,hA2,hJ2,hA3⟩:=hR.gh
  rw [List.append_nil] at hMs
  rw [hMs]
  refine a1S (s:=s') (η:=η') (w0:={ toWorld:=w,ηh:=η }) (A1:=A2) hU2 hA3 ?_ Ms A1 a' w' rfl hMn hM hRd hA2 hJ2 hR
  intro a2 w2 e3 hR2 hJ3
  rw [hg] at hJ3
  exact ⟨.tuple #[],by rw [a54,hres]; simp,⟨_,rfl⟩,A2,_,⟨hR2.fr.os,hR2.fr.tape,hR2.fr.output,hR2.fr.size,hR2.fr.heap⟩,hJ3⟩
 cases e with
 | normal=>exact fin hQ
 | ret=>exact fin hQ
 | _=>exact hQ.elim
end
/-! ### Ranges over functions -/
def AR (w0:Old) (Ms:List Nat) (l:Nat) (A1 I:Nat→Prop):Nat→Prop:=fun q=>A1 q∨w0.U q∨q∈Ms∨I q∨q=l
structure LoopSt (L0:Nat→Prop) (w0:Old) (tmps:Array Value) (l0:List (Nat×AVal)) (ηe:Nat→Value) (Ms:List Nat) (l:Nat) (h:List (Nat×ABlk)) (g:Gh) (lp:Loop) (C I:Nat→Prop) (W:World) (ηr:Nat→Value) (A1:Nat→Prop):Prop where
 cdef:∀ q,C q↔p9 ηr (b8 h) q∨A1 q∨w0.U q∨q∈Ms∨q=l
 hp:RelH (AR w0 Ms l A1 I) ηr (b8 h) W
 tmp:∀ i,d9 ηr W (Av (AR w0 Ms l A1 I) ηr (b8 h)) (fr l0 i) (tmps.getD i undef)
 hd:∀ b,N2 b→(b8 h b).isSome=true→ηr b=ηe b
 frm:Fr L0 w0.toWorld W
 old:∀ q,p9 ηr (b8 h) q→q<w0.heap.size→L0 q
 iold:∀ q,I q→q<w0.heap.size→L0 q
 mks:∀ M∈Ms,w0.heap.size≤M∧W.heap[M]?=some (.deferred (some []))
 dis:∀ q,A1 q→¬ w0.U q∧q ∉ Ms∧¬ I q∧q≠l
 idis:¬ I l∧(∀ M∈Ms,¬ I M)∧∀ q,w0.U q→¬ I q
 ldis:l ∉ Ms
 lnu:¬ w0.U l
 rcd:W.heap[l]?=some (.loop lp)
 lnew:w0.heap.size≤l
 rds:a2U w0 W
 know:g.J A1 (fun q=>p9 ηr (b8 h) q∨w0.U q∨q∈Ms∨I q∨q=l) W
 yl:if g.yl=true then ∀ q,A1 q→q<w0.heap.size→L0 q else A1=w0.A
section
variable {L0:Nat→Prop} {w0:Old} {tmps:Array Value} {l0:List (Nat×AVal)} {ηe:Nat→Value} {Ms:List Nat} {l:Nat} {h:List (Nat×ABlk)} {g:Gh} {lp:Loop} {C I:Nat→Prop} {W:World} {ηr:Nat→Value} {A1:Nat→Prop}
theorem LoopSt.turn (H:LoopSt L0 w0 tmps l0 ηe Ms l h g lp C I W ηr A1) {I':Nat→Prop} {W':World} (ht:Turns I W W') (hI:∀ q,I' q→I q∨(W.heap.size≤q∧q<W'.heap.size)):LoopSt L0 w0 tmps l0 ηe Ms l h g lp C I' W' ηr A1:=by
 have sub:∀ q,q<W.heap.size→AR w0 Ms l A1 I' q→AR w0 Ms l A1 I q:=by
  rintro q hq (h1|h1|h1|h1|h1)
  ·exact .inl h1
  ·exact .inr (.inl h1)
  ·exact .inr (.inr (.inl h1))
  ·rcases hI q h1 with h2|h2
   ·exact .inr (.inr (.inr (.inl h2)))
   ·omega
  ·exact .inr (.inr (.inr (.inr h1)))
 have k:Keeps (Av (AR w0 Ms l A1 I) ηr (b8 h)) (Av (AR w0 Ms l A1 I') ηr (b8 h)) W W' :=
  ⟨ht.size,fun q hq hn=>ht.heap q hq fun hi=>hn (.inl (.inr (.inr (.inr (.inl hi))))),fun q hq hc=>hc.imp (sub q hq) id⟩
 have hni:∀ q,p9 ηr (b8 h) q→¬ I q:=fun q hl hi=>(H.hp.av q (.inr (.inr (.inr (.inl hi))))).2 hl
 have hlt:l<W.heap.size:=(Array.getElem?_eq_some_iff.1 H.rcd).1
 refine ⟨H.cdef,⟨fun b B hb=>?_,H.hp.inj,fun q hq=>?_⟩,fun i=>d9.step k _ _ (fun _ _=>rfl) (H.tmp i),H.hd,⟨ht.os.trans H.frm.os,ht.tape.trans H.frm.tape,ht.output.trans H.frm.output,Nat.le_trans H.frm.size ht.size,fun q hq hn=>(ht.heap q (Nat.lt_of_lt_of_le hq H.frm.size) fun hi=>hn (H.iold q hi hq)).trans (H.frm.heap q hq hn)⟩,H.old,fun q hq hlt=>?_,fun M hM=>⟨(H.mks M hM).1,?_⟩,fun q hq=>⟨(H.dis q hq).1,(H.dis q hq).2.1,fun hi=>?_,(H.dis q hq).2.2.2⟩,⟨fun hi=>?_,fun M hM hi=>?_,fun q hq hi=>?_⟩,H.ldis,H.lnu,?_,H.lnew,?_,?_,H.yl⟩
 ·have:=q6.step (K:=[]) (η':=ηr) (η:=ηr) k (fun _ _=>rfl) (fun q hm hg=>ht.heap q (p9.lt H.hp ⟨b,B,hb,hm,hg⟩) (hni q ⟨b,B,hb,hm,hg⟩)) (H.hp.blk b B hb)
  rwa [w6] at this
 ·by_cases hlt:q<W.heap.size
  ·have:=H.hp.av q (sub q hlt hq); exact ⟨Nat.lt_of_lt_of_le this.1 ht.size,this.2⟩
  ·refine ⟨?_,fun hl=>hlt (p9.lt H.hp hl)⟩
   rcases hq with h1|h1|h1|h1|h1
   ·have:=(H.hp.av q (.inl h1)).1; omega
   ·have:=(H.hp.av q (.inr (.inl h1))).1; omega
   ·have:=(H.hp.av q (.inr (.inr (.inl h1)))).1; omega
   ·rcases hI q h1 with h2|h2
    ·have:=(H.hp.av q (.inr (.inr (.inr (.inl h2))))).1; omega
    ·exact h2.2
   ·subst h1; omega
 ·rcases hI q hq with h2|h2
  ·exact H.iold q h2 hlt
  ·have:=H.frm.size; omega
 ·exact (ht.heap M (Array.getElem?_eq_some_iff.1 (H.mks M hM).2).1 (H.idis.2.1 M hM)).trans (H.mks M hM).2
 ·rcases hI q hi with h2|h2
  ·exact (H.dis q hq).2.2.1 h2
  ·have:=(H.hp.av q (.inl hq)).1; omega
 ·rcases hI l hi with h2|h2
  ·exact H.idis.1 h2
  ·omega
 ·rcases hI M hi with h2|h2
  ·exact H.idis.2.1 M hM h2
  ·have:=(Array.getElem?_eq_some_iff.1 (H.mks M hM).2).1; omega
 ·rcases hI q hi with h2|h2
  ·exact H.idis.2.2 q hq h2
  ·have:=(H.hp.av q (.inr (.inl hq))).1; omega
 ·exact (ht.heap l hlt H.idis.1).trans H.rcd
 ·intro q r hq
  obtain ⟨h1,h2⟩:=H.rds q r hq
  exact ⟨h1,(ht.heap q (Array.getElem?_eq_some_iff.1 h2).1 (H.idis.2.2 q h1)).trans h2⟩
 ·refine g.cl _ _ _ _ _ H.know (ht.mono fun q _ hi=>.inr (.inr (.inr (.inl hi)))) fun q hq=>?_
  rcases hq with h1|h1|h1|h1|h1
  ·exact .inl (.inl h1)
  ·exact .inl (.inr (.inl h1))
  ·exact .inl (.inr (.inr (.inl h1)))
  ·rcases hI q h1 with h2|h2
   ·exact .inl (.inr (.inr (.inr (.inl h2))))
   ·exact .inr h2
  ·exact .inl (.inr (.inr (.inr (.inr h1))))
theorem LoopSt.putl (H:LoopSt L0 w0 tmps l0 ηe Ms l h g lp C I W ηr A1) (lp':Loop):LoopSt L0 w0 tmps l0 ηe Ms l h g lp' C I (W.putObj l (.loop lp')) ηr A1:=by
 have hlt:l<W.heap.size:=(Array.getElem?_eq_some_iff.1 H.rcd).1
 have hs:W.heap.size≤(W.putObj l (.loop lp')).heap.size:=by simp
 have hc:∀ (q:Nat) ob,W.heap[q]?=some ob→a1V ob=true→(W.putObj l (.loop lp')).heap[q]?=W.heap[q]?:=fun q ob hq hr=>World.putObj_heap_other fun e=>by subst e; rw [H.rcd] at hq; cases hq; cases hr
 refine ⟨H.cdef,a4y hs hc H.hp,fun i=>a20 hs hc _ _ (H.tmp i),H.hd,⟨H.frm.os,H.frm.tape,H.frm.output,Nat.le_trans H.frm.size hs,fun q hq hn=>?_⟩,H.old,H.iold,fun M hM=>⟨(H.mks M hM).1,?_⟩,H.dis,H.idis,H.ldis,H.lnu,World.putObj_heap_same hlt,H.lnew,?_,?_,H.yl⟩
 ·rw [World.putObj_heap_other (fun e=>by subst e; have h1:=H.lnew; have h2:q<w0.heap.size:=hq; omega)]; exact H.frm.heap q hq hn
 ·rw [World.putObj_heap_other (fun e=>by subst e; exact H.ldis hM)]; exact (H.mks M hM).2
 ·intro q r hq
  obtain ⟨h1,h2⟩:=H.rds q r hq
  have hne:q≠l:=fun e=>H.lnu (by rw [← e]; exact h1)
  exact ⟨h1,by rw [World.putObj_heap_other hne]; exact h2⟩
 ·refine g.cl _ _ _ _ _ H.know ⟨rfl,rfl,rfl,hs,fun q _ hq=>World.putObj_heap_other fun e=>hq (.inr (.inr (.inr (.inr e))))⟩ fun q hq=>.inl hq
def a1k (w0:Old) (W:World) (ηe:Nat→Value) (A1 I:Nat→Prop) (Ms:List Nat) (l:Nat) (lp:Loop):Old:={ toWorld:=W,ηh:=ηe,A:=A1,U:=fun q=>w0.U q∨q∈Ms∨I q∨q=l,rd:=some (l,lp) }
def a2z (ηr:Nat→Value) (h:List (Nat×ABlk)) (g:Gh) (A1:Nat→Prop) (l:Nat):Nat→Prop:=fun q=>p9 ηr (b8 h) q∨(g.yl=true∧A1 q)∨q=l
def a8q:List (Nat×AVal)→List (Nat×AVal)→List (Nat×AVal)
 | [],l=>l
 | p::r,l=>a8q r (p::l)
theorem a8p {η:Nat→Value} {A:Nat→Prop}:∀ (ps:List Tmp) (ys:List AVal) (us:List Value) (l:List (Nat×AVal)) (tmps:Array Value),ps.length=ys.length→d5 η W A ys us→(∀ p∈ps,p<tmps.size)→(∀ i,d9 η W A (fr l i) (tmps.getD i undef)) →
  ∀ i,d9 η W A (fr (a8q (ps.zip ys) l) i) (((ps.zip us).foldl (fun t (q:Nat×Value)=>t.setIfInBounds q.1 q.2) tmps).getD i undef)
 | [],[],us,l,tmps,_,hv,_,hl,i=>by simpa [a8q] using hl i
 | p::ps,y::ys,us,l,tmps,hn,hv,hp,hl,i=>by
  unfold d5 at hv
  obtain ⟨u,us',rfl,hu,hv⟩:=hv
  simp only [List.zip_cons_cons,a8q,List.foldl_cons]
  refine a8p ps ys us' ((p,y)::l) (tmps.setIfInBounds p u) (by simpa using hn) hv (fun q hq=>by rw [Array.size_setIfInBounds]; exact hp q (by simp [hq])) (fun j=>?_) i
  unfold fr
  by_cases e:j=p
  ·subst e
   rw [if_pos rfl]
   have hlt:=hp j (by simp)
   have:(tmps.setIfInBounds j u).getD j undef=u:=by
    rw [Array.getD_eq_getD_getElem?]; simp [hlt]
   rw [this]; exact hu
  ·rw [if_neg e]
   have:(tmps.setIfInBounds p u).getD j undef=tmps.getD j undef:=by
    rw [Array.getD_eq_getD_getElem?,Array.getD_eq_getD_getElem?,Array.getElem?_setIfInBounds_ne (Ne.symm e)]
   rw [this]; exact hl j
theorem LoopSt.toRel {n:Nat} (H:LoopSt L0 w0 tmps l0 ηe Ms l h g lp C I W ηr A1) (hn:tmps.size=n) (hfew:n≤1000) {ps:List Tmp} {ys:List AVal} {us:List Value} (hps:ps.length=ys.length) (hpl:∀ p∈ps,p<n) (hv:d5 ηr W (Av (AR w0 Ms l A1 I) ηr (b8 h)) ys us) :
  Rel n [] (AR w0 Ms l A1 I) (a2z ηr h g A1 l) (a1k w0 W ηe A1 I Ms l lp) ηr ⟨fr (a8q (ps.zip ys) l0),b8 h,g⟩ { tmps:=(ps.zip us).foldl (fun t (q:Nat×Value)=>t.setIfInBounds q.1 q.2) tmps,defers:=[] } W:=by
 have hsz:∀ (l:List (Nat×Value)) (t:Array Value),(l.foldl (fun t (q:Nat×Value)=>t.setIfInBounds q.1 q.2) t).size=t.size:=by
  intro l
  induction l with
  | nil=>intro t; rfl
  | cons x l ih=>intro t; rw [List.foldl_cons,ih,Array.size_setIfInBounds]
 refine ⟨by rw [hsz]; exact hn,hfew,H.hd,a8p ps ys us l0 tmps hps hv (by rw [hn]; exact hpl) H.tmp,H.hp,Fr.refl _ _,fun q hq _=>.inl hq,⟨A1,[],rfl,List.nodup_nil,by simp,?_,?_,?_,?_,?_⟩⟩
 ·rintro q hq (h1|h1|h1|h1)
  ·exact (H.dis q hq).1 h1
  ·exact (H.dis q hq).2.1 h1
  ·exact (H.dis q hq).2.2.1 h1
  ·exact (H.dis q hq).2.2.2 h1
 ·intro q r hq
  cases hq
  exact ⟨.inr (.inr (.inr rfl)),H.rcd⟩
 ·intro q
  simp [AR,a1k]
 ·exact g.cl _ _ _ _ _ H.know (Turns.refl _ _) fun q hq=>.inl (by simpa [a1k] using hq)
 ·show if g.yl=true then _ else _
  split
  ·rename_i e; exact fun q hq _=>.inr (.inl ⟨e,hq⟩)
  ·rfl
theorem LoopSt.ofRel {n:Nat} {lp':Loop} (H:LoopSt L0 w0 tmps l0 ηe Ms l h g lp C I W ηr A1) {A0':Nat→Prop} {η':Nat→Value} {s':ASt} {a':Act} {W':World} (hr:Rel n [] A0' (a2z ηr h g A1 l) (a1k w0 W ηe A1 I Ms l lp') η' s' a' W')
  {h':List (Nat×ABlk)} {D N:List Nat} {ρ:Nat→Nat} (ok:C0 ρ D N h'=true) (hle:LeH s'.H D N ρ h') (hyl:s'.g.yl=g.yl) (hid:∀ i b,(fr l0 i).has b=true→N2 b∧(b8 h b).isSome=true∧(b8 h' b).isSome=true) :
  ∃ C' ηr' A1',LoopSt L0 w0 tmps l0 ηe Ms l h' s'.g lp' C' I W' ηr' A1'∧Turns C W W'∧(∀ q,C' q→C q∨(W.heap.size≤q∧q<W'.heap.size)):=by
 have hn:=a0B ok
 have hnh:=a0C ok
 obtain ⟨A1',Ms',k1,k2,k3,k7,k8,k4,k5,k6⟩:=hr.gh
 have hA1':∀ q,A1' q→q<W.heap.size→A1 q∨p9 ηr (b8 h) q:=by
  intro q hq hlt
  rw [hyl] at k6
  split at k6
  ·rcases k6 q hq hlt with h1|h1
   ·exact .inr h1
   ·rcases h1 with h1|h1
    ·exact .inl h1.2
    ·subst h1; exact absurd (.inr (.inr (.inr rfl))) (k7 q hq)
  ·rw [k6] at hq; exact .inl hq
 have hLn:∀ q,a2z ηr h g A1 l q→C q:=fun q hq=>(H.cdef q).2 (hq.imp id fun h1=>h1.elim (fun h1=>.inl h1.2) fun h1=>.inr (.inr (.inr h1)))
 have hlive:∀ q,p9 (I7 η' N ρ) (b8 h') q→p9 η' s'.H q:=fun q hq=>by
  obtain ⟨c,B,B0,_,_,j3,j4,_,j6⟩:=a03 hle hq
  exact ⟨_,B0,j3,j4,j6⟩
 have hlive':∀ q,p9 (I7 η' N ρ) (b8 h') q→q<W.heap.size→a2z ηr h g A1 l q:=fun q hq hlt=>hr.old q (hlive q hq) hlt
 have hsub:∀ q,AR w0 Ms l A1' I q→A0' q:=fun q hq=>(k4 q).2 (by
  rcases hq with h1|h1
  ·exact .inl h1
  ·exact .inr (.inl h1))
 obtain ⟨r1,_,_⟩:=a6e (A1:=AR w0 Ms l A1' I) hr.hp hn hle (fun q hq=>(hr.hp.av q (hsub q hq)).1) (fun q hq=>.inl (hsub q hq)) (fun q b e t xs hq hb _ hbl=>(hr.hp.av q (hsub q hq)).2 ⟨b,_,hb,rfl,hbl⟩) (fun q hq hl=>(hr.hp.av q (hsub q hq)).2 (hlive q hl)) (.inl (a02 ok))
 have hhd:∀ b,N2 b→(b8 h' b).isSome=true→I7 η' N ρ b=ηe b:=by
  intro b hb hsm
  obtain ⟨B,hB⟩:=Option.isSome_iff_exists.1 hsm
  rcases LeH.get hle hB with ⟨hc,_⟩|⟨hc,B0,hB0,_⟩
  ·exact absurd hb (hnh.nil b B hB hc)
  ·have e:=hnh.hand b B hB hc hb
   have:I7 η' N ρ b=η' b:=by
    unfold I7
    rw [hc,e]; simp
   rw [this]
   rw [e] at hB0
   exact hr.hd b hb (by rw [hB0]; rfl)
 have hLl:∀ q,a2z ηr h g A1 l q→q<w0.heap.size→L0 q:=by
  rintro q (h1|⟨h1,h2⟩|h1) hlt
  ·exact H.old q h1 hlt
  ·have:=H.yl; rw [h1,if_pos rfl] at this; exact this q h2 hlt
  ·subst h1; have:=H.lnew; omega
 have hUn:∀ q,(w0.U q∨q∈Ms)→¬ a2z ηr h g A1 l q:=by
  rintro q hu (h1|h1|h1)
  ·exact (H.hp.av q (.inr (hu.elim .inl fun h=>.inr (.inl h)))).2 h1
  ·have:=H.dis q h1.2
   rcases hu with h2|h2
   ·exact this.1 h2
   ·exact this.2.1 h2
  ·subst h1; exact hu.elim H.lnu H.ldis
 have hsame:∀ q,q<W.heap.size→¬ a2z ηr h g A1 l q→W'.heap[q]?=W.heap[q]?:=hr.fr.heap
 have k:Keeps (Av (AR w0 Ms l A1 I) ηr (b8 h)) (Av (AR w0 Ms l A1' I) (I7 η' N ρ) (b8 h')) W W':=by
  refine ⟨hr.fr.size,fun q hq hc=>hsame q hq fun hl=>hc (by
   rcases hl with h1|h1
   ·exact .inr h1
   ·exact .inl (h1.elim (fun h1=>.inl h1.2) fun h1=>.inr (.inr (.inr (.inr h1))))),fun q hq hc=>?_⟩
  rcases hc with (h1|h1)|h1
  ·rcases hA1' q h1 hq with h2|h2
   ·exact .inl (.inl h2)
   ·exact .inr h2
  ·exact .inl (.inr h1)
  ·rcases hlive' q h1 hq with h2|h2
   ·exact .inr h2
   ·exact .inl (h2.elim (fun h2=>.inl h2.2) fun h2=>.inr (.inr (.inr (.inr h2))))
 refine ⟨fun q=>p9 (I7 η' N ρ) (b8 h') q∨A1' q∨w0.U q∨q∈Ms∨q=l,I7 η' N ρ,A1',⟨fun q=>Iff.rfl,r1,fun i=>d9.step k _ _ (fun b hb=>?_) (H.tmp i),hhd,⟨hr.fr.os.trans H.frm.os,hr.fr.tape.trans H.frm.tape,hr.fr.output.trans H.frm.output,Nat.le_trans H.frm.size hr.fr.size,fun q hq hc=>?_⟩,fun q hq hlt=>hLl q (hlive' q hq (Nat.lt_of_lt_of_le hlt H.frm.size)) hlt,H.iold,fun M hM=>⟨(H.mks M hM).1,?_⟩,fun q hq=>?_,H.idis,H.ldis,H.lnu,?_,H.lnew,?_,?_,?_⟩,?_,?_⟩
 ·obtain ⟨h1,h2,h3⟩:=hid i b hb
  rw [hhd b h1 h3,H.hd b h1 h2]
 ·exact (hsame q (Nat.lt_of_lt_of_le hq H.frm.size) fun hl=>hc (hLl q hl hq)).trans (H.frm.heap q hq hc)
 ·exact (hsame M (Array.getElem?_eq_some_iff.1 (H.mks M hM).2).1 (hUn M (.inr hM))).trans (H.mks M hM).2
 ·have:=k7 q hq
  refine ⟨fun h1=>this (.inl h1),fun h1=>this (.inr (.inl h1)),fun h1=>this (.inr (.inr (.inl h1))),fun h1=>this (.inr (.inr (.inr h1)))⟩
 ·exact (k8 l lp' rfl).2
 ·intro q r hq
  obtain ⟨h1,h2⟩:=H.rds q r hq
  exact ⟨h1,(hsame q (Array.getElem?_eq_some_iff.1 h2).1 (hUn q (.inl h1))).trans h2⟩
 ·refine s'.g.cl _ _ _ _ _ k5 (Turns.refl _ _) fun q hq=>.inl ?_
  rcases hq with h1|h1
  ·exact .inl (hlive q h1)
  ·exact .inr (.inl h1)
 ·have hy:=H.yl
  rw [hyl] at k6 ⊢
  split
  ·rename_i e
   rw [e,if_pos rfl] at hy k6
   intro q hq hlt
   exact hLl q (k6 q hq (Nat.lt_of_lt_of_le hlt H.frm.size)) hlt
  ·rename_i e
   rw [if_neg e] at hy k6
   rw [k6]; exact hy
 ·exact ⟨hr.fr.os,hr.fr.tape,hr.fr.output,hr.fr.size,fun q hq hc=>hsame q hq fun hl=>hc (hLn q hl)⟩
 ·rintro q (h1|h1|h1)
  ·by_cases hlt:q<W.heap.size
   ·exact .inl (hLn q (hlive' q h1 hlt))
   ·exact .inr ⟨by omega,p9.lt r1 h1⟩
  ·by_cases hlt:q<W.heap.size
   ·rcases hA1' q h1 hlt with h2|h2
    ·exact .inl ((H.cdef q).2 (.inr (.inl h2)))
    ·exact .inl ((H.cdef q).2 (.inl h2))
   ·exact .inr ⟨by omega,(r1.av q (.inl h1)).1⟩
  ·exact .inl ((H.cdef q).2 (.inr (.inr h1)))
end
end Go.Proofs.Ytenchhmcjmjlbaa
/-! The abstract machine,20: the statement that ranges over a function. No program is named here. -/
namespace Go.Proofs.Ytenchhmcjmjlbaa
open Go.RowKit
set_option linter.constructorNameAsVariable false
set_option linter.unusedVariables false
section
variable {S R Y X:Type} {P:Program} {n:Nat}
def lgh (L0:Nat→Prop) (w0:Old) (tmps:Array Value) (l0:List (Nat×AVal)) (ηe:Nat→Value) (Ms:List Nat) (l:Nat) (h:X→List (Nat×ABlk)) (gg:X→Gh) (lp:X→Loop) (st:X):Gh where
 yl:=true
 J C I W:=∃ ηr A1,LoopSt L0 w0 tmps l0 ηe Ms l (h st) (gg st) (lp st) C I W ηr A1
 cl:=fun _ _ _ _ _ ⟨ηr,A1,H⟩ ht hi=>⟨ηr,A1,H.turn ht hi⟩
def H4 (fn:FuncId) (tmps:Array Value) (ps:Array Tmp) (assign bd:Code) (dfb:Nat) (st:LoopState) (pe:Option Code):Loop:={ state:=st,pending:=pe,fn,tmps,params:=ps,assign,body:=bd,defers:=dfb }
def b0f (h:S→List (Nat×ABlk)) (gg:S→Gh) (hx:R→List (Nat×ABlk)) (gx:R→Gh) (code:R→Code):Step S R→Exit→ASt→Prop
 | .next st',e,s=>e=.normal∧s.g=gg st'∧∃ (D N:List Nat) (rn:List (Nat×Nat)),C0 (g8 rn) D N (h st')=true∧LeH s.H D N (g8 rn) (h st')
 | .done r,e,s=>((e=.ret∧code r=.ret)∨∃ id,e=.exit id∧code r=.exit id)∧s.g=gx r∧∃ (D N:List Nat) (rn:List (Nat×Nat)),C0 (g8 rn) D N (hx r)=true∧LeH s.H D N (g8 rn) (hx r)
theorem a51 {h:S→List (Nat×ABlk)} {gg:S→Gh} {hx:R→List (Nat×ABlk)} {gx:R→Gh} {code:R→Code} {st':S} {s:ASt} (hg:s.g=gg st') (D N:List Nat) (rn:List (Nat×Nat)) (ok:C0 (g8 rn) D N (h st')=true) (hl:LeH s.H D N (g8 rn) (h st')) :
  b0f h gg hx gx code (.next st') .normal s:=⟨rfl,hg,D,N,rn,ok,hl⟩
theorem a6Y {h:S→List (Nat×ABlk)} {gg:S→Gh} {hx:R→List (Nat×ABlk)} {gx:R→Gh} {code:R→Code} {r:R} {s:ASt} (hc:code r=.ret) (hg:s.g=gx r) (D N:List Nat) (rn:List (Nat×Nat)) (ok:C0 (g8 rn) D N (hx r)=true) (hl:LeH s.H D N (g8 rn) (hx r)) :
  b0f h gg hx gx code (.done r) .ret s:=⟨.inl ⟨rfl,hc⟩,hg,D,N,rn,ok,hl⟩
theorem Rel.putLoop {L0 A0:Nat→Prop} {w0:Old} {η:Nat→Value} {s:ASt} {a:Act} {w:World} {ds:List Deferred} (h:Rel n ds A0 L0 w0 η s a w) {l:Nat} {lp lp':Loop} (hrd:w0.rd=some (l,lp)) (hl:L0 l):Rel n ds A0 L0 { w0 with rd:=some (l,lp') } η s a (w.putObj l (.loop lp')):=by
 obtain ⟨A1,Ms,k1,k2,k3,k7,k8,k4,k5,k6⟩:=h.gh
 obtain ⟨hU,hlp⟩:=k8 l lp hrd
 have hlt:l<w.heap.size:=(Array.getElem?_eq_some_iff.1 hlp).1
 have hs:w.heap.size≤(w.putObj l (.loop lp')).heap.size:=by simp
 have hc:∀ (q:Nat) ob,w.heap[q]?=some ob→a1V ob=true→(w.putObj l (.loop lp')).heap[q]?=w.heap[q]?:=fun q ob hq hr=>World.putObj_heap_other fun e=>by subst e; rw [hlp] at hq; cases hq; cases hr
 refine ⟨h.size,h.few,h.hd,fun i=>a20 hs hc _ _ (h.tmp i),a4y hs hc h.hp,⟨h.fr.os,h.fr.tape,h.fr.output,Nat.le_trans h.fr.size hs,fun q hq hn=>?_⟩,h.old,⟨A1,Ms,k1,k2,fun M hM=>⟨(k3 M hM).1,(k3 M hM).2.1,?_⟩,k7,fun q r hq=>?_,k4,?_,k6⟩⟩
 ·rw [World.putObj_heap_other (fun e=>hn (by rw [e]; exact hl))]; exact h.fr.heap q hq hn
 ·rw [World.putObj_heap_other (fun e=>by subst e; rw [(k3 M hM).2.2] at hlp; cases hlp)]; exact (k3 M hM).2.2
 ·cases hq
  exact ⟨hU,World.putObj_heap_same hlt⟩
 ·exact s.g.cl _ _ _ _ _ k5 ⟨rfl,rfl,rfl,hs,fun q _ hq=>World.putObj_heap_other fun e=>hq (.inr (.inl (by rw [e]; exact hU)))⟩ fun q hq=>.inl hq
variable {L0:Nat→Prop} {w0:Old} {tmps:Array Value} {l0:List (Nat×AVal)} {ηe:Nat→Value} {Ms:List Nat} {l:Nat} {enc:Y→List AVal} {bodyP:Y→S→Option (Step S R)}
 {h:S→List (Nat×ABlk)} {gg:S→Gh} {hx:R→List (Nat×ABlk)} {gx:R→Gh} {code:R→Code} {ps:Array Tmp} {assign bd:Code} {fnid:FuncId} {dfb:Nat}
theorem a5f (hn:tmps.size=n) (hfew:n≤1000)
  (henc:∀ y,(enc y).length=ps.size) (hno:∀ y b,AVal.hasL (enc y) b=false) (hpl:∀ p∈ps.toList,p<n)
  (hyl:∀ st st',(gg st).yl=(gg st').yl) (hylx:∀ st r,(gx r).yl=(gg st).yl)
  (hid:∀ i b,(fr l0 i).has b=true→N2 b∧(∀ st,(b8 (h st) b).isSome=true)∧∀ r,(b8 (hx r) b).isSome=true)
  (hround:∀ y st x,bodyP y st=some x→AW P (some l) n assign (fun e s1=>e=.normal∧AW P (some l) n bd (b0f h gg hx gx code x) s1) ⟨fr (a8q (ps.toList.zip (enc y)) l0),b8 (h st),gg st⟩) :
  a5J P l enc bodyP (lgh L0 w0 tmps l0 ηe Ms l h gg fun _=>H4 fnid tmps ps assign bd dfb .ready none) (lgh L0 w0 tmps l0 ηe Ms l hx gx fun r=>H4 fnid tmps ps assign bd dfb .done (some (code r))):=by
 rintro y st x hxe η A I w us ⟨ηr,A1,H⟩ hA hI hv
 have hsub:∀ q,Av (AR w0 Ms l A1 I) ηr (b8 (h st)) q→A q∨I q:=by
  rintro q ((h1|h1|h1|h1|h1)|h1)
  ·exact .inl ((H.cdef q).2 (.inr (.inl h1)))
  ·exact .inl ((H.cdef q).2 (.inr (.inr (.inl h1))))
  ·exact .inl ((H.cdef q).2 (.inr (.inr (.inr (.inl h1)))))
  ·exact .inr h1
  ·exact .inl ((H.cdef q).2 (.inr (.inr (.inr (.inr h1)))))
  ·exact .inl ((H.cdef q).2 (.inl h1))
 have hv':d5 ηr w (Av (AR w0 Ms l A1 I) ηr (b8 (h st))) (enc y) us.toList :=
  d5.step ⟨Nat.le_refl _,fun _ _ _=>rfl,fun q _ hq=>hsub q hq⟩ _ _ (fun b hb=>by rw [hno y b] at hb; cases hb) hv
 have hus:us.size=ps.size:=by
  have:=hv.length
  rw [henc y] at this
  simpa using this.symm
 have hlt:l<w.heap.size:=(Array.getElem?_eq_some_iff.1 H.rcd).1
 refine ⟨_,_,_,_,run_yield (P:=P) (args:=us) H.rcd hus,?_⟩
 have hfold:(((H4 fnid tmps ps assign bd dfb .ready none).params.zip us).foldl (fun tmps (t,a)=>tmps.setIfInBounds t a) (H4 fnid tmps ps assign bd dfb .ready none).tmps)=(ps.toList.zip us.toList).foldl (fun t (q:Nat×Value)=>t.setIfInBounds q.1 q.2) tmps:=by
  show (ps.zip us).foldl _ tmps=_
  rw [← Array.foldl_toList,Array.toList_zip]
 rw [hfold]
 have hrel:=H.toRel (n:=n) hn hfew (ps:=ps.toList) (ys:=enc y) (us:=us.toList) (by rw [henc y]; simp) hpl hv'
 refine roundIn_of_wpIn trivial (wpIn_mono (hround y st x hxe 0 [] _ _ _ ηr _ w rfl hrel) ?_)
 rintro e a1 w1 ⟨A0',η',s1,⟨rfl,hbody⟩,hr1⟩
 have hrd1:(a1k w0 w ηe A1 I Ms l (H4 fnid tmps ps assign bd dfb .ready none)).rd=some (l,H4 fnid tmps ps assign bd dfb .ready none):=rfl
 obtain ⟨_,_,_,_,_,_,hk8,_⟩:=hr1.gh
 have hl1:=(hk8 l _ hrd1).2
 have hbeg:=run_beginRound (P:=P) hl1 rfl
 refine ⟨_,hbeg,?_⟩
 have hr2:=hr1.putLoop hrd1 (lp':=H4 fnid tmps ps assign bd dfb .busy none) (.inr (.inr rfl))
 refine wpIn_mono (hbody 0 [] _ _ _ η' _ _ rfl hr2) ?_
 rintro e a2 w2 ⟨A0'',η2,s2,hQ,hr3⟩
 have hr3':Rel n [] A0'' (a2z ηr (h st) (gg st) A1 l) (a1k w0 w ηe A1 I Ms l (H4 fnid tmps ps assign bd dfb .busy none)) η2 s2 a2 w2:=hr3
 have hl3:=(show w2.heap[l]?=some (.loop (H4 fnid tmps ps assign bd dfb .busy none)) from by obtain ⟨_,_,_,_,_,_,hk8,_⟩:=hr3'.gh; exact (hk8 l _ rfl).2)
 cases x with
 | next st' =>
  obtain ⟨rfl,hg,D,N,rn,ok,hle⟩:=hQ
  obtain ⟨C',ηr',A1',H',ht,hC'⟩:=H.ofRel hr3' ok hle (by rw [hg]; exact hyl _ _) (fun i b hb=>⟨(hid i b hb).1,(hid i b hb).2.1 st,(hid i b hb).2.1 st'⟩)
  have hend:=run_endRound (P:=P) none hl3
  refine ⟨_,_,hend,ht.trans ⟨rfl,rfl,rfl,by simp,fun q hq hn=>World.putObj_heap_other fun e=>hn ((H.cdef q).2 (.inr (.inr (.inr (.inr e)))))⟩,C',fun q hq=>by simpa using hC' q hq,rfl,ηr',A1',?_⟩
  rw [← hg]
  exact H'.putl _
 | done r =>
  obtain ⟨hcode,hg,D,N,rn,ok,hle⟩:=hQ
  obtain ⟨C',ηr',A1',H',ht,hC'⟩:=H.ofRel hr3' ok hle (by rw [hg]; exact hylx _ _) (fun i b hb=>⟨(hid i b hb).1,(hid i b hb).2.1 st,(hid i b hb).2.2 r⟩)
  have hend:=run_endRound (P:=P) (some (code r)) hl3
  have fin:Turns A w (w2.putObj l (.loop (H4 fnid tmps ps assign bd dfb .done (some (code r)))))∧∃ A':Nat→Prop,(∀ q,A' q→A q∨(w.heap.size≤q∧q<(w2.putObj l (.loop (H4 fnid tmps ps assign bd dfb .done (some (code r))))).heap.size)) ∧
    Ending.returned (.bool false)=.returned (.bool false)∧(lgh L0 w0 tmps l0 ηe Ms l hx gx (fun r=>H4 fnid tmps ps assign bd dfb .done (some (code r))) r).J A' I (w2.putObj l (.loop (H4 fnid tmps ps assign bd dfb .done (some (code r))))):=by
   refine ⟨ht.trans ⟨rfl,rfl,rfl,by simp,fun q hq hn=>World.putObj_heap_other fun e=>hn ((H.cdef q).2 (.inr (.inr (.inr (.inr e)))))⟩,C',fun q hq=>by simpa using hC' q hq,rfl,ηr',A1',?_⟩
   rw [← hg]
   exact H'.putl _
  rcases hcode with ⟨rfl,hc⟩|⟨id,rfl,hc⟩
  ·exact ⟨.bool false,w2.putObj l (.loop (H4 fnid tmps ps assign bd dfb .done (some (code r)))),by rw [← hc]; exact hend,fin⟩
  ·exact ⟨.bool false,w2.putObj l (.loop (H4 fnid tmps ps assign bd dfb .done (some (code r)))),by rw [← hc]; exact hend,fin⟩
end
end Go.Proofs.Ytenchhmcjmjlbaa
/-! The abstract machine,21: ranges over functions,whole. No program is named here. -/
namespace Go.Proofs.Ytenchhmcjmjlbaa
open Go.RowKit
set_option linter.constructorNameAsVariable false
set_option linter.unusedVariables false
mutual
theorem a6T {η:Nat→Value} {w:World} {A:Nat→Prop} {f:Nat→Nat}:∀ (x:AVal) (v:Value),d9 η w A (x.ren f) v→d9 (fun b=>η (f b)) w A x v
 | .un,v,h=>by unfold d9; trivial
 | .int _ _,v,h=>by unfold AVal.ren at h; unfold d9 at *; exact h
 | .bool _,v,h=>by unfold AVal.ren at h; unfold d9 at *; exact h
 | .sl t xs,v,h=>by unfold AVal.ren at h; unfold d9 at *; exact h
 | .cut t xs,v,h=>by unfold AVal.ren at h; unfold d9 at *; exact h
 | .dp t x o,v,h=>by unfold AVal.ren at h; unfold d9 at *; exact h
 | .cv _,v,h=>by unfold AVal.ren at h; unfold d9 at *; exact h
 | .own b,v,h=>by unfold AVal.ren at h; unfold d9 at *; exact h
 | .bp b o,v,h=>by unfold AVal.ren at h; unfold d9 at *; exact h
 | .ap b z i o,v,h=>by unfold AVal.ren at h; unfold d9 at *; exact h
 | .vw b z i o,v,h=>by unfold AVal.ren at h; unfold d9 at *; exact h
 | .one,v,h=>by unfold AVal.ren at h; unfold d9 at *; exact h
 | .agg l,v,h=>by
  unfold AVal.ren at h
  unfold d9 at *
  obtain ⟨vs,e,hl⟩:=h
  exact ⟨vs,e,T9 l _ hl⟩
 | .tup l,v,h=>by
  unfold AVal.ren at h
  unfold d9 at *
  obtain ⟨vs,e,hl⟩:=h
  exact ⟨vs,e,T9 l _ hl⟩
 | .fn g p c,v,h=>by
  unfold AVal.ren at h
  unfold d9 at *
  obtain ⟨ps,cs,e,hp,hc⟩:=h
  exact ⟨ps,cs,e,T9 p _ hp,T9 c _ hc⟩
theorem T9 {η:Nat→Value} {w:World} {A:Nat→Prop} {f:Nat→Nat}:∀ (l:List AVal) (vs:List Value),d5 η w A (AVal.renL f l) vs→d5 (fun b=>η (f b)) w A l vs
 | [],vs,h=>by unfold AVal.renL at h; unfold d5 at *; exact h
 | x::l,vs,h=>by
  unfold AVal.renL at h
  unfold d5 at *
  obtain ⟨u,us,e,hx,hl⟩:=h
  exact ⟨u,us,e,a6T x u hx,T9 l us hl⟩
end
mutual
theorem b0k {f:Nat→Nat}:∀ (x:AVal) {b:Nat},b∈(x.ren f).ids→∃ b0∈x.ids,b=f b0
 | .un,b,h=>by simp [AVal.ren,AVal.ids] at h
 | .int _ _,b,h=>by simp [AVal.ren,AVal.ids] at h
 | .bool _,b,h=>by simp [AVal.ren,AVal.ids] at h
 | .sl t xs,b,h=>by simp [AVal.ren,AVal.ids] at h
 | .cut t xs,b,h=>by simp [AVal.ren,AVal.ids] at h
 | .dp t x o,b,h=>by simp [AVal.ren,AVal.ids] at h
 | .cv _,b,h=>by simp [AVal.ren,AVal.ids] at h
 | .own c,b,h=>by simp only [AVal.ren,AVal.ids,List.mem_singleton] at h; exact ⟨c,by simp [AVal.ids],h⟩
 | .bp c o,b,h=>by simp only [AVal.ren,AVal.ids,List.mem_singleton] at h; exact ⟨c,by simp [AVal.ids],h⟩
 | .ap c z i o,b,h=>by simp only [AVal.ren,AVal.ids,List.mem_singleton] at h; exact ⟨c,by simp [AVal.ids],h⟩
 | .vw c z i o,b,h=>by simp only [AVal.ren,AVal.ids,List.mem_singleton] at h; exact ⟨c,by simp [AVal.ids],h⟩
 | .one,b,h=>by simp [AVal.ren,AVal.ids] at h
 | .agg l,b,h=>by
  simp only [AVal.ren,AVal.ids] at h ⊢
  exact a2E l h
 | .tup l,b,h=>by
  simp only [AVal.ren,AVal.ids] at h ⊢
  exact a2E l h
 | .fn g p c,b,h=>by
  simp only [AVal.ren,AVal.ids] at h ⊢
  rcases List.mem_append.1 h with h|h
  ·obtain ⟨b0,h1,h2⟩:=a2E p h; exact ⟨b0,List.mem_append_left _ h1,h2⟩
  ·obtain ⟨b0,h1,h2⟩:=a2E c h; exact ⟨b0,List.mem_append_right _ h1,h2⟩
theorem a2E {f:Nat→Nat}:∀ (l:List AVal) {b:Nat},b∈AVal.idsL (AVal.renL f l)→∃ b0∈AVal.idsL l,b=f b0
 | [],b,h=>by simp [AVal.renL,AVal.idsL] at h
 | x::l,b,h=>by
  simp only [AVal.renL,AVal.idsL] at h ⊢
  rcases List.mem_append.1 h with h|h
  ·obtain ⟨b0,h1,h2⟩:=b0k x h; exact ⟨b0,List.mem_append_left _ h1,h2⟩
  ·obtain ⟨b0,h1,h2⟩:=a2E l h; exact ⟨b0,List.mem_append_right _ h1,h2⟩
end
theorem b0E {η:Nat→Value} {w:World} {A:Nat→Prop} {f:Nat→Nat} {B:ABlk} {h:Value} (hr:q6 η w A (B.ren f) h):q6 (fun b=>η (f b)) w A B h:=by
 cases B with
 | box ty cs =>
  obtain ⟨g,vs,e,hw,hc⟩:=hr
  exact ⟨g,vs,e,hw,T9 cs _ hc⟩
 | obx ty cs =>
  have hlen:(AVal.renL f cs).length=cs.length:=a56 f cs
  rcases hr with ⟨hn,hn2⟩|⟨g,cap,vs,e1,hw,h1,h2,h3,h4⟩
  ·exact .inl ⟨List.length_eq_zero_iff.1 (by rw [← hlen,hn]; rfl),hn2⟩
  ·rw [hlen] at e1 h1 h4
   exact .inr ⟨g,cap,vs,e1,hw,h1,h2,h3,T9 cs _ h4⟩
 | arr e t xs=>exact hr
 | imm t xs=>exact hr
 | map ak ae kt vt xs=>exact hr
def a7L (f:Nat→Nat):List (Nat×AVal)→List (Nat×AVal)
 | []=>[]
 | (i,x)::r=>(i,x.ren f)::a7L f r
def a9P:List (Nat×AVal)→List Nat
 | []=>[]
 | (_,x)::r=>x.ids++a9P r
theorem a5D (f:Nat→Nat):∀ (l:List (Nat×AVal)) (i:Nat),fr (a7L f l) i=(fr l i).ren f
 | [],i=>by simp [a7L,fr,AVal.ren]
 | (j,x)::r,i=>by
  unfold a7L fr
  split
  ·rfl
  ·exact a5D f r i
theorem a5B:∀ {l:List (Nat×AVal)} {i b:Nat},b∈(fr l i).ids→b∈a9P l
 | [],i,b,h=>by simp [fr,AVal.ids] at h
 | (j,x)::r,i,b,h=>by
  unfold fr at h
  unfold a9P
  split at h
  ·exact List.mem_append_left _ h
  ·exact List.mem_append_right _ (a5B h)
theorem a5z {f:Nat→Nat}:∀ {h:List (Nat×ABlk)},(∀ c∈o5 h,∀ c'∈o5 h,f c=f c'→c=c')→∀ {c:Nat} {B:ABlk},b8 h c=some B→b8 (B6 f h) (f c)=some (B.ren f)
 | [],_,c,B,hc=>by cases hc
 | (d,E)::r,hi,c,B,hc=>by
  have hck:=J1 hc
  unfold b8 at hc
  unfold B6 b8
  split at hc
  ·rename_i e; subst e; injection hc with hc; subst hc; rw [if_pos rfl]
  ·rename_i e
   rw [if_neg (fun e2=>e (hi c hck d (by simp [o5]) e2))]
   exact a5z (fun x hx y hy=>hi x (by simp [o5,hx]) y (by simp [o5,hy])) hc
theorem a8y {f:Nat→Nat} {h:List (Nat×ABlk)} {b:Nat} {B:ABlk} (hb:b8 (B6 f h) b=some B):∃ c∈o5 h,b=f c:=by
 induction h with
 | nil=>cases hb
 | cons p r ih =>
  obtain ⟨d,E⟩:=p
  unfold B6 b8 at hb
  split at hb
  ·rename_i e; exact ⟨d,by simp [o5],e⟩
  ·obtain ⟨c,hc,e⟩:=ih hb; exact ⟨c,by simp [o5,hc],e⟩
def a7a (r r':List (Nat×Nat)) (ns:List Nat):Bool:=ns.all fun c=>g8 r' (g8 r c)==c
theorem F0 {r r':List (Nat×Nat)} {ns:List Nat} (h:a7a r r' ns=true) {c:Nat} (hc:c∈ns):g8 r' (g8 r c)=c:=by
 have:=List.all_eq_true.1 h c hc
 simpa using this
def b0h (r r':List (Nat×Nat)) (ks:List Nat) (ns:List Nat):Bool:=ns.all fun c=>g8 r' (g8 r c)==c&&(if 1000≤c∧c<2000 then g8 r c==c&&g8 r' c==c&&ks.contains c else true)
theorem a4B {r r':List (Nat×Nat)} {ks ns:List Nat} (h:b0h r r' ks ns=true) {c:Nat} (hc:c∈ns):g8 r' (g8 r c)=c∧(N2 c→g8 r c=c∧g8 r' c=c∧c∈ks):=by
 have:=List.all_eq_true.1 h c hc
 simp only [Bool.and_eq_true,beq_iff_eq] at this
 refine ⟨this.1,fun hh=>?_⟩
 have h2:=this.2
 rw [if_pos (show 1000≤c∧c<2000 from hh)] at h2
 simp only [Bool.and_eq_true,beq_iff_eq,List.contains_iff_mem] at h2
 exact ⟨h2.1.1,h2.1.2,h2.2⟩
section
variable {n:Nat} {ds:List Deferred} {L0:Nat→Prop} {w0:Old} {tmps:Array Value} {l0:List (Nat×AVal)} {ηe:Nat→Value} {Ms:List Nat} {l:Nat} {g:Gh} {lp:Loop} {C I:Nat→Prop} {W:World} {ηr:Nat→Value} {A1:Nat→Prop}
theorem a6Z {A A':Nat→Prop} {η:Nat→Value} {H:m0} {w w':World} (h:RelH A η H w) {hh:List (Nat×ABlk)} (hs:∀ b B,b8 hh b=some B→H b=some B) (hb:Below w.heap.size w w') {r r':List (Nat×Nat)} (hr:a7a r r' (o5 hh++a1a hh)=true)
  (hmem:∀ b B,b8 hh b=some B→(b,B)∈hh)
  (hA:∀ q,q<w.heap.size→A' q→Av A η H q) (hA2:∀ q,A' q→q<w'.heap.size∧∀ b B,b8 hh b=some B→B.mut=true→hblk (η b)≠some q) :
  RelH A' (fun b=>η (g8 r' b)) (b8 (B6 (g8 r) hh)) w'∧(∀ q,p9 (fun b=>η (g8 r' b)) (b8 (B6 (g8 r) hh)) q→∃ b B,b8 hh b=some B∧B.mut=true∧hblk (η b)=some q) ∧
   Keeps (Av A η H) (Av A' (fun b=>η (g8 r' b)) (b8 (B6 (g8 r) hh))) w w':=by
 have hget:∀ b B,b8 (B6 (g8 r) hh) b=some B→∃ c B0,b8 hh c=some B0∧b=g8 r c∧B=B0.ren (g8 r):=by
  intro b B hbb
  obtain ⟨c,hc,e⟩:=a8y hbb
  have hinj:∀ c∈o5 hh,∀ c'∈o5 hh,g8 r c=g8 r c'→c=c':=fun c hc c' hc' e=>by
   rw [← F0 hr (List.mem_append_left _ hc),← F0 hr (List.mem_append_left _ hc'),e]
  have hex:∃ B0,b8 hh c=some B0:=by
   have:∀ {l:List (Nat×ABlk)},c∈o5 l→∃ B0,b8 l c=some B0:=by
    intro l
    induction l with
    | nil=>intro h; simp [o5] at h
    | cons p l ih =>
     obtain ⟨d,E⟩:=p
     intro h
     unfold b8
     by_cases e:c=d
     ·exact ⟨E,if_pos e⟩
     ·rw [if_neg e]
      refine ih ?_
      unfold o5 at h
      exact (List.mem_cons.1 h).resolve_left e
   exact this hc
  obtain ⟨B0,hB0⟩:=hex
  have:=a5z hinj hB0
  rw [← e,hbb] at this
  injection this with this
  exact ⟨c,B0,hB0,e,this⟩
 have hlive:∀ q,p9 (fun b=>η (g8 r' b)) (b8 (B6 (g8 r) hh)) q→∃ b B,b8 hh b=some B∧B.mut=true∧hblk (η b)=some q:=by
  rintro q ⟨b,B,h1,h2,h3⟩
  obtain ⟨c,B0,e1,rfl,rfl⟩:=hget b B h1
  rw [a0Y] at h2
  simp only [F0 hr (List.mem_append_left _ (J1 e1))] at h3
  exact ⟨c,B0,e1,h2,h3⟩
 have k:Keeps (Av A η H) (Av A' (fun b=>η (g8 r' b)) (b8 (B6 (g8 r) hh))) w w':=by
  refine ⟨hb.size,fun q hq _=>hb.block q hq,fun q hq hc=>?_⟩
  rcases hc with hc|hc
  ·exact hA q hq hc
  ·obtain ⟨b,B,h1,h2,h3⟩:=hlive q hc
   exact .inr ⟨b,B,hs b B h1,h2,h3⟩
 refine ⟨⟨fun b B hbb=>?_,fun b b' B B' q hb1 hb2 hm hm' hq hq'=>?_,fun q hq=>⟨(hA2 q hq).1,fun hl=>?_⟩⟩,hlive,k⟩
 ·obtain ⟨c,B0,e1,rfl,rfl⟩:=hget b B hbb
  simp only [F0 hr (List.mem_append_left _ (J1 e1))]
  have h1:=q6.step (K:=[]) (η':=η) (η:=η) k (fun _ _=>rfl) (B:=B0) (fun q hm hq=>hb.block q (p9.lt h ⟨c,B0,hs c B0 e1,hm,hq⟩)) (h.blk c B0 (hs c B0 e1))
  rw [w6] at h1
  refine a5R (A:=Av A' (fun b=>η (g8 r' b)) (b8 (B6 (g8 r) hh))) (fun _ h=>h) (fun ty cs e b hb=>?_) h1
  rcases e with e|e
  ·subst e
   simp only [F0 hr (List.mem_append_right _ (a1r (.inl (hmem _ _ e1)) b hb))]
  ·subst e
   simp only [F0 hr (List.mem_append_right _ (a1r (.inr (hmem _ _ e1)) b hb))]
 ·obtain ⟨c,B0,e1,rfl,rfl⟩:=hget b B hb1
  obtain ⟨c',B0',e1',rfl,rfl⟩:=hget b' B' hb2
  rw [a0Y] at hm hm'
  simp only [F0 hr (List.mem_append_left _ (J1 e1))] at hq
  simp only [F0 hr (List.mem_append_left _ (J1 e1'))] at hq'
  rw [h.inj c c' B0 B0' q (hs _ _ e1) (hs _ _ e1') hm hm' hq hq']
 ·obtain ⟨b,B,h1,h2,h3⟩:=hlive q hl
  exact (hA2 q hq).2 b B h1 h2 h3
theorem LoopSt.out {hh:List (Nat×ABlk)} {r r':List (Nat×Nat)} {ks:List Nat} (hn:tmps.size=n) (hfew:n≤1000) (H:LoopSt L0 w0 tmps (a7L (g8 r) l0) ηe Ms l (B6 (g8 r) hh) g lp C I W ηr A1) (hnd:Ms.Nodup)
  (hout:b0h r r' ks (o5 hh)=true) (hks:∀ c∈ks,N2 c→g8 r' c=c→ηe c=w0.ηh c) :
  Rel n ds (fun q=>A1 q∨w0.U q∨q∈Ms) L0 w0 (fun b=>ηr (g8 r b)) ⟨fr l0,b8 hh,g⟩ { tmps:=tmps,defers:=Ms.map a8I++ds } W:=by
 have hinj:∀ c∈o5 hh,∀ c'∈o5 hh,g8 r c=g8 r c'→c=c':=fun c hc c' hc' e=>by
  rw [← (a4B hout hc).1,← (a4B hout hc').1,e]
 have hat:∀ {c B},b8 hh c=some B→b8 (B6 (g8 r) hh) (g8 r c)=some (B.ren (g8 r)):=fun hc=>a5z hinj hc
 have hlive:∀ q,p9 (fun b=>ηr (g8 r b)) (b8 hh) q→p9 ηr (b8 (B6 (g8 r) hh)) q:=fun q ⟨b,B,h1,h2,h3⟩=>⟨_,_,hat h1,by rw [a0Y]; exact h2,h3⟩
 have hsub:∀ q,(A1 q∨w0.U q∨q∈Ms)→AR w0 Ms l A1 I q:=fun q hq=>by
  rcases hq with h1|h1|h1
  ·exact .inl h1
  ·exact .inr (.inl h1)
  ·exact .inr (.inr (.inl h1))
 have hav:∀ q,Av (fun q=>A1 q∨w0.U q∨q∈Ms) (fun b=>ηr (g8 r b)) (b8 hh) q→Av (AR w0 Ms l A1 I) ηr (b8 (B6 (g8 r) hh)) q:=fun q hq=>hq.imp (hsub q) (hlive q)
 have k:Keeps (Av (AR w0 Ms l A1 I) ηr (b8 (B6 (g8 r) hh))) (Av (fun q=>A1 q∨w0.U q∨q∈Ms) (fun b=>ηr (g8 r b)) (b8 hh)) W W:=⟨Nat.le_refl _,fun _ _ _=>rfl,fun q _ hq=>hav q hq⟩
 refine ⟨hn,hfew,fun b hb hs=>?_,fun i=>?_,⟨fun b B hb=>?_,fun b b' B B' q hb hb' hm hm' hq hq'=>?_,fun q hq=>⟨(H.hp.av q (hsub q hq)).1,fun hl=>(H.hp.av q (hsub q hq)).2 (hlive q hl)⟩⟩,H.frm,fun q hq hlt=>H.old q (hlive q hq) hlt,⟨A1,Ms,rfl,hnd,fun M hM=>⟨(H.mks M hM).1,fun hc=>(H.dis M hc).2.1 hM,(H.mks M hM).2⟩,fun q hq=>(H.dis q hq).1,H.rds,fun _=>Iff.rfl,?_,H.yl⟩⟩
 ·obtain ⟨B,hB⟩:=Option.isSome_iff_exists.1 hs
  have hB2:=hat hB
  obtain ⟨h1,h2⟩:=a4B hout (J1 hB)
  obtain ⟨h3,h4,h5⟩:=h2 hb
  have h6:=H.hd b hb (by rw [h3] at hB2; rw [hB2]; rfl)
  show ηr (g8 r b)=_
  rw [h3,h6]
  exact hks b h5 hb h4
 ·have:=H.tmp i
  rw [a5D] at this
  have h2:=a6T _ _ this
  exact d9.step k _ _ (fun _ _=>rfl) h2
 ·have h1:=b0E (H.hp.blk _ _ (hat hb))
  have h2:=q6.step (K:=[]) (η':=fun b=>ηr (g8 r b)) (η:=fun b=>ηr (g8 r b)) k (fun _ _=>rfl) (fun _ _ _=>rfl) h1
  rwa [w6] at h2
 ·exact hinj b (J1 hb) b' (J1 hb') (H.hp.inj _ _ _ _ q (hat hb) (hat hb') (by rw [a0Y]; exact hm) (by rw [a0Y]; exact hm') hq hq')
 ·refine g.cl _ _ _ _ _ H.know (Turns.refl _ _) fun q hq=>.inl ?_
  rcases hq with h1|h1|h1
  ·exact .inl (hlive q h1)
  ·exact .inr (.inl h1)
  ·exact .inr (.inr (.inl h1))
end
end Go.Proofs.Ytenchhmcjmjlbaa
/-! The abstract machine,22: ranges over functions: the rule. No program is named here. -/
namespace Go.Proofs.Ytenchhmcjmjlbaa
open Go.RowKit
set_option linter.constructorNameAsVariable false
set_option linter.unusedVariables false
set_option linter.unusedSimpArgs false
def a7U:Exit→Code
 | .ret=>.ret
 | .exit id=>.exit id
 | _=>.skip
def b6a:Exit→Bool
 | .ret=>true
 | .exit _=>true
 | _=>false
def b5D:List (Nat×ABlk)→Bool
 | []=>true
 | (c,_)::r=>!i9 r c&&b5D r
section
variable {S R Y:Type} {P:Program} {n:Nat} {ro:Option Nat} {Q:Exit→ASt→Prop}
theorem AW.rangeF {gop:Operand} {ps:Array Tmp} {assign bd:Code} {gf:FuncId} {prev capv:List AVal} {l0 lc:List (Nat×AVal)} {hI:List (Nat×ABlk)} {h0:S→List (Nat×ABlk)} {gg:S→Gh} {hx0:R→List (Nat×ABlk)} {gx:R→Gh} {ex:R→Exit} {enc:Y→List AVal} {bodyP:Y→S→Option (Step S R)} (st0:S) {r:Sum S R}
  (rI rI' rR rR':List (Nat×Nat)) (hfn:n≤1000)
  (hgop:(ASt.mk (fr lc) (b8 (hI++h0 st0)) (gg st0)).ev gop=.fn (.func gf) prev capv)
  (hIC:IC P gf (B6 (g8 rI) hI) (AVal.renL (g8 rI) prev) (AVal.renL (g8 rI) capv) enc bodyP st0 r)
  (hl0:a81 (ASt.mk (fr lc) (b8 (hI++h0 st0)) (gg st0)) l0)
  (hdis:((o5 hI).all fun c=>!i9 (h0 st0) c)=true)
  (hrI:a7a rI rI' (o5 hI++a1a hI++(AVal.idsL prev++AVal.idsL capv))=true) (hrR:a7a rR rR' (o5 (h0 st0)++a1a (h0 st0)++a9P l0)=true)
  (hk:∀ st,o5 (h0 st)=o5 (h0 st0)) (hout:b0h rR rR' (o5 (h0 st0)) (o5 (h0 st0))=true) (houtx:∀ x,b0h rR rR' (o5 (h0 st0)) (o5 (hx0 x))=true)
  (hid:((a9P l0).all fun b=>decide (1000≤g8 rR b)&&decide (g8 rR b<2000)&&i9 (h0 st0) b)=true) (hidx:∀ x,((a9P l0).all fun b=>i9 (hx0 x) b)=true)
  (hex:∀ x,b6a (ex x)=true)
  (henc:∀ y,(enc y).length=ps.size) (hno:∀ y,AVal.idsL (enc y)=[]) (hpl:(ps.toList.all fun p=>decide (p<n))=true)
  (hyl:∀ st st',(gg st).yl=(gg st').yl) (hylx:∀ st x,(gx x).yl=(gg st).yl)
  (hround:∀ l y st x,bodyP y st=some x→AW P (some l) n assign (fun e s1=>e=.normal∧AW P (some l) n bd (b0f (fun st=>B6 (g8 rR) (h0 st)) gg (fun x=>B6 (g8 rR) (hx0 x)) gx (fun x=>a7U (ex x)) x) s1) ⟨fr (a8q (ps.toList.zip (enc y)) (a7L (g8 rR) l0)),b8 (B6 (g8 rR) (h0 st)),gg st⟩)
  (hQ:match (generalizing:=false) r with
   | .inl st=>Q .normal ⟨fr l0,b8 (h0 st),gg st⟩
   | .inr x=>Q (ex x) ⟨fr l0,b8 (hx0 x),gx x⟩):AW P ro n (.rangeFunc gop ps assign bd) Q ⟨fr lc,b8 (hI++h0 st0),gg st0⟩:=by
 intro m ds A0 L0 w0 η a w hq0 hr
 obtain ⟨A1,Ms,k1,k2,k3,k7,k8,k4,k5,k6⟩:=hr.gh
 have hev:=hr.ev gop
 rw [hgop] at hev
 unfold d9 at hev
 obtain ⟨pv,cv,hgv,hpv,hcv⟩:=hev
 -- the two parts of the memory
 have hH:∀ b,(ASt.mk (fr lc) (b8 (hI++h0 st0)) (gg st0)).H b=match b8 hI b with|some B=>some B|none=>b8 (h0 st0) b:=fun b=>a27 _ _ _
 have hHI:∀ b B,b8 hI b=some B→(ASt.mk (fr lc) (b8 (hI++h0 st0)) (gg st0)).H b=some B:=fun b B hb=>by rw [hH,hb]
 have hHR:∀ b B,b8 (h0 st0) b=some B→(ASt.mk (fr lc) (b8 (hI++h0 st0)) (gg st0)).H b=some B:=fun b B hb=>by
  rw [hH]
  cases hc:b8 hI b with
  | none=>exact hb
  | some B' =>
   have:=List.all_eq_true.1 hdis b (J1 hc)
   rw [m5.2 ⟨B,hb⟩] at this
   cases this
 have hnd:∀ b B b' B' q,b8 hI b=some B→b8 (h0 st0) b'=some B'→B.mut=true→B'.mut=true→hblk (η b)=some q→hblk (η b')=some q→False:=fun b B b' B' q hb hb' hm hm' hq hq'=>by
  have:=hr.hp.inj b b' B B' q (hHI b B hb) (hHR b' B' hb') hm hm' hq hq'
  subst this
  have h2:=List.all_eq_true.1 hdis b (J1 hb)
  rw [m5.2 ⟨B',hb'⟩] at h2
  cases h2
 have hA1:∀ q,A1 q→A0 q:=fun q hq=>(k4 q).2 (.inl hq)
 have hAU:∀ q,w0.U q→A0 q:=fun q hq=>(k4 q).2 (.inr (.inl hq))
 have hAM:∀ q∈Ms,A0 q:=fun q hq=>(k4 q).2 (.inr (.inr hq))
 have hiM:∀ {b B q},(ASt.mk (fr lc) (b8 (hI++h0 st0)) (gg st0)).H b=some B→B.mut=true→hblk (η b)=some q→q<w.heap.size∧¬ A0 q:=fun {b B q} h1 h2 h3=>⟨p9.lt hr.hp ⟨b,B,h1,h2,h3⟩,fun hc=>(hr.hp.av q hc).2 ⟨b,B,h1,h2,h3⟩⟩
 have hrI1:a7a rI rI' (o5 hI++a1a hI)=true:=List.all_eq_true.2 fun c hc=>List.all_eq_true.1 hrI c (List.mem_append_left _ hc)
 have hrR1:a7a rR rR' (o5 (h0 st0)++a1a (h0 st0))=true:=List.all_eq_true.2 fun c hc=>List.all_eq_true.1 hrR c (List.mem_append_left _ hc)
 -- whatever blocks the statement lays
 have core:∀ (l:Nat) (Ms':List Nat) (W1:World) (fnid:FuncId) (dfb:Nat),Below w.heap.size w W1→w.heap.size≤l→W1.heap[l]?=some (.loop (H4 fnid a.tmps ps assign bd dfb .ready none))→l ∉ Ms'→Ms'.Nodup →
   (∀ M∈Ms',M∈Ms∨(w.heap.size≤M∧W1.heap[M]?=some (.deferred (some []))))→(∀ M∈Ms,M∈Ms')→
   CallsIn (fen ro) (m - 1) P gf (pv++#[.func (.yield l) #[] #[]]++cv) W1 (rangePost (fen ro) m P l (a98 n ds L0 w0 Q) { tmps:=a.tmps,defers:=Ms'.map a8I++ds }):=by
  intro l Ms' W1 fnid dfb hB hl hrec hlM hMn hM' hMs
  have hltl:l<W1.heap.size:=(Array.getElem?_eq_some_iff.1 hrec).1
  have hM1:∀ M∈Ms',w0.heap.size≤M∧W1.heap[M]?=some (.deferred (some [])):=fun M hM=>by
   rcases hM' M hM with h1|h1
   ·exact ⟨(k3 M h1).1,(hB.block M (Array.getElem?_eq_some_iff.1 (k3 M h1).2.2).1).trans (k3 M h1).2.2⟩
   ·exact ⟨Nat.le_trans hr.fr.size h1.1,h1.2⟩
  obtain ⟨LI,hLI⟩:∃ LI:Nat→Prop,LI=p9 (fun b=>η (g8 rI' b)) (b8 (B6 (g8 rI) hI)):=⟨_,rfl⟩
  have hLI1:∀ q,LI q→∃ b B,b8 hI b=some B∧B.mut=true∧hblk (η b)=some q:=by
   rw [hLI]
   rintro q ⟨b,B,h1,h2,h3⟩
   obtain ⟨c,B0,j1,j2,j3⟩:=a57 _ h1
   obtain ⟨c',hc',e⟩:=a8y h1
   have hinj:∀ c∈o5 hI,∀ c'∈o5 hI,g8 rI c=g8 rI c'→c=c':=fun c hc c' hc' e=>by
    rw [← F0 hrI1 (List.mem_append_left _ hc),← F0 hrI1 (List.mem_append_left _ hc'),e]
   have hex2:∀ {l:List (Nat×ABlk)},c'∈o5 l→∃ B0,b8 l c'=some B0:=by
    intro l
    induction l with
    | nil=>intro h; simp [o5] at h
    | cons p l ih =>
     obtain ⟨d,E⟩:=p
     intro h
     unfold b8
     by_cases e:c'=d
     ·exact ⟨E,if_pos e⟩
     ·rw [if_neg e]
      refine ih ?_
      unfold o5 at h
      exact (List.mem_cons.1 h).resolve_left e
   obtain ⟨B1,hB1⟩:=hex2 hc'
   have h4:=a5z hinj hB1
   rw [← e,h1] at h4
   injection h4 with h4
   subst h4
   rw [a0Y] at h2
   subst e
   simp only [F0 hrI1 (List.mem_append_left _ hc')] at h3
   exact ⟨c',B1,hB1,h2,h3⟩
  have hLIw:∀ q,LI q→q<w.heap.size∧¬ A0 q:=fun q hq=>by
   obtain ⟨b,B,h1,h2,h3⟩:=hLI1 q hq
   exact hiM (hHI b B h1) h2 h3
  have hLIlive:∀ q,LI q→p9 η (ASt.mk (fr lc) (b8 (hI++h0 st0)) (gg st0)).H q:=fun q hq=>by
   obtain ⟨b,B,h1,h2,h3⟩:=hLI1 q hq
   exact ⟨b,B,hHI b B h1,h2,h3⟩
  -- the function's part
  obtain ⟨p1,p2,p3⟩:=a6Z (A':=AR w0 Ms' l A1 LI) (w':=W1) hr.hp (hh:=h0 st0) hHR hB hrR1 (fun b B h=>v6 h) (by
   rintro q hq (h1|h1|h1|h1|h1)
   ·exact .inl (hA1 q h1)
   ·exact .inl (hAU q h1)
   ·rcases hM' q h1 with h2|h2
    ·exact .inl (hAM q h2)
    ·omega
   ·exact .inr (hLIlive q h1)
   ·omega) (by
   intro q hq
   constructor
   ·have:=hB.size
    rcases hq with h1|h1|h1|h1|h1
    ·have:=(hr.hp.av q (hA1 q h1)).1; omega
    ·have:=(hr.hp.av q (hAU q h1)).1; omega
    ·exact (Array.getElem?_eq_some_iff.1 (hM1 q h1).2).1
    ·have:=(hLIw q h1).1; omega
    ·omega
   ·intro b B hb hm hq2
    obtain ⟨j1,j2⟩:=hiM (hHR b B hb) hm hq2
    rcases hq with h1|h1|h1|h1|h1
    ·exact j2 (hA1 q h1)
    ·exact j2 (hAU q h1)
    ·rcases hM' q h1 with h2|h2
     ·exact j2 (hAM q h2)
     ·omega
    ·obtain ⟨b',B',i1,i2,i3⟩:=hLI1 q h1
     exact hnd b' B' b B q i1 hb i2 hm i3 hq2
    ·omega)
  -- the iterator's part
  obtain ⟨q1,q2,q3⟩:=a6Z (A':=fun q=>p9 (fun b=>η (g8 rR' b)) (b8 (B6 (g8 rR) (h0 st0))) q∨A1 q∨w0.U q∨q∈Ms'∨q=l) (w':=W1) hr.hp (hh:=hI) hHI hB hrI1 (fun b B h=>v6 h) (by
   rintro q hq (h1|h1|h1|h1|h1)
   ·obtain ⟨b,B,i1,i2,i3⟩:=p2 q h1
    exact .inr ⟨b,B,hHR b B i1,i2,i3⟩
   ·exact .inl (hA1 q h1)
   ·exact .inl (hAU q h1)
   ·rcases hM' q h1 with h2|h2
    ·exact .inl (hAM q h2)
    ·omega
   ·omega) (by
   intro q hq
   constructor
   ·have:=hB.size
    rcases hq with h1|h1|h1|h1|h1
    ·obtain ⟨b,B,i1,i2,i3⟩:=p2 q h1
     have:=(hiM (hHR b B i1) i2 i3).1; omega
    ·have:=(hr.hp.av q (hA1 q h1)).1; omega
    ·have:=(hr.hp.av q (hAU q h1)).1; omega
    ·exact (Array.getElem?_eq_some_iff.1 (hM1 q h1).2).1
    ·omega
   ·intro b B hb hm hq2
    obtain ⟨j1,j2⟩:=hiM (hHI b B hb) hm hq2
    rcases hq with h1|h1|h1|h1|h1
    ·obtain ⟨b',B',i1,i2,i3⟩:=p2 q h1
     exact hnd b B b' B' q hb i1 hm i2 hq2 i3
    ·exact j2 (hA1 q h1)
    ·exact j2 (hAU q h1)
    ·rcases hM' q h1 with h2|h2
     ·exact j2 (hAM q h2)
     ·omega
    ·omega)
  have hfl:=a4M hl0
  have H0:LoopSt L0 w0 a.tmps (a7L (g8 rR) l0) (fun b=>η (g8 rR' b)) Ms' l (B6 (g8 rR) (h0 st0)) (gg st0) (H4 fnid a.tmps ps assign bd dfb .ready none)
    (fun q=>p9 (fun b=>η (g8 rR' b)) (b8 (B6 (g8 rR) (h0 st0))) q∨A1 q∨w0.U q∨q∈Ms'∨q=l) LI W1 (fun b=>η (g8 rR' b)) A1:=by
   have hfs:=hB.size
   refine ⟨fun q=>Iff.rfl,p1,fun i=>?_,fun _ _ _=>rfl,⟨hB.os.trans hr.fr.os,hB.tape.trans hr.fr.tape,hB.output.trans hr.fr.output,Nat.le_trans hr.fr.size hB.size,fun q hq hn=>(hB.block q (Nat.lt_of_lt_of_le hq hr.fr.size)).trans (hr.fr.heap q hq hn)⟩,
    fun q hq hlt=>?_,fun q hq hlt=>hr.old q (hLIlive q hq) hlt,hM1,fun q hq=>⟨k7 q hq,fun hc=>?_,fun hc=>(hLIw q hc).2 (hA1 q hq),fun hc=>?_⟩,⟨fun hc=>?_,fun M hM hc=>?_,fun q hq hc=>(hLIw q hc).2 (hAU q hq)⟩,hlM,fun hc=>?_,hrec,Nat.le_trans hr.fr.size hl,?_,?_,k6⟩
   ·rw [a5D]
    have ht:=hr.tmp i
    rcases hfl i with h1|h1
    ·rw [h1]; unfold AVal.ren d9; trivial
    ·have h2:=d9.step (η':=η) p3 _ _ (fun _ _=>rfl) ht
     rw [← h1] at h2
     exact a5x _ _ (fun b hb=>by
      show η (g8 rR' (g8 rR b))=η b
      rw [F0 hrR (List.mem_append_right _ (a5B hb))]) h2
   ·obtain ⟨b,B,i1,i2,i3⟩:=p2 q hq
    exact hr.old q ⟨b,B,hHR b B i1,i2,i3⟩ hlt
   ·rcases hM' q hc with h1|h1
    ·exact (k3 q h1).2.1 hq
    ·have:=(hr.hp.av q (hA1 q hq)).1; omega
   ·have:=(hr.hp.av q (hA1 q hq)).1; omega
   ·have:=(hLIw l hc).1; omega
   ·rcases hM' M hM with h1|h1
    ·exact (hLIw M hc).2 (hAM M h1)
    ·have:=(hLIw M hc).1; omega
   ·have:=(hr.hp.av l (hAU l hc)).1; omega
   ·intro q rr hq
    obtain ⟨j1,j2⟩:=k8 q rr hq
    exact ⟨j1,(hB.block q (Array.getElem?_eq_some_iff.1 j2).1).trans j2⟩
   ·refine (gg st0).cl _ _ _ _ _ k5 ⟨hB.os,hB.tape,hB.output,hB.size,fun q hq _=>hB.block q hq⟩ fun q hq=>?_
    rcases hq with h1|h1|h1|h1|h1
    ·obtain ⟨b,B,i1,i2,i3⟩:=p2 q h1
     exact .inl (.inl ⟨b,B,hHR b B i1,i2,i3⟩)
    ·exact .inl (.inr (.inl h1))
    ·rcases hM' q h1 with h2|h2
     ·exact .inl (.inr (.inr h2))
     ·exact .inr ⟨h2.1,(Array.getElem?_eq_some_iff.1 h2.2).1⟩
    ·exact .inl (.inl (hLIlive q h1))
    ·subst h1; exact .inr ⟨hl,hltl⟩
  have hkr:∀ {hh:List (Nat×ABlk)} {b:Nat},i9 hh b=true→(b8 (B6 (g8 rR) hh) (g8 rR b)).isSome=true:=fun hk=>a3X _ hk
  have hkk:∀ {h1 h2:List (Nat×ABlk)} {b:Nat},o5 h1=o5 h2→i9 h1 b=i9 h2 b:=by
   intro h1
   induction h1 with
   | nil=>intro h2 b e; cases h2 with
    | nil=>rfl
    | cons p r=>obtain ⟨d,E⟩:=p; simp [o5] at e
   | cons p r ih=>intro h2 b e; cases h2 with
    | nil=>obtain ⟨d,E⟩:=p; simp [o5] at e
    | cons p2 r2 =>
     obtain ⟨d,E⟩:=p
     obtain ⟨d2,E2⟩:=p2
     simp only [o5,List.cons.injEq] at e
     simp only [i9,e.1,ih e.2]
  have hY:=a5f (P:=P) (n:=n) (L0:=L0) (w0:=w0) (tmps:=a.tmps) (l0:=a7L (g8 rR) l0) (ηe:=fun b=>η (g8 rR' b)) (Ms:=Ms') (l:=l) (enc:=enc) (bodyP:=bodyP) (h:=fun st=>B6 (g8 rR) (h0 st)) (gg:=gg) (hx:=fun x=>B6 (g8 rR) (hx0 x)) (gx:=gx) (code:=fun x=>a7U (ex x)) (ps:=ps) (assign:=assign) (bd:=bd) (fnid:=fnid) (dfb:=dfb) hr.size hfn henc
   (fun y b=>by
    cases hc:AVal.hasL (enc y) b with
    | false=>rfl
    | true =>
     have:=Z1 _ _ hc
     rw [hno y] at this; simp at this) (fun p hp=>by simpa using List.all_eq_true.1 hpl p hp) hyl hylx
   (fun i b hb=>by
    rw [a5D] at hb
    have hmem:=a23 _ _ hb
    obtain ⟨b0,hb0,e⟩:∃ b0∈(fr l0 i).ids,b=g8 rR b0:=b0k _ hmem
    subst e
    have hb1:=List.all_eq_true.1 hid b0 (a5B hb0)
    simp only [Bool.and_eq_true,decide_eq_true_eq] at hb1
    refine ⟨⟨hb1.1.1,hb1.1.2⟩,fun st=>hkr (by rw [hkk (hk st)]; exact hb1.2),fun x=>hkr ?_⟩
    exact List.all_eq_true.1 (hidx x) b0 (a5B hb0)) (hround l)
  have hpv2:d5 (fun b=>η (g8 rI' b)) W1 (Av (fun q=>p9 (fun b=>η (g8 rR' b)) (b8 (B6 (g8 rR) (h0 st0))) q∨A1 q∨w0.U q∨q∈Ms'∨q=l) (fun b=>η (g8 rI' b)) (b8 (B6 (g8 rI) hI))) (AVal.renL (g8 rI) prev) pv.toList :=
   V6 _ _ (fun b hb=>by
    show η (g8 rI' (g8 rI b))=η b
    rw [F0 hrI (List.mem_append_right _ (List.mem_append_left _ hb))]) (d5.step (η':=η) q3 _ _ (fun _ _=>rfl) hpv)
  have hcv2:d5 (fun b=>η (g8 rI' b)) W1 (Av (fun q=>p9 (fun b=>η (g8 rR' b)) (b8 (B6 (g8 rR) (h0 st0))) q∨A1 q∨w0.U q∨q∈Ms'∨q=l) (fun b=>η (g8 rI' b)) (b8 (B6 (g8 rI) hI))) (AVal.renL (g8 rI) capv) cv.toList :=
   V6 _ _ (fun b hb=>by
    show η (g8 rI' (g8 rI b))=η b
    rw [F0 hrI (List.mem_append_right _ (List.mem_append_right _ hb))]) (d5.step (η':=η) q3 _ _ (fun _ _=>rfl) hcv)
  have hcall:=hIC.2 _ _ (fun _=>rfl) (fun _=>rfl) l hY _ _ W1 pv cv q1 hpv2 hcv2 (by
   rw [← hLI]
   exact ⟨_,_,H0⟩)
  refine a88 (m:=0) ((callsIn_wide.2 hcall).mono ?_)
  rintro e w' ⟨⟨v,rfl⟩,C1,I1,_,hJ⟩
  have hks:∀ c∈o5 (h0 st0),N2 c→g8 rR' c=c→η (g8 rR' c)=w0.ηh c:=fun c hc hh e=>by
   rw [e]
   refine hr.hd c hh ?_
   have:∃ B,b8 (h0 st0) c=some B:=m5.1 (by
    have:∀ {l:List (Nat×ABlk)},c∈o5 l→i9 l c=true:=by
     intro l
     induction l with
     | nil=>intro h; simp [o5] at h
     | cons p l ih =>
      obtain ⟨d,E⟩:=p
      intro h
      unfold o5 at h
      unfold i9
      rcases List.mem_cons.1 h with h|h
      ·subst h; simp
      ·rw [ih h]; simp
    exact this hc)
   obtain ⟨B,hB2⟩:=this
   rw [hHR c B hB2]; rfl
  cases r with
  | inl st =>
   obtain ⟨ηr,A2,H⟩:=hJ
   have hend:=run_endLoop (P:=P) H.rcd (by simp [H4])
   refine ⟨_,_,hend,?_⟩
   exact ⟨_,_,_,hQ,(H.putl _).out (ds:=ds) (ks:=o5 (h0 st0)) hr.size hfn hMn (by rw [hk st]; exact hout) hks⟩
  | inr x =>
   obtain ⟨ηr,A2,H⟩:=hJ
   have hend:=run_endLoop (P:=P) H.rcd (by simp [H4])
   refine ⟨_,_,hend,?_⟩
   have hrel:=(H.putl { H4 fnid a.tmps ps assign bd dfb .done (some (a7U (ex x))) with state:=.exhausted }).out (ds:=ds) (ks:=o5 (h0 st0)) hr.size hfn hMn (houtx x) hks
   have hx:=hex x
   have hQ':Q (ex x) ⟨fr l0,b8 (hx0 x),gx x⟩:=hQ
   show (a7U (ex x)).wpIn (fen ro) m P _ _ _
   cases hxx:ex x with
   | ret=>rw [hxx] at hQ'; exact wpIn_ret ⟨_,_,_,hQ',hrel⟩
   | exit id=>rw [hxx] at hQ'; exact wpIn_exit ⟨_,_,_,hQ',hrel⟩
   | normal=>rw [hxx] at hx; cases hx
   | goto _=>rw [hxx] at hx; cases hx
   | panic _=>rw [hxx] at hx; cases hx
   | outgrown=>rw [hxx] at hx; cases hx
 -- the two kinds of frames
 have hres:∀ (l:Nat) (W:World),(resolve a.eval (rangeCall gop l) 0).run P W=.ok { target:=.fn (.func gf) cv,args:=pv++#[.func (.yield l) #[] #[]] } W:=fun l W=>by
  simp only [resolve,rangeCall,hgv]
  simp [Deferred.ofValue,hgv,Act.eval]
 refine wpIn_rangeFunc ?_
 intro fnid _
 cases ro with
 | none =>
  obtain ⟨W1,hW1⟩:∃ W1,(w.alloc (.deferred (some []))).alloc (.loop (H4 fnid a.tmps ps assign bd w.heap.size .ready none))=W1:=⟨_,rfl⟩
  refine ⟨w.heap.size+1,[a8I w.heap.size],W1,_,W1,gf,pv++#[.func (.yield (w.heap.size+1)) #[] #[]]++cv,W1,?_,hres _ _,fun f' _=>a2P none f',?_,fun h=>by simp [fen,Fence.wide] at h,?_⟩
  ·rw [← hW1]; exact run_enterLoop_outer _ _ _ _ _
  ·simp only [invoke]; exact a1M hIC.1 _
  ·have:=core (w.heap.size+1) (w.heap.size::Ms) W1 fnid w.heap.size (by rw [← hW1]; exact ((Below.refl _ w).alloc (Nat.le_refl _) _).alloc (by simp) _) (by omega)
    (by rw [← hW1]; have:=World.alloc_heap_new (w.alloc (.deferred (some []))) (.loop (H4 fnid a.tmps ps assign bd w.heap.size .ready none)); rwa [World.size_alloc] at this)
    (fun hc=>by
     rcases List.mem_cons.1 hc with h1|h1
     ·omega
     ·have:=(Array.getElem?_eq_some_iff.1 (k3 _ h1).2.2).1; omega)
    (List.nodup_cons.2 ⟨fun hc=>by have:=(Array.getElem?_eq_some_iff.1 (k3 _ hc).2.2).1; omega,k2⟩)
    (fun M hM=>by
     rcases List.mem_cons.1 hM with h1|h1
     ·subst h1
      refine .inr ⟨Nat.le_refl _,?_⟩
      rw [← hW1]
      exact (Below.heap_alloc _ _ _ (by simp)).trans (World.alloc_heap_new w _)
     ·exact .inl h1) (fun M hM=>List.mem_cons_of_mem _ hM)
   rw [List.map_cons,List.cons_append,← k1] at this
   exact this
 | some l1 =>
  obtain ⟨⟨q,rr⟩,hrd,e⟩:∃ p,w0.rd=some p∧p.1=l1:=by
   cases hrd:w0.rd with
   | none=>rw [hrd] at hq0; cases hq0
   | some p=>rw [hrd] at hq0; exact ⟨p,rfl,by simpa using hq0⟩
  simp only at e
  subst e
  obtain ⟨j1,j2⟩:=k8 q rr hrd
  obtain ⟨W1,hW1⟩:∃ W1,w.alloc (.loop (H4 fnid a.tmps ps assign bd rr.defers .ready none))=W1:=⟨_,rfl⟩
  refine ⟨w.heap.size,[],W1,_,W1,gf,pv++#[.func (.yield w.heap.size) #[] #[]]++cv,W1,?_,hres _ _,fun f' _=>a2P _ f',?_,fun h=>by simp [fen,Fence.wide] at h,?_⟩
  ·rw [← hW1]; exact run_enterLoop_inner j2 _ _ _ _ _
  ·simp only [invoke]; exact a1M hIC.1 _
  ·have:=core w.heap.size Ms W1 fnid rr.defers (by rw [← hW1]; exact (Below.refl _ w).alloc (Nat.le_refl _) _) (Nat.le_refl _)
    (by rw [← hW1]; exact World.alloc_heap_new w _) (fun hc=>by have:=(Array.getElem?_eq_some_iff.1 (k3 _ hc).2.2).1; omega) k2 (fun M hM=>.inl hM) (fun M hM=>hM)
   rw [← k1] at this
   exact this
end
end Go.Proofs.Ytenchhmcjmjlbaa
/-! The abstract machine,23: a slice held against nil. No program is named here. -/
namespace Go.Proofs.Ytenchhmcjmjlbaa
open Go.RowKit
set_option linter.constructorNameAsVariable false
set_option linter.unusedVariables false
section
variable {P:Program} {T:Tab} {n:Nat} {ro:Option Nat} {Q:Exit→ASt→Prop} {σ:Nat→AVal} {H:m0} {g:Gh} {o:Oper} {ops rs:List Oper}
theorem AO.nilEq (hT:v7 P T) (hd:L4 n [o]=true) (hg:o.guard=none) {t e:TypeId} {i:TInfo} {x y:Operand} {z:Nat} {neg:Bool} (ho:o.op=.binOp (if neg then .neq else .eql) t x y z) (ht:T t=some i) (hi:i.desc=.sl e)
  {τ:Ty} {xs:List (El τ)} (hx:(ASt.mk σ H g).ev x=.sl τ xs) (hy:(ASt.mk σ H g).ev y=.cv (.slice none 0 0))
  (h1:xs=[]→AO P ro n ops rs Q ((ASt.mk σ H g).app o.dst { v:=.bool (!neg) })) (h2:AO P ro n ops rs Q ((ASt.mk σ H g).app o.dst { v:=.bool neg })):AO P ro n ops (o::rs) Q ⟨σ,H,g⟩:=by
 intro m ds A0 L0 w0 η a w hq0 hr
 unfold wpListIn
 have hwant:Region.wanted o (yielded ops.toArray a.tmps)=true:=by simp [Region.wanted,hg]
 rw [if_pos hwant]
 have hdo:∀ i,o.dst=some i→i<n:=fun i hi=>by
  unfold L4 at hd
  simp only [List.all_cons,List.all_nil,Bool.and_true] at hd
  rw [hi] at hd; simpa using hd
 have hxv:=hr.ev x
 have hyv:=hr.ev y
 rw [hx] at hxv
 rw [hy] at hyv
 unfold d9 at hxv hyv
 obtain ⟨ad,c,hxv,hb⟩:=hxv
 have hu:=(hT t i ht).slice hi
 cases neg with
 | false =>
  refine p5 (u:=.bool ad.isNone) (w':=w) (by simp [ho]) ?_ ?_
  ·have:=Lib.run_eql_slice_nil (P:=P) w t e ad xs.length c 0 0 hu
   simp [execOp,ho,hxv,hyv,eqGuard,this]
  ·cases ad with
   | none =>
    have hnil:xs=[]:=by
     cases xs with
     | nil=>rfl
     | cons z zs=>obtain ⟨b,o',e1,_⟩:=hb.2.2 (by simp); cases e1
    exact h1 hnil m ds A0 L0 w0 η _ w hq0 (hr.pure hdo (by unfold d9; rfl))
   | some ad=>exact h2 m ds A0 L0 w0 η _ w hq0 (hr.pure hdo (by unfold d9; rfl))
 | true =>
  refine p5 (u:=.bool (!ad.isNone)) (w':=w) (by simp [ho]) ?_ ?_
  ·have:=run_neq_slice_nil_any (P:=P) w t e ad xs.length c 0 0 hu
   simp [execOp,ho,hxv,hyv,eqGuard,this]
  ·cases ad with
   | none =>
    have hnil:xs=[]:=by
     cases xs with
     | nil=>rfl
     | cons z zs=>obtain ⟨b,o',e1,_⟩:=hb.2.2 (by simp); cases e1
    exact h1 hnil m ds A0 L0 w0 η _ w hq0 (hr.pure hdo (by unfold d9; rfl))
   | some ad=>exact h2 m ds A0 L0 w0 η _ w hq0 (hr.pure hdo (by unfold d9; rfl))
end
end Go.Proofs.Ytenchhmcjmjlbaa
/-! The abstract machine,24: maps of dry data. No program is named here. -/
namespace Go.Proofs.Ytenchhmcjmjlbaa
open Go.RowKit Go.Maps
set_option linter.constructorNameAsVariable false
set_option linter.unusedVariables false
set_option linter.unusedSimpArgs false
/-! ### Lists of keys with values -/
section
variable {α β:Type} [DecidableEq α]
def b6o (d:β):List (α×β)→α→β
 | [],_=>d
 | (k,v)::r,x=>if k=x then v else b6o d r x
def b6n:List (α×β)→α→Bool
 | [],_=>false
 | (k,_)::r,x=>if k=x then true else b6n r x
def b6m:List (α×β)→α→β→List (α×β)
 | [],x,v=>[(x,v)]
 | (k,w)::r,x,v=>if k=x then (x,v)::r else (k,w)::b6m r x v
end
def b6j (ae:Bool):Ty→Value
 | .sl _=>.slice none 0 0
 | .int k=>pv ae (Ty.vals (.int k) (Ty.dflt (.int k)))
 | .bool=>pv ae (Ty.vals .bool (Ty.dflt .bool))
 | .unit=>pv ae (Ty.vals .unit (Ty.dflt .unit))
 | .pair a b=>pv ae (Ty.vals (.pair a b) (Ty.dflt (.pair a b)))
structure MapTy (P:Program) (t k e:TypeId) (ak ae:Bool) (kt vt:Ty):Prop where
 ht:P.underlying t=some (.map k e)
 K:Keyed P k
 key:∀ x:El kt,okD kt x→∃ l,keyOf P k (pv ak (kt.vals x))=some l
 zero:∀ w,(zeroValue e).run P w=.ok (b6j ae vt) w
 kdry:kt.dry=true
 vok:vt.dry=true∨(ae=false∧∃ u,vt=.sl u)
 ksz:ak=true∨kt.size=1
 vsz:ae=true∨vt.size=1
theorem b5N {k:IntKind} {n:Int} (h:InK k n):(Lit.int k n).wf=true:=by
 unfold InK at h
 simp [Lit.wf,h.1,h.2]
theorem V3:∀ (t:Ty) (x:El t),t.dry=true→(t.vals x).length=t.size
 | .int _,_,_=>rfl
 | .bool,_,_=>rfl
 | .unit,_,_=>rfl
 | .pair a b,x,h=>by
  simp only [Ty.dry,Bool.and_eq_true] at h
  simp [Ty.vals,Ty.size,V3 a _ h.1,V3 b _ h.2]
 | .sl _,_,h=>by simp [Ty.dry] at h
theorem a5N:∀ (t:Ty) (x y:El t),t.dry=true→t.vals x=t.vals y→x=y
 | .int _,x,y,_,h=>by simp only [Ty.vals,List.cons.injEq,Value.int.injEq,true_and,and_true] at h; exact h
 | .bool,x,y,_,h=>by simp only [Ty.vals,List.cons.injEq,Value.bool.injEq,and_true] at h; exact h
 | .unit,_,_,_,_=>rfl
 | .pair a b,x,y,hd,h=>by
  simp only [Ty.dry,Bool.and_eq_true] at hd
  simp only [Ty.vals] at h
  have:=List.append_inj h (by rw [V3 a _ hd.1,V3 a _ hd.1])
  exact Prod.ext (a5N a _ _ hd.1 this.1) (a5N b _ _ hd.2 this.2)
 | .sl _,_,_,h,_=>by simp [Ty.dry] at h
def b59 (ag:Bool) (l:List AVal):AVal:=if ag then .agg l else l.headD .un
def b6v (ag:Bool) (t:Ty):Prop:=t.dry=true∨(ag=false∧∃ u,t=.sl u)
section
variable {P:Program} {T:Tab} {n:Nat} {ds:List Deferred} {A0 L0:Nat→Prop} {w0:Old} {η:Nat→Value} {s:ASt} {a:Act} {w:World}
variable {ro:Option Nat} {Q:Exit→ASt→Prop} {σ:Nat→AVal} {H:m0} {g:Gh} {o:Oper} {ops rs:List Oper} {t k e:TypeId} {ak ae:Bool} {kt vt:Ty}
theorem a0A (hg:o.guard=none) (tm:Array Value):Region.wanted o (yielded ops.toArray tm)=true:=by simp [Region.wanted,hg]
theorem a0h (hd:L4 n [o]=true):∀ i,o.dst=some i→i<n:=fun i hi=>by
 unfold L4 at hd
 simp only [List.all_cons,List.all_nil,Bool.and_true] at hd
 rw [hi] at hd; simpa using hd
def a1H (ag:Bool) (x:AVal) (l:List AVal):Prop:=match x with
 | .agg l'=>ag=true∧l=l'
 | y=>ag=false∧l=[y]
theorem a2Y {η:Nat→Value} {w:World} {A:Nat→Prop} {H:m0}:∀ (t:Ty) (l r:List AVal) (x:El t) (vs:List Value),t.dry=true→C7 H t l=some (x,r)→d5 η w A l vs→∃ v2,vs=t.vals x++v2∧d5 η w A r v2
 | .int k,l,r,x,vs,_,h,hr=>by
  unfold C7 a4Z at h
  split at h
  ·split at h
   ·rename_i e
    subst e
    injection h with h
    injection h with h1 h2
    subst h1 h2
    unfold d5 at hr
    obtain ⟨u,us,e,h1,h2⟩:=hr
    unfold d9 at h1
    exact ⟨us,by rw [e,h1]; rfl,h2⟩
   ·cases h
  ·cases h
 | .bool,l,r,x,vs,_,h,hr=>by
  unfold C7 a4n at h
  split at h
  ·injection h with h
   injection h with h1 h2
   subst h1 h2
   unfold d5 at hr
   obtain ⟨u,us,e,h1,h2⟩:=hr
   unfold d9 at h1
   exact ⟨us,by rw [e,h1]; rfl,h2⟩
  ·cases h
 | .unit,l,r,x,vs,_,h,hr=>by
  unfold C7 at h
  injection h with h
  injection h with h1 h2
  subst h2
  exact ⟨vs,rfl,hr⟩
 | .pair a b,l,r,x,vs,hd,h,hr=>by
  simp only [Ty.dry,Bool.and_eq_true] at hd
  unfold C7 at h
  split at h
  ·rename_i x1 r1 e1
   split at h
   ·rename_i x2 r2 e2
    injection h with h
    injection h with h1 h2
    subst h1 h2
    obtain ⟨v2,e3,hr2⟩:=a2Y a l r1 x1 vs hd.1 e1 hr
    obtain ⟨v3,e4,hr3⟩:=a2Y b r1 r2 x2 v2 hd.2 e2 hr2
    exact ⟨v3,by rw [e3,e4]; simp [Ty.vals],hr3⟩
   ·cases h
  ·cases h
 | .sl _,_,_,_,_,h,_,_=>by simp [Ty.dry] at h
theorem a2X {η:Nat→Value} {w:World} {A:Nat→Prop} {H:m0} {ag:Bool} {t:Ty} (hd:t.dry=true) (hs:ag=true∨t.size=1) {x:AVal} {l:List AVal} (hu:a1H ag x l) {y:El t} (he:C7 H t l=some (y,[])) {v:Value} (hr:d9 η w A x v):v=pv ag (t.vals y):=by
 unfold a1H at hu
 split at hu
 ·rename_i l'
  obtain ⟨rfl,rfl⟩:=hu
  unfold d9 at hr
  obtain ⟨vs,rfl,hl⟩:=hr
  obtain ⟨v2,e1,h2⟩:=a2Y t _ _ y _ hd he hl
  unfold d5 at h2
  subst h2
  rw [List.append_nil] at e1
  unfold pv
  rw [if_pos rfl,← e1]
 ·obtain ⟨rfl,rfl⟩:=hu
  obtain ⟨v2,e1,h2⟩:=a2Y t _ _ y _ hd he (d5.cons hr d5.nil)
  unfold d5 at h2
  subst h2
  rw [List.append_nil] at e1
  unfold pv
  rw [if_neg (by simp),← e1]; rfl
end
attribute [go_sem] a8q a7L okD a1H b59 List.zip_cons_cons List.zip_nil_left List.zip_nil_right a9P
end Go.Proofs.Ytenchhmcjmjlbaa
