import Derived.Test.YtanaeefeggokkaaGreatAvb
import Derived.RangeFuncNested
import Derived.RangeFuncBound
import Derived.RangeFuncCalls
import Derived.WalkSpells
import Derived.Maps.Keyed
import Derived.MapKept
import Derived.ChangeMaps5
import Derived.WideKeyPair
/-! The abstract machine,17: loops and joins beside what pure functions do. No program is named here. -/
namespace Go.Proofs.YtanaeefeggokkaaGreat
open Go.RowKit
set_option linter.constructorNameAsVariable false
/-! ### Pure functions -/
inductive Step (S R:Type) where
 | next (s:S)
 | done (r:R)
instance instInK (k:IntKind) (n:Int):Decidable (InK k n):=by unfold InK; infer_instance
def ck {α:Type} (c:Prop) [Decidable c] (k:Option α):Option α:=if c then k else none
theorem b4 {α:Type} {c:Prop} [Decidable c] {k:Option α} {r:α}:ck c k=some r↔c∧k=some r:=by
 unfold ck
 split
 ·rename_i h; simp [h]
 ·rename_i h; simp [h]
variable {S R:Type}
def L1 (body:S→Option (Step S R)):Nat→S→Option R
 | 0,_=>none
 | n+1,s=>match body s with
  | none=>none
  | some (.next s')=>L1 body n s'
  | some (.done r)=>some r
theorem a6d {body:S→Option (Step S R)}:∀ {n m:Nat} {s:S} {r:R},L1 body n s=some r→n≤m→L1 body m s=some r
 | 0,_,_,_,h,_=>by cases h
 | n+1,0,_,_,_,hm=>by omega
 | n+1,m+1,s,r,h,hm=>by
  unfold L1 at *
  cases hb:body s with
  | none=>simp [hb] at h
  | some x =>
   cases x with
   | next s'=>simp only [hb] at h ⊢; exact a6d h (by omega)
   | done r'=>simp only [hb] at h ⊢; exact h
theorem b1U {body:S→Option (Step S R)} {n m:Nat} {s:S} {r r':R} (h:L1 body n s=some r) (h':L1 body m s=some r'):r=r':=by
 have h1:=a6d h (Nat.le_max_left n m);have h2:=a6d h' (Nat.le_max_right n m);rw [h1] at h2; injection h2
open Classical in
noncomputable def g9 (body:S→Option (Step S R)) (s:S):Option R :=
 if h:∃ r n,L1 body n s=some r then some h.choose else none
theorem a2M {body:S→Option (Step S R)} {n:Nat} {s:S} {r:R} (h:L1 body n s=some r):g9 body s=some r:=by
 have hx:∃ r n,L1 body n s=some r:=⟨r,n,h⟩;unfold g9;rw [dif_pos hx];obtain ⟨m,hm⟩:=hx.choose_spec;rw [b1U hm h]
theorem a8Z {body:S→Option (Step S R)} {s:S} {r:R} (h:g9 body s=some r):∃ n,L1 body n s=some r:=by
 unfold g9 at h
 split at h
 ·rename_i hx;injection h with h;obtain ⟨m,hm⟩:=hx.choose_spec;exact ⟨m,by rw [h] at hm; exact hm⟩
 ·cases h
theorem a1E {body:S→Option (Step S R)} (I:S→Prop) (μ:S→Nat) (G:R→Prop) (h:∀ s,I s→(∃ s',body s=some (.next s')∧I s'∧μ s'<μ s)∨(∃ r,body s=some (.done r)∧G r)):∀ s,I s→∃ r,g9 body s=some r∧G r:=by
 have:∀ m s,μ s=m→I s→∃ r n,L1 body n s=some r∧G r:=by
  intro m
  induction m using Nat.strongRecOn with
  | _ m ih =>
   intro s hs hI;rcases h s hI with ⟨s',h1,h2,h3⟩|⟨r,h1,h2⟩
   ·obtain ⟨r,n,h4,h5⟩:=ih (μ s') (hs▸h3) s' rfl h2;exact ⟨r,n+1,by simp [L1,h1,h4],h5⟩
   ·exact ⟨r,1,by simp [L1,h1],h2⟩
 intro s hI;obtain ⟨r,n,h1,h2⟩:=this _ s rfl hI;exact ⟨r,a2M h1,h2⟩
/-! ### Code -/
section
variable {P:Program} {ro:Option Nat} {n:Nat} {Q:Exit→ASt→Prop} {s:ASt} {K:ASt→Prop}
theorem AW.loopO {c:Code} (body:S→Option (Step S R)) (inv:S→ASt) (s0:S) {r:R} (hr:g9 body s0=some r) (h0:Wk n s (inv s0))
  (round:∀ st x,body st=some x→(∀ r',x=.done r'→r'=r)→AW P ro n c (a3i (fun s''=>∃ st',x=.next st'∧Wk n s'' (inv st')) Q) (inv st)):AW P ro n (.loop c) Q s:=by
 obtain ⟨m,hm⟩:=a8Z hr;refine AW.loop (ι:=Nat×S) (fun p=>inv p.2) (fun p=>L1 body p.1 p.2=some r) (fun p=>p.1) (m,s0) h0 hm ?_
 rintro ⟨k,st⟩ hk
 simp only at hk
 cases k with
 | zero=>cases hk
 | succ k =>
  unfold L1 at hk
  cases hb:body st with
  | none=>simp [hb] at hk
  | some x =>
   refine AW.mono (round st x hb ?_) ?_
   ·rintro r' rfl
    simp only [hb] at hk;injection hk
   ·intro e s'' hq
    cases e with
    | normal =>
     obtain ⟨st',rfl,hw⟩:=hq;simp only [hb] at hk;exact ⟨(k,st'),hk,Nat.lt_succ_self _,hw⟩
    | _=>exact hq
theorem f7 {e:Code} (h:AW P ro n e Q s):a3i (AW P ro n e Q) Q .normal s:=h
theorem g4 {id:Nat} (h:Q (.exit id) s):a3i K Q (.exit id) s:=h
theorem b9 (h:Q .ret s):a3i K Q .ret s:=h
theorem l8 {id:Nat} (h:Q .normal s):a5w id Q .normal s:=h
theorem d5 {id:Nat} (h:Q .ret s):a5w id Q .ret s:=h
theorem j5 {id:Nat} (h:Q .normal s):a5w id Q (.exit id) s:=by
 show if id=id then Q .normal s else Q (.exit id) s
 rw [if_pos rfl]; exact h
theorem AW.have1 {B:Type} {x z:Code} (p:B→Prop) (out:B→ASt) (hk:∀ b,p b→AW P ro n z Q (out b)) (h:(∀ b,p b→AW P ro n z Q (out b))→AW P ro n (.seq x z) Q s):AW P ro n (.seq x z) Q s:=h hk
/-! ### Calls -/
section
variable {σ:Nat→AVal} {H:l3} {gg:Gh} {T:Tab} {ops l:List Oper} {o:Oper} {c:Call} {f:Operand} {g:FuncId} {p cp lx:List AVal} {r:AVal} {hin hout:List (Nat×ABlk)}
theorem b0z {K:Eff→Prop} (ho:o.op=.call c) (hc:c.callee=.value f) (hf:s.ev f=.fn (.func g) p cp) (D:List Nat) (rn:List (Nat×Nat)) (hcon:HC P g hin lx hout r)
  (hok:a0R (o.dst.getD 0) D rn hin hout r (p++c.args.toList.map s.ev++cp)=true) (hle:LeL s.H D [] (g6 rn) (p++c.args.toList.map s.ev++cp) lx) (hlh:LeH s.H D [] (g6 rn) hin)
  (hK:K { v:=r.ren (E7 (o.dst.getD 0) rn hin),kill:=U4 rn hout hin++a0E (o.dst.getD 0) hin hout,hp:=D9 (E7 (o.dst.getD 0) rn hin) hout++(if (r.dry&&a09 hout)=true then [] else rest s.H D) }):I8 P T s o K:=by
 unfold I8;rw [ho];simp only [hc];unfold L2;rw [hf];exact ⟨D,rn,hin,lx,hout,r,hcon,hok,hle,hlh,hK⟩
theorem AO.call (hT:z5 P T) (hd:J7 n [o]=true) (ho:o.op=.call c) (hc:c.callee=.value f) (hf:(ASt.mk σ H gg).ev f=.fn (.func g) p cp) (hg:∀ K,I8 P T (ASt.mk σ H gg) o K→R6 P T ops (ASt.mk σ H gg) o K) (D:List Nat) (rn:List (Nat×Nat)) (hcon:HC P g hin lx hout r)
  (hok:a0R (o.dst.getD 0) D rn hin hout r (p++c.args.toList.map (ASt.mk σ H gg).ev++cp)=true) (hle:LeL H D [] (g6 rn) (p++c.args.toList.map (ASt.mk σ H gg).ev++cp) lx) (hlh:LeH H D [] (g6 rn) hin)
  (l':List (Nat×AVal)) (h':List (Nat×ABlk))
  (hK:fits l' h' gg ((ASt.mk σ H gg).app o.dst { v:=r.ren (E7 (o.dst.getD 0) rn hin),kill:=U4 rn hout hin++a0E (o.dst.getD 0) hin hout,hp:=D9 (E7 (o.dst.getD 0) rn hin) hout++(if (r.dry&&a09 hout)=true then [] else rest H D) }))
  (h2:AO P ro n ops l Q ⟨fr l',b6 h',gg⟩):AO P ro n ops (o::l) Q ⟨σ,H,gg⟩ :=
 AO.segF hT 1 hd l' h' (hg _ (b0z ho hc hf D rn hcon hok hle hlh hK)) h2
theorem I6.call {X F:List (Nat×List Nat)} {i:Nat} {K:ASt→Prop} (hs:match H3 F i with|some φ=>a35 s φ o=true|none=>True) (ho:o.op=.call c) (hc:c.callee=.value f) (hf:s.ev f=.fn (.func g) p cp) (hg:∀ K,I8 P T s o K→R6 P T ops s o K) (D:List Nat) (rn:List (Nat×Nat)) (hcon:HC P g hin lx hout r)
  (hok:a0R (o.dst.getD 0) D rn hin hout r (p++c.args.toList.map s.ev++cp)=true) (hle:LeL s.H D [] (g6 rn) (p++c.args.toList.map s.ev++cp) lx) (hlh:LeH s.H D [] (g6 rn) hin)
  (hX:a57 X F i { v:=r.ren (E7 (o.dst.getD 0) rn hin),kill:=U4 rn hout hin++a0E (o.dst.getD 0) hin hout,hp:=D9 (E7 (o.dst.getD 0) rn hin) hout++(if (r.dry&&a09 hout)=true then [] else rest s.H D) }=true)
  (hK:I6 P T ops X F (i+1) l (s.app o.dst { v:=r.ren (E7 (o.dst.getD 0) rn hin),kill:=U4 rn hout hin++a0E (o.dst.getD 0) hin hout,hp:=D9 (E7 (o.dst.getD 0) rn hin) hout++(if (r.dry&&a09 hout)=true then [] else rest s.H D) }) K) :
  I6 P T ops X F i (o::l) s K:=by
 unfold I6;exact ⟨hs,hg _ (b0z ho hc hf D rn hcon hok hle hlh ⟨hX,hK⟩)⟩
theorem g8 {X F:List (Nat×List Nat)} {i:Nat} {K:ASt→Prop} (h:K s):I6 P T ops X F i [] s K:=h
end
end
end Go.Proofs.YtanaeefeggokkaaGreat
/-! The abstract machine,18: iterators: calls of yield,contracts of iterators. No program is named here. -/
namespace Go.Proofs.YtanaeefeggokkaaGreat
open Go.RowKit
set_option linter.constructorNameAsVariable false
section
variable {P:Program} {T:Tab} {n:Nat} {ds:List Deferred} {A0 L0:Nat→Prop} {w0:Old} {η:Nat→Value} {s:ASt} {a:Act} {w:World}
theorem Rel.restD (h:Rel n ds A0 L0 w0 η s a w) (D:List Nat) (hDf:(D.all fun b=>decide (b<1000000000))=true) :
  Rel n ds A0 L0 w0 η (s.app none { v:=.un,hp:=rest s.H D }) a w∧∀ (xs ys:List AVal) (vs:List Value),LeL s.H D [] (g6 []) xs ys→d6 η w (Av A0 η s.H) xs vs→d6 η w (Av A0 η (s.app none { v:=.un,hp:=rest s.H D }).H) ys vs:=by
 have h1:=h.resting (d:=none) (fun i hi=>by cases hi) (v:=.un) (u:=undef) (ids:=D) (w':=w) (Below.refl _ _) (fun _ _=>by unfold d9; trivial);refine ⟨h1,fun xs ys vs hl hv=>?_⟩;have hN:∀ b B g,b6 (rest s.H D) b=some B→B.mut=true→hblk (η b)=some g→(∃ b0 B0,s.H b0=some B0∧B0.mut=true∧hblk (η b0)=some g∧(b0=b∨(b=0∧([]:List Nat).contains b0=true)))∨(w.heap.size≤g∧b=0):=by
  intro b B g hb hm hg;obtain ⟨_,_,_,_,e9,_⟩:=t6 _ _ _ _ hb;subst e9
  cases hm
 have hlv:=a6c (s:=s) (η:=η) (η':=η) (w:=w) (d:=none) (e:={ v:=.un,hp:=rest s.H D }) (fun _ _=>rfl) hN
 have k:Keeps (Av A0 η s.H) (Av A0 η (s.app none { v:=.un,hp:=rest s.H D }).H) w w:=⟨Nat.le_refl _,fun _ _ _=>rfl,fun g hg hc=>hc.imp id fun ⟨b,B,h1,h2,h3⟩=>by
  rcases hlv b B g h1 h2 h3 with ⟨b0,B0,j1,j2,j3,_⟩|⟨j1,_⟩
  ·exact ⟨b0,B0,j1,j2,j3⟩
  ·omega⟩
 refine LeL.rep k (fun c hc=>by simp at hc) (fun c _=>rfl) ⟨fun b t zs hb=>?_,b23 h.hp.blk,fun b ty cs _ hc=>by
  have:=List.all_eq_true.1 hDf _ (show b+1000000000∈D by simpa using hc);simp only [decide_eq_true_eq] at this
  omega⟩ xs ys vs hl hv
 have key:∀ e,s.H b=some (.arr e t zs)∨s.H b=some (.imm t zs)→b∈D∨s.H b=some (.imm t zs)→∃ a' c',η b=.slice a' zs.length c'∧A3 w.heap.size (Av A0 η (s.app none { v:=.un,hp:=rest s.H D }).H) t.size (fun y p z=>i9 w (Av A0 η (s.app none { v:=.un,hp:=rest s.H D }).H) t y p z) zs a' c':=by
  intro e hbb hD;refine a38 h.hp hbb k fun g hba hg=>⟨rfl,?_⟩;have hbD:b∈D:=by
   rcases hD with hD|hD
   ·exact hD
   ·rw [hba] at hD; cases hD
  refine a3r (nid:=0) h.hp hlv hba ?_ rfl hg;simp only [ASt.app,a2T _ _ _ hbD hba]
 rcases hb with ⟨⟨e,hb⟩,hD⟩|hb
 ·exact key e (.inl hb) (.inl (by simpa using hD))
 ·exact key 0 (.inr hb) (.inr hb)
theorem Rel.turned (h:Rel n ds A0 L0 w0 η s a w) {A1 A1':Nat→Prop} {Ms:List Nat} (hA:∀ g,A0 g↔A1 g∨w0.U g∨g∈Ms) (hd:a.defers=Ms.map b1a++ds) (hn:Ms.Nodup) (hM:∀ M∈Ms,w0.heap.size≤M∧¬ A1 M∧w.heap[M]?=some (.deferred (some [])))
  (hU:∀ g,A1 g→¬ w0.U g) (hR:a4w w0 w) (hL:∀ g,A1 g→g<w0.heap.size→L0 g) {w':World} (ht:Turns A1 w w') (hA':∀ g,A1' g→A1 g∨(w.heap.size≤g∧g<w'.heap.size)) {G:Gh} (hG:G.yl=true) (hJ:G.J A1' (fun g=>p9 η s.H g∨w0.U g∨g∈Ms) w') :
  Rel n ds (fun g=>A1' g∨w0.U g∨g∈Ms) L0 w0 η { s with g:=G } a w':=by
 have k:Keeps (Av A0 η s.H) (Av (fun g=>A1' g∨w0.U g∨g∈Ms) η s.H) w w':=by
  refine ⟨ht.size,fun g hg hn=>ht.heap g hg fun hc=>hn (.inl ((hA g).2 (.inl hc))),fun g hg hc=>?_⟩;rcases hc with (hc|hc)|hc
  ·rcases hA' g hc with h1|h1
   ·exact .inl ((hA g).2 (.inl h1))
   ·omega
  ·exact .inl ((hA g).2 (.inr hc))
  ·exact .inr hc
 have hlive:∀ g,p9 η s.H g→¬ A1 g:=fun g hg hc=>(h.hp.av g ((hA g).2 (.inl hc))).2 hg;refine ⟨h.size,h.few,h.hd,fun i=>d9.step k _ _ (fun _ _=>rfl) (h.tmp i),⟨fun b B hb=>?_,h.hp.inj,fun g hg=>?_⟩,⟨ht.os.trans h.fr.os,ht.tape.trans h.fr.tape,ht.output.trans h.fr.output,Nat.le_trans h.fr.size ht.size,fun g hg hn=>?_⟩,h.old,⟨A1',Ms,hd,hn,fun M hMm=>?_,fun g hg hu=>?_,?_,fun _=>Iff.rfl,hJ,?_⟩⟩
 ·have:=r6.step (K:=[]) (η':=η) (η:=η) k (fun _ _=>rfl) (fun g hm hg=>ht.heap g (p9.lt h.hp ⟨b,B,hb,hm,hg⟩) (hlive g ⟨b,B,hb,hm,hg⟩)) (h.hp.blk b B hb)
  rwa [z9] at this
 ·rcases hg with hg|hg
  ·rcases hA' g hg with h1|h1
   ·have:=h.hp.av g ((hA g).2 (.inl h1)); exact ⟨Nat.lt_of_lt_of_le this.1 ht.size,this.2⟩
   ·exact ⟨h1.2,fun hl=>by have:=p9.lt h.hp hl; omega⟩
  ·have:=h.hp.av g ((hA g).2 (.inr hg)); exact ⟨Nat.lt_of_lt_of_le this.1 ht.size,this.2⟩
 ·exact (ht.heap g (Nat.lt_of_lt_of_le hg h.fr.size) fun hc=>hn (hL g hc hg)).trans (h.fr.heap g hg hn)
 ·obtain ⟨m1,m2,m3⟩:=hM M hMm;have hlt:=(Array.getElem?_eq_some_iff.1 m3).1;refine ⟨m1,fun hc=>?_,(ht.heap M hlt m2).trans m3⟩;rcases hA' M hc with h1|h1
  ·exact m2 h1
  ·omega
 ·rcases hA' g hg with h1|h1
  ·exact hU g h1 hu
  ·have:=(h.hp.av g ((hA g).2 (.inr (.inl hu)))).1; omega
 ·intro q r hq;obtain ⟨h1,h2⟩:=hR q r hq;exact ⟨h1,(ht.heap q (Array.getElem?_eq_some_iff.1 h2).1 fun hc=>hU q hc h1).trans h2⟩
 ·rw [show ({ s with g:=G }:ASt).g=G from rfl,hG,if_pos rfl];intro g hg hlt;rcases hA' g hg with h1|h1
  ·exact hL g h1 hlt
  ·have:=h.fr.size; omega
end
/-! ### Yield -/
section
variable {S R Y:Type} {P:Program}
def a7K (P:Program) (l:Nat) (enc:Y→List AVal) (body:Y→S→Option (Step S R)) (Γ:S→Gh) (Γx:R→Gh):Prop :=
 ∀ (y:Y) (st:S) (x:Step S R),body y st=some x→∀ (η:Nat→Value) (A I:Nat→Prop) (w:World) (us:Array Value),(Γ st).J A I w→(∀ g,A g→g<w.heap.size∧¬ I g)→(∀ g,I g→g<w.heap.size)→d6 η w (fun g=>A g∨I g) (enc y) us.toList →
  YieldAt Fence.wide 0 P l us w fun e w'=>Turns A w w'∧∃ A':Nat→Prop,(∀ g,A' g→A g∨(w.heap.size≤g∧g<w'.heap.size)) ∧
   match x with
   | .next st'=>e=.returned (.bool true)∧(Γ st').J A' I w'
   | .done r=>e=.returned (.bool false)∧(Γx r).J A' I w'
theorem b0Q {ro:Option Nat} {m k:Nat} {l:Nat} {f:FuncId} {tmps:Array Value} {assign body:Code} {w:World} {Q:Ending→World→Prop} (h:RoundIn Fence.wide m P l f tmps assign body w Q):RoundIn (fen ro) k P l f tmps assign body w Q :=
 ⟨trivial,fun c cs _=>h.2 c cs (room_wide _)⟩
theorem b1D {ro:Option Nat} {m k:Nat} {f:FuncId} {args:Array Value} {w:World} {Q:Ending→World→Prop} (h:CallsIn Fence.wide m P f args w Q):CallsIn (fen ro) k P f args w Q :=
 ⟨trivial,fun cs _=>h.2 cs (room_wide _)⟩
variable {n:Nat} {ro:Option Nat} {Q:Exit→ASt→Prop} {σ:Nat→AVal} {H:l3} {o:Oper} {ops rs:List Oper} {c:Call} {f:Operand} {enc:Y→List AVal} {body:Y→S→Option (Step S R)} {Γ:S→Gh} {Γx:R→Gh} {lp:Nat}
theorem d6.sub {η:Nat→Value} {w:World} {A A':Nat→Prop} (h:∀ g,A' g→A g) {l:List AVal} {vs:List Value} (hr:d6 η w A l vs):d6 η w A' l vs :=
 d6.step ⟨Nat.le_refl _,fun _ _ _=>rfl,fun g _ hg=>h g hg⟩ l vs (fun _ _=>rfl) hr
theorem a30 (ho:o.op=.call c) (hc:c.callee=.value f) (hg:o.guard=none) (hd:J7 n [o]=true) (st:S) (hf:(ASt.mk σ H (Γ st)).ev f=.fn (.yield lp) [] []) (hY:a7K P lp enc body Γ Γx) (hΓ:∀ st,(Γ st).yl=true) (hΓx:∀ r,(Γx r).yl=true)
  (y:Y) (D:List Nat) (hle:LeL H D [] (g6 []) (c.args.toList.map (ASt.mk σ H (Γ st)).ev) (enc y)) {x:Step S R} (hx:body y st=some x)
  (h2:match (generalizing:=false) x with
   | .next st'=>AO P ro n ops rs Q (((ASt.mk σ H (Γ st')).app none { v:=.un,hp:=rest H D }).app o.dst { v:=.bool true })
   | .done r=>AO P ro n ops rs Q (((ASt.mk σ H (Γx r)).app none { v:=.un,hp:=rest H D }).app o.dst { v:=.bool false })) (hDf:(D.all fun b=>decide (b<1000000000))=true:=by decide):AO P ro n ops (o::rs) Q ⟨σ,H,Γ st⟩:=by
 intro m ds A0 L0 w0 η a w hq0 hr;unfold wpListIn;have hwant:Region.wanted o (yielded ops.toArray a.tmps)=true:=by simp [Region.wanted,hg]
 rw [if_pos hwant];obtain ⟨hr1,hargs⟩:=hr.restD D hDf;have hdo:∀ i,o.dst=some i→i<n:=fun i hi=>by
  unfold J7 at hd;simp only [List.all_cons,List.all_nil,Bool.and_true] at hd;rw [hi] at hd; simpa using hd
 have hfv:a.eval f=.func (.yield lp) #[] #[]:=by
  have:=hr.ev f;rw [hf] at this;unfold d9 at this;obtain ⟨ps,cs,e,h1,h2⟩:=this;unfold d6 at h1 h2;rw [e];rw [Array.toList_eq_nil_iff.1 h1,Array.toList_eq_nil_iff.1 h2]
 have hvs:d6 η w (Av A0 η ((ASt.mk σ H (Γ st)).app none { v:=.un,hp:=rest H D }).H) (enc y) (c.args.map a.eval).toList:=by
  refine hargs _ _ _ hle ?_;rw [Array.toList_map];exact evs hr _
 have hexe:(execOp a.eval o).run P w=(Instr.yield lp (c.args.map a.eval)).run P w:=by
  simp [execOp,ho,resolve,hc,hfv,invoke,Deferred.ofValue]
 refine ⟨fun f _=>a4s ro f,?_⟩;rw [Oper.semAt_eq _ _ _ (by simp [ho]),hexe];obtain ⟨A1,Ms,k1,k2,k3,k7,k8,k4,k5,k6⟩:=hr1.gh;have hyl:((ASt.mk σ H (Γ st)).app none { v:=.un,hp:=rest H D }).g=Γ st:=rfl;rw [hyl] at k5 k6;rw [hΓ st,if_pos rfl] at k6
 obtain ⟨fn,tmps,assign,bd,hy,hround⟩:=hY y st x hx η A1 _ w (c.args.map a.eval) k5 (fun g hg=>by
   have:=hr1.hp.av g ((k4 g).2 (.inl hg));refine ⟨this.1,fun hc=>?_⟩;rcases hc with hc|hc|hc
   ·exact this.2 hc
   ·exact k7 g hg hc
   ·exact (k3 g hc).2.1 hg) (fun g hg=>by
   rcases hg with hg|hg
   ·exact p9.lt hr1.hp hg
   ·exact (hr1.hp.av g ((k4 g).2 (.inr hg))).1) (d6.sub (fun g hg=>by
   rcases hg with hg|hg|hg
   ·exact .inl ((k4 g).2 (.inl hg))
   ·exact .inr hg
   ·exact .inl ((k4 g).2 (.inr hg))) hvs)
 rw [hy];refine ⟨a9t ro _,RoundIn.mono (b0Q hround) ?_⟩
 rintro e w' ⟨ht,A',hA',hm⟩
 cases x with
 | next st' =>
  obtain ⟨rfl,hJ⟩:=hm;have hr2:=hr1.turned k4 k1 k2 k3 k7 k8 k6 ht hA' (hΓ st') hJ;exact h2 m ds _ L0 w0 η _ w' hq0 (hr2.pure (v:=.bool true) (u:=.bool true) hdo (by unfold d9; rfl))
 | done r =>
  obtain ⟨rfl,hJ⟩:=hm;have hr2:=hr1.turned k4 k1 k2 k3 k7 k8 k6 ht hA' (hΓx r) hJ;exact h2 m ds _ L0 w0 η _ w' hq0 (hr2.pure (v:=.bool false) (u:=.bool false) hdo (by unfold d9; rfl))
end
end Go.Proofs.YtanaeefeggokkaaGreat
/-! The abstract machine,19: contracts of iterators; ranges over functions. No program is named here. -/
namespace Go.Proofs.YtanaeefeggokkaaGreat
open Go.RowKit
set_option linter.constructorNameAsVariable false
set_option linter.unusedVariables false
section
variable {S R Y:Type} {P:Program}
def b7X (Γ:S→Gh) (Γx:R→Gh):Sum S R→Gh
 | .inl s=>Γ s
 | .inr x=>Γx x
def IC (P:Program) (gf:FuncId) (hin:List (Nat×ABlk)) (pre cap:List AVal) (enc:Y→List AVal) (body:Y→S→Option (Step S R)) (s0:S) (r:Sum S R):Prop :=
 b9y P gf∧∀ (Γ:S→Gh) (Γx:R→Gh),(∀ s,(Γ s).yl=true)→(∀ r,(Γx r).yl=true)→∀ l,a7K P l enc body Γ Γx →
  ∀ (η:Nat→Value) (A0:Nat→Prop) (w:World) (us vs:Array Value),RelH A0 η (b6 hin) w→d6 η w (Av A0 η (b6 hin)) pre us.toList→d6 η w (Av A0 η (b6 hin)) cap vs.toList→(Γ s0).J A0 (p9 η (b6 hin)) w →
   Calls P gf (us++#[.func (.yield l) #[] #[]]++vs) w fun e w'=>(∃ v,e=.returned v)∧∃ A1 I1:Nat→Prop,Turns (fun g=>A0 g∨p9 η (b6 hin) g) w w'∧(b7X Γ Γx r).J A1 I1 w'
def b9J (G:Gh):Exit→ASt→Prop
 | .normal,s=>s.g=G
 | .ret,s=>s.g=G
 | _,_=>False
theorem IC.of_body {gf:FuncId} {fn:Func} {c:Code} {hin:List (Nat×ABlk)} {pre cap:List AVal} {enc:Y→List AVal} {body:Y→S→Option (Step S R)} {s0:S} {r:Sum S R} (hf:P.funcs[gf]?=some fn) (hb:fn.body=some c) (hname:(fn.name=="runtime.NumGoroutine")=false) (hres:fn.results=#[])
  {nt:Nat} (hnt:fn.ntmps=nt) (hfew:nt≤1000) (hl:pre.length+(cap.length+1)≤nt)
  (h:∀ (Γ:S→Gh) (Γx:R→Gh) (l:Nat),(∀ s,(Γ s).yl=true)→(∀ r,(Γx r).yl=true)→a7K P l enc body Γ Γx→AW P none nt c (b9J (b7X Γ Γx r)) ⟨fr (a1W 0 (pre++.fn (.yield l) [] []::cap)),b6 hin,Γ s0⟩):IC P gf hin pre cap enc body s0 r:=by
 refine ⟨⟨fn,hf,by simp [hb],hname⟩,fun Γ Γx hΓ hΓx l hY η A0 w us vs hA hu hv hJ=>?_⟩;subst hnt;have hlen:=hv.length;have hlen0:=hu.length;have hv':d6 η w (Av A0 η (b6 hin)) (pre++.fn (.yield l) [] []::cap) (us++#[Value.func (.yield l) #[] #[]]++vs).toList:=by
  rw [Array.toList_append,Array.toList_append,List.append_assoc];exact hu.append (d6.cons (by unfold d9; exact ⟨#[],#[],rfl,d6.nil,d6.nil⟩) hv)
 have hrel:Rel fn.ntmps [] A0 (fun g=>A0 g∨p9 η (b6 hin) g) { toWorld:=w,ηh:=η } η ⟨fr (a1W 0 (pre++.fn (.yield l) [] []::cap)),b6 hin,Γ s0⟩ { tmps:=(us++#[Value.func (.yield l) #[] #[]]++vs)++Array.replicate (fn.ntmps - (us++#[Value.func (.yield l) #[] #[]]++vs).size) undef,defers:=[] } w:=by
  refine ⟨by simp; simp at hlen hlen0; omega,hfew,fun b _ _=>rfl,fun i=>?_,hA,Fr.refl _ _,fun g hg _=>.inr hg,⟨A0,[],rfl,List.nodup_nil,by simp,fun _ _ h=>h,(fun _ _ h=>by cases h),fun g=>by simp,(Γ s0).cl _ _ _ _ _ hJ (Turns.refl _ _) (fun g hg=>.inl (by simpa using hg)),by rw [show (ASt.mk (fr (a1W 0 (pre++.fn (.yield l) [] []::cap))) (b6 hin) (Γ s0)).g=Γ s0 from rfl,hΓ,if_pos rfl]; exact fun g hg _=>.inl hg⟩⟩
  by_cases hi:i<(pre++AVal.fn (.yield l) [] []::cap).length
  ·have hx:(pre++AVal.fn (.yield l) [] []::cap)[i]?=some (pre++AVal.fn (.yield l) [] []::cap)[i]:=by simp
   obtain ⟨v,hv1,hv2⟩:=hv'.get hx;have e1:(pre++AVal.fn (.yield l) [] []::cap).getD i .un=(pre++AVal.fn (.yield l) [] []::cap)[i]:=by simp [List.getD,hx]
   have hvi:(us++#[Value.func (.yield l) #[] #[]]++vs)[i]?=some v:=by simpa only [Array.getElem?_toList] using hv1
   have e2:((us++#[Value.func (.yield l) #[] #[]]++vs)++Array.replicate (fn.ntmps - (us++#[Value.func (.yield l) #[] #[]]++vs).size) undef).getD i undef=v:=by
    rw [Array.getD_eq_getD_getElem?,Array.getElem?_append_left (Array.getElem?_eq_some_iff.1 hvi).1,hvi]; rfl
   show d9 η w (Av A0 η (b6 hin)) (fr (a1W 0 (pre++.fn (.yield l) [] []::cap)) i) (Array.getD _ i undef);rw [a53,Nat.sub_zero,if_neg (by omega),e1,e2];exact hv2
  ·have:(pre++AVal.fn (.yield l) [] []::cap).getD i .un=.un:=by
    rw [List.getD,List.getElem?_eq_none (Nat.le_of_not_lt hi)]; rfl
   show d9 η w (Av A0 η (b6 hin)) (fr (a1W 0 (pre++.fn (.yield l) [] []::cap)) i) (Array.getD _ i undef);rw [a53,Nat.sub_zero,if_neg (by omega),this]; unfold d9; trivial
 have hwp:=h Γ Γx l hΓ hΓx hY 0 [] A0 _ _ η _ w rfl hrel;rw [show (fen none)=Fence.wide from rfl] at hwp;refine callsIn_wide.1 (callsIn_of_wp_marks (n:=0) hf hb trivial (wpIn_mono hwp ?_) rfl)
 rintro e a' w' ⟨A1,η',s',hQ,hR⟩
 have fin:s'.g=(b7X Γ Γx r)→LeavesInM Fence.wide 0 P fn a'.tmps (fun e w'=>(∃ v,e=.returned v)∧∃ A1 I1:Nat→Prop,Turns (fun g=>A0 g∨p9 η (b6 hin) g) w w'∧(b7X Γ Γx r).J A1 I1 w') a'.defers .returning w':=by
  intro hg;obtain ⟨A2,Ms,hMs,hMn,hM,hU2,hRd,hA2,hJ2,hA3⟩:=hR.gh;rw [List.append_nil] at hMs;rw [hMs];refine a3u (s:=s') (η:=η') (w0:={ toWorld:=w,ηh:=η }) (A1:=A2) hU2 hA3 ?_ Ms A1 a' w' rfl hMn hM hRd hA2 hJ2 hR;intro a2 w2 e3 hR2 hJ3;rw [hg] at hJ3;exact ⟨.tuple #[],by rw [a75,hres]; simp,⟨_,rfl⟩,A2,_,⟨hR2.fr.os,hR2.fr.tape,hR2.fr.output,hR2.fr.size,hR2.fr.heap⟩,hJ3⟩
 cases e with
 | normal=>exact fin hQ
 | ret=>exact fin hQ
 | _=>exact hQ.elim
end
/-! ### Ranges over functions -/
def AR (w0:Old) (Ms:List Nat) (l:Nat) (A1 I:Nat→Prop):Nat→Prop:=fun q=>A1 q∨w0.U q∨q∈Ms∨I q∨q=l
structure LoopSt (L0:Nat→Prop) (w0:Old) (tmps:Array Value) (l0:List (Nat×AVal)) (ηe:Nat→Value) (Ms:List Nat) (l:Nat) (h:List (Nat×ABlk)) (g:Gh) (lp:Loop) (C I:Nat→Prop) (W:World) (ηr:Nat→Value) (A1:Nat→Prop):Prop where
 cdef:∀ q,C q↔p9 ηr (b6 h) q∨A1 q∨w0.U q∨q∈Ms∨q=l
 hp:RelH (AR w0 Ms l A1 I) ηr (b6 h) W
 tmp:∀ i,d9 ηr W (Av (AR w0 Ms l A1 I) ηr (b6 h)) (fr l0 i) (tmps.getD i undef)
 hd:∀ b,R3 b→(b6 h b).isSome=true→ηr b=ηe b
 frm:Fr L0 w0.toWorld W
 old:∀ q,p9 ηr (b6 h) q→q<w0.heap.size→L0 q
 iold:∀ q,I q→q<w0.heap.size→L0 q
 mks:∀ M∈Ms,w0.heap.size≤M∧W.heap[M]?=some (.deferred (some []))
 dis:∀ q,A1 q→¬ w0.U q∧q ∉ Ms∧¬ I q∧q≠l
 idis:¬ I l∧(∀ M∈Ms,¬ I M)∧∀ q,w0.U q→¬ I q
 ldis:l ∉ Ms
 lnu:¬ w0.U l
 rcd:W.heap[l]?=some (.loop lp)
 lnew:w0.heap.size≤l
 rds:a4w w0 W
 know:g.J A1 (fun q=>p9 ηr (b6 h) q∨w0.U q∨q∈Ms∨I q∨q=l) W
 yl:if g.yl=true then ∀ q,A1 q→q<w0.heap.size→L0 q else A1=w0.A
section
variable {L0:Nat→Prop} {w0:Old} {tmps:Array Value} {l0:List (Nat×AVal)} {ηe:Nat→Value} {Ms:List Nat} {l:Nat} {h:List (Nat×ABlk)} {g:Gh} {lp:Loop} {C I:Nat→Prop} {W:World} {ηr:Nat→Value} {A1:Nat→Prop}
theorem LoopSt.turn (H:LoopSt L0 w0 tmps l0 ηe Ms l h g lp C I W ηr A1) {I':Nat→Prop} {W':World} (ht:Turns I W W') (hI:∀ q,I' q→I q∨(W.heap.size≤q∧q<W'.heap.size)):LoopSt L0 w0 tmps l0 ηe Ms l h g lp C I' W' ηr A1:=by
 have sub:∀ q,q<W.heap.size→AR w0 Ms l A1 I' q→AR w0 Ms l A1 I q:=by
  rintro q hq (h1|h1|h1|h1|h1)
  ·exact .inl h1
  ·exact .inr (.inl h1)
  ·exact .inr (.inr (.inl h1))
  ·rcases hI q h1 with h2|h2
   ·exact .inr (.inr (.inr (.inl h2)))
   ·omega
  ·exact .inr (.inr (.inr (.inr h1)))
 have k:Keeps (Av (AR w0 Ms l A1 I) ηr (b6 h)) (Av (AR w0 Ms l A1 I') ηr (b6 h)) W W' :=
  ⟨ht.size,fun q hq hn=>ht.heap q hq fun hi=>hn (.inl (.inr (.inr (.inr (.inl hi))))),fun q hq hc=>hc.imp (sub q hq) id⟩
 have hni:∀ q,p9 ηr (b6 h) q→¬ I q:=fun q hl hi=>(H.hp.av q (.inr (.inr (.inr (.inl hi))))).2 hl;have hlt:l<W.heap.size:=(Array.getElem?_eq_some_iff.1 H.rcd).1;refine ⟨H.cdef,⟨fun b B hb=>?_,H.hp.inj,fun q hq=>?_⟩,fun i=>d9.step k _ _ (fun _ _=>rfl) (H.tmp i),H.hd,⟨ht.os.trans H.frm.os,ht.tape.trans H.frm.tape,ht.output.trans H.frm.output,Nat.le_trans H.frm.size ht.size,fun q hq hn=>(ht.heap q (Nat.lt_of_lt_of_le hq H.frm.size) fun hi=>hn (H.iold q hi hq)).trans (H.frm.heap q hq hn)⟩,H.old,fun q hq hlt=>?_,fun M hM=>⟨(H.mks M hM).1,?_⟩,fun q hq=>⟨(H.dis q hq).1,(H.dis q hq).2.1,fun hi=>?_,(H.dis q hq).2.2.2⟩,⟨fun hi=>?_,fun M hM hi=>?_,fun q hq hi=>?_⟩,H.ldis,H.lnu,?_,H.lnew,?_,?_,H.yl⟩
 ·have:=r6.step (K:=[]) (η':=ηr) (η:=ηr) k (fun _ _=>rfl) (fun q hm hg=>ht.heap q (p9.lt H.hp ⟨b,B,hb,hm,hg⟩) (hni q ⟨b,B,hb,hm,hg⟩)) (H.hp.blk b B hb)
  rwa [z9] at this
 ·by_cases hlt:q<W.heap.size
  ·have:=H.hp.av q (sub q hlt hq); exact ⟨Nat.lt_of_lt_of_le this.1 ht.size,this.2⟩
  ·refine ⟨?_,fun hl=>hlt (p9.lt H.hp hl)⟩;rcases hq with h1|h1|h1|h1|h1
   ·have:=(H.hp.av q (.inl h1)).1; omega
   ·have:=(H.hp.av q (.inr (.inl h1))).1; omega
   ·have:=(H.hp.av q (.inr (.inr (.inl h1)))).1; omega
   ·rcases hI q h1 with h2|h2
    ·have:=(H.hp.av q (.inr (.inr (.inr (.inl h2))))).1; omega
    ·exact h2.2
   ·subst h1; omega
 ·rcases hI q hq with h2|h2
  ·exact H.iold q h2 hlt
  ·have:=H.frm.size; omega
 ·exact (ht.heap M (Array.getElem?_eq_some_iff.1 (H.mks M hM).2).1 (H.idis.2.1 M hM)).trans (H.mks M hM).2
 ·rcases hI q hi with h2|h2
  ·exact (H.dis q hq).2.2.1 h2
  ·have:=(H.hp.av q (.inl hq)).1; omega
 ·rcases hI l hi with h2|h2
  ·exact H.idis.1 h2
  ·omega
 ·rcases hI M hi with h2|h2
  ·exact H.idis.2.1 M hM h2
  ·have:=(Array.getElem?_eq_some_iff.1 (H.mks M hM).2).1; omega
 ·rcases hI q hi with h2|h2
  ·exact H.idis.2.2 q hq h2
  ·have:=(H.hp.av q (.inr (.inl hq))).1; omega
 ·exact (ht.heap l hlt H.idis.1).trans H.rcd
 ·intro q r hq;obtain ⟨h1,h2⟩:=H.rds q r hq;exact ⟨h1,(ht.heap q (Array.getElem?_eq_some_iff.1 h2).1 (H.idis.2.2 q h1)).trans h2⟩
 ·refine g.cl _ _ _ _ _ H.know (ht.mono fun q _ hi=>.inr (.inr (.inr (.inl hi)))) fun q hq=>?_;rcases hq with h1|h1|h1|h1|h1
  ·exact .inl (.inl h1)
  ·exact .inl (.inr (.inl h1))
  ·exact .inl (.inr (.inr (.inl h1)))
  ·rcases hI q h1 with h2|h2
   ·exact .inl (.inr (.inr (.inr (.inl h2))))
   ·exact .inr h2
  ·exact .inl (.inr (.inr (.inr (.inr h1))))
theorem LoopSt.putl (H:LoopSt L0 w0 tmps l0 ηe Ms l h g lp C I W ηr A1) (lp':Loop):LoopSt L0 w0 tmps l0 ηe Ms l h g lp' C I (W.putObj l (.loop lp')) ηr A1:=by
 have hlt:l<W.heap.size:=(Array.getElem?_eq_some_iff.1 H.rcd).1;have hs:W.heap.size≤(W.putObj l (.loop lp')).heap.size:=by simp
 have hc:∀ (q:Nat) ob,W.heap[q]?=some ob→a3w ob=true→(W.putObj l (.loop lp')).heap[q]?=W.heap[q]?:=fun q ob hq hr=>World.putObj_heap_other fun e=>by subst e; rw [H.rcd] at hq; cases hq; cases hr
 refine ⟨H.cdef,a6r hs hc H.hp,fun i=>a4A hs hc _ _ (H.tmp i),H.hd,⟨H.frm.os,H.frm.tape,H.frm.output,Nat.le_trans H.frm.size hs,fun q hq hn=>?_⟩,H.old,H.iold,fun M hM=>⟨(H.mks M hM).1,?_⟩,H.dis,H.idis,H.ldis,H.lnu,World.putObj_heap_same hlt,H.lnew,?_,?_,H.yl⟩
 ·rw [World.putObj_heap_other (fun e=>by subst e; have h1:=H.lnew; have h2:q<w0.heap.size:=hq; omega)]; exact H.frm.heap q hq hn
 ·rw [World.putObj_heap_other (fun e=>by subst e; exact H.ldis hM)]; exact (H.mks M hM).2
 ·intro q r hq;obtain ⟨h1,h2⟩:=H.rds q r hq;have hne:q≠l:=fun e=>H.lnu (by rw [← e]; exact h1);exact ⟨h1,by rw [World.putObj_heap_other hne]; exact h2⟩
 ·refine g.cl _ _ _ _ _ H.know ⟨rfl,rfl,rfl,hs,fun q _ hq=>World.putObj_heap_other fun e=>hq (.inr (.inr (.inr (.inr e))))⟩ fun q hq=>.inl hq
def a2S (w0:Old) (W:World) (ηe:Nat→Value) (A1 I:Nat→Prop) (Ms:List Nat) (l:Nat) (lp:Loop):Old:={ toWorld:=W,ηh:=ηe,A:=A1,U:=fun q=>w0.U q∨q∈Ms∨I q∨q=l,rd:=some (l,lp) }
def a37 (ηr:Nat→Value) (h:List (Nat×ABlk)) (g:Gh) (A1:Nat→Prop) (l:Nat):Nat→Prop:=fun q=>p9 ηr (b6 h) q∨(g.yl=true∧A1 q)∨q=l
def b0M:List (Nat×AVal)→List (Nat×AVal)→List (Nat×AVal)
 | [],l=>l
 | p::r,l=>b0M r (p::l)
theorem b0L {η:Nat→Value} {A:Nat→Prop}:∀ (ps:List Tmp) (ys:List AVal) (us:List Value) (l:List (Nat×AVal)) (tmps:Array Value),ps.length=ys.length→d6 η W A ys us→(∀ p∈ps,p<tmps.size)→(∀ i,d9 η W A (fr l i) (tmps.getD i undef)) →
  ∀ i,d9 η W A (fr (b0M (ps.zip ys) l) i) (((ps.zip us).foldl (fun t (q:Nat×Value)=>t.setIfInBounds q.1 q.2) tmps).getD i undef)
 | [],[],us,l,tmps,_,hv,_,hl,i=>by simpa [b0M] using hl i
 | p::ps,y::ys,us,l,tmps,hn,hv,hp,hl,i=>by
  unfold d6 at hv;obtain ⟨u,us',rfl,hu,hv⟩:=hv;simp only [List.zip_cons_cons,b0M,List.foldl_cons];refine b0L ps ys us' ((p,y)::l) (tmps.setIfInBounds p u) (by simpa using hn) hv (fun q hq=>by rw [Array.size_setIfInBounds]; exact hp q (by simp [hq])) (fun j=>?_) i;unfold fr
  by_cases e:j=p
  ·subst e;rw [if_pos rfl];have hlt:=hp j (by simp);have:(tmps.setIfInBounds j u).getD j undef=u:=by
    rw [Array.getD_eq_getD_getElem?]; simp [hlt]
   rw [this]; exact hu
  ·rw [if_neg e];have:(tmps.setIfInBounds p u).getD j undef=tmps.getD j undef:=by
    rw [Array.getD_eq_getD_getElem?,Array.getD_eq_getD_getElem?,Array.getElem?_setIfInBounds_ne (Ne.symm e)]
   rw [this]; exact hl j
theorem LoopSt.toRel {n:Nat} (H:LoopSt L0 w0 tmps l0 ηe Ms l h g lp C I W ηr A1) (hn:tmps.size=n) (hfew:n≤1000) {ps:List Tmp} {ys:List AVal} {us:List Value} (hps:ps.length=ys.length) (hpl:∀ p∈ps,p<n) (hv:d6 ηr W (Av (AR w0 Ms l A1 I) ηr (b6 h)) ys us) :
  Rel n [] (AR w0 Ms l A1 I) (a37 ηr h g A1 l) (a2S w0 W ηe A1 I Ms l lp) ηr ⟨fr (b0M (ps.zip ys) l0),b6 h,g⟩ { tmps:=(ps.zip us).foldl (fun t (q:Nat×Value)=>t.setIfInBounds q.1 q.2) tmps,defers:=[] } W:=by
 have hsz:∀ (l:List (Nat×Value)) (t:Array Value),(l.foldl (fun t (q:Nat×Value)=>t.setIfInBounds q.1 q.2) t).size=t.size:=by
  intro l
  induction l with
  | nil=>intro t; rfl
  | cons x l ih=>intro t; rw [List.foldl_cons,ih,Array.size_setIfInBounds]
 refine ⟨by rw [hsz]; exact hn,hfew,H.hd,b0L ps ys us l0 tmps hps hv (by rw [hn]; exact hpl) H.tmp,H.hp,Fr.refl _ _,fun q hq _=>.inl hq,⟨A1,[],rfl,List.nodup_nil,by simp,?_,?_,?_,?_,?_⟩⟩
 ·rintro q hq (h1|h1|h1|h1)
  ·exact (H.dis q hq).1 h1
  ·exact (H.dis q hq).2.1 h1
  ·exact (H.dis q hq).2.2.1 h1
  ·exact (H.dis q hq).2.2.2 h1
 ·intro q r hq
  cases hq
  exact ⟨.inr (.inr (.inr rfl)),H.rcd⟩
 ·intro q;simp [AR,a2S]
 ·exact g.cl _ _ _ _ _ H.know (Turns.refl _ _) fun q hq=>.inl (by simpa [a2S] using hq)
 ·show if g.yl=true then _ else _
  split
  ·rename_i e; exact fun q hq _=>.inr (.inl ⟨e,hq⟩)
  ·rfl
theorem LoopSt.ofRel {n:Nat} {lp':Loop} (H:LoopSt L0 w0 tmps l0 ηe Ms l h g lp C I W ηr A1) {A0':Nat→Prop} {η':Nat→Value} {s':ASt} {a':Act} {W':World} (hr:Rel n [] A0' (a37 ηr h g A1 l) (a2S w0 W ηe A1 I Ms l lp') η' s' a' W')
  {h':List (Nat×ABlk)} {D N:List Nat} {ρ:Nat→Nat} (ok:E3 ρ D N h'=true) (hle:LeH s'.H D N ρ h') (hyl:s'.g.yl=g.yl) (hid:∀ i b,(fr l0 i).has b=true→R3 b∧(b6 h b).isSome=true∧(b6 h' b).isSome=true) :
  ∃ C' ηr' A1',LoopSt L0 w0 tmps l0 ηe Ms l h' s'.g lp' C' I W' ηr' A1'∧Turns C W W'∧(∀ q,C' q→C q∨(W.heap.size≤q∧q<W'.heap.size)):=by
 have hn:=a1J ok;have hnh:=a1K ok;obtain ⟨A1',Ms',k1,k2,k3,k7,k8,k4,k5,k6⟩:=hr.gh;have hA1':∀ q,A1' q→q<W.heap.size→A1 q∨p9 ηr (b6 h) q:=by
  intro q hq hlt;rw [hyl] at k6
  split at k6
  ·rcases k6 q hq hlt with h1|h1
   ·exact .inr h1
   ·rcases h1 with h1|h1
    ·exact .inl h1.2
    ·subst h1; exact absurd (.inr (.inr (.inr rfl))) (k7 q hq)
  ·rw [k6] at hq; exact .inl hq
 have hLn:∀ q,a37 ηr h g A1 l q→C q:=fun q hq=>(H.cdef q).2 (hq.imp id fun h1=>h1.elim (fun h1=>.inl h1.2) fun h1=>.inr (.inr (.inr h1)));have hlive:∀ q,p9 (M6 η' N ρ) (b6 h') q→p9 η' s'.H q:=fun q hq=>by
  obtain ⟨c,B,B0,_,_,j3,j4,_,j6⟩:=a2n hle hq;exact ⟨_,B0,j3,j4,j6⟩
 have hlive':∀ q,p9 (M6 η' N ρ) (b6 h') q→q<W.heap.size→a37 ηr h g A1 l q:=fun q hq hlt=>hr.old q (hlive q hq) hlt
 have hsub:∀ q,AR w0 Ms l A1' I q→A0' q:=fun q hq=>(k4 q).2 (by
  rcases hq with h1|h1
  ·exact .inl h1
  ·exact .inr (.inl h1))
 obtain ⟨r1,_,_⟩:=a8i (A1:=AR w0 Ms l A1' I) hr.hp hn hle (fun q hq=>(hr.hp.av q (hsub q hq)).1) (fun q hq=>.inl (hsub q hq)) (fun q b e t xs hq hb _ hbl=>(hr.hp.av q (hsub q hq)).2 ⟨b,_,hb,rfl,hbl⟩) (fun q hq hl=>(hr.hp.av q (hsub q hq)).2 (hlive q hl)) (.inl (a2m ok));have hhd:∀ b,R3 b→(b6 h' b).isSome=true→M6 η' N ρ b=ηe b:=by
  intro b hb hsm;obtain ⟨B,hB⟩:=Option.isSome_iff_exists.1 hsm;rcases LeH.get hle hB with ⟨hc,_⟩|⟨hc,B0,hB0,_⟩
  ·exact absurd hb (hnh.nil b B hB hc)
  ·have e:=hnh.hand b B hB hc hb;have:M6 η' N ρ b=η' b:=by
    unfold M6;rw [hc,e]; simp
   rw [this];rw [e] at hB0;exact hr.hd b hb (by rw [hB0]; rfl)
 have hLl:∀ q,a37 ηr h g A1 l q→q<w0.heap.size→L0 q:=by
  rintro q (h1|⟨h1,h2⟩|h1) hlt
  ·exact H.old q h1 hlt
  ·have:=H.yl; rw [h1,if_pos rfl] at this; exact this q h2 hlt
  ·subst h1; have:=H.lnew; omega
 have hUn:∀ q,(w0.U q∨q∈Ms)→¬ a37 ηr h g A1 l q:=by
  rintro q hu (h1|h1|h1)
  ·exact (H.hp.av q (.inr (hu.elim .inl fun h=>.inr (.inl h)))).2 h1
  ·have:=H.dis q h1.2;rcases hu with h2|h2
   ·exact this.1 h2
   ·exact this.2.1 h2
  ·subst h1; exact hu.elim H.lnu H.ldis
 have hsame:∀ q,q<W.heap.size→¬ a37 ηr h g A1 l q→W'.heap[q]?=W.heap[q]?:=hr.fr.heap;have k:Keeps (Av (AR w0 Ms l A1 I) ηr (b6 h)) (Av (AR w0 Ms l A1' I) (M6 η' N ρ) (b6 h')) W W':=by
  refine ⟨hr.fr.size,fun q hq hc=>hsame q hq fun hl=>hc (by
   rcases hl with h1|h1
   ·exact .inr h1
   ·exact .inl (h1.elim (fun h1=>.inl h1.2) fun h1=>.inr (.inr (.inr (.inr h1))))),fun q hq hc=>?_⟩
  rcases hc with (h1|h1)|h1
  ·rcases hA1' q h1 hq with h2|h2
   ·exact .inl (.inl h2)
   ·exact .inr h2
  ·exact .inl (.inr h1)
  ·rcases hlive' q h1 hq with h2|h2
   ·exact .inr h2
   ·exact .inl (h2.elim (fun h2=>.inl h2.2) fun h2=>.inr (.inr (.inr (.inr h2))))
 refine ⟨fun q=>p9 (M6 η' N ρ) (b6 h') q∨A1' q∨w0.U q∨q∈Ms∨q=l,M6 η' N ρ,A1',⟨fun q=>Iff.rfl,r1,fun i=>d9.step k _ _ (fun b hb=>?_) (H.tmp i),hhd,⟨hr.fr.os.trans H.frm.os,hr.fr.tape.trans H.frm.tape,hr.fr.output.trans H.frm.output,Nat.le_trans H.frm.size hr.fr.size,fun q hq hc=>?_⟩,fun q hq hlt=>hLl q (hlive' q hq (Nat.lt_of_lt_of_le hlt H.frm.size)) hlt,H.iold,fun M hM=>⟨(H.mks M hM).1,?_⟩,fun q hq=>?_,H.idis,H.ldis,H.lnu,?_,H.lnew,?_,?_,?_⟩,?_,?_⟩
 ·obtain ⟨h1,h2,h3⟩:=hid i b hb;rw [hhd b h1 h3,H.hd b h1 h2]
 ·exact (hsame q (Nat.lt_of_lt_of_le hq H.frm.size) fun hl=>hc (hLl q hl hq)).trans (H.frm.heap q hq hc)
 ·exact (hsame M (Array.getElem?_eq_some_iff.1 (H.mks M hM).2).1 (hUn M (.inr hM))).trans (H.mks M hM).2
 ·have:=k7 q hq;refine ⟨fun h1=>this (.inl h1),fun h1=>this (.inr (.inl h1)),fun h1=>this (.inr (.inr (.inl h1))),fun h1=>this (.inr (.inr (.inr h1)))⟩
 ·exact (k8 l lp' rfl).2
 ·intro q r hq;obtain ⟨h1,h2⟩:=H.rds q r hq;exact ⟨h1,(hsame q (Array.getElem?_eq_some_iff.1 h2).1 (hUn q (.inl h1))).trans h2⟩
 ·refine s'.g.cl _ _ _ _ _ k5 (Turns.refl _ _) fun q hq=>.inl ?_;rcases hq with h1|h1
  ·exact .inl (hlive q h1)
  ·exact .inr (.inl h1)
 ·have hy:=H.yl;rw [hyl] at k6 ⊢
  split
  ·rename_i e;rw [e,if_pos rfl] at hy k6;intro q hq hlt;exact hLl q (k6 q hq (Nat.lt_of_lt_of_le hlt H.frm.size)) hlt
  ·rename_i e;rw [if_neg e] at hy k6;rw [k6]; exact hy
 ·exact ⟨hr.fr.os,hr.fr.tape,hr.fr.output,hr.fr.size,fun q hq hc=>hsame q hq fun hl=>hc (hLn q hl)⟩
 ·rintro q (h1|h1|h1)
  ·by_cases hlt:q<W.heap.size
   ·exact .inl (hLn q (hlive' q h1 hlt))
   ·exact .inr ⟨by omega,p9.lt r1 h1⟩
  ·by_cases hlt:q<W.heap.size
   ·rcases hA1' q h1 hlt with h2|h2
    ·exact .inl ((H.cdef q).2 (.inr (.inl h2)))
    ·exact .inl ((H.cdef q).2 (.inl h2))
   ·exact .inr ⟨by omega,(r1.av q (.inl h1)).1⟩
  ·exact .inl ((H.cdef q).2 (.inr (.inr h1)))
end
end Go.Proofs.YtanaeefeggokkaaGreat
/-! The abstract machine,20: the statement that ranges over a function. No program is named here. -/
namespace Go.Proofs.YtanaeefeggokkaaGreat
open Go.RowKit
set_option linter.constructorNameAsVariable false
set_option linter.unusedVariables false
section
variable {S R Y X:Type} {P:Program} {n:Nat}
def lgh (L0:Nat→Prop) (w0:Old) (tmps:Array Value) (l0:List (Nat×AVal)) (ηe:Nat→Value) (Ms:List Nat) (l:Nat) (h:X→List (Nat×ABlk)) (gg:X→Gh) (lp:X→Loop) (st:X):Gh where
 yl:=true
 J C I W:=∃ ηr A1,LoopSt L0 w0 tmps l0 ηe Ms l (h st) (gg st) (lp st) C I W ηr A1
 cl:=fun _ _ _ _ _ ⟨ηr,A1,H⟩ ht hi=>⟨ηr,A1,H.turn ht hi⟩
def L3 (fn:FuncId) (tmps:Array Value) (ps:Array Tmp) (assign bd:Code) (dfb:Nat) (st:LoopState) (pe:Option Code):Loop:={ state:=st,pending:=pe,fn,tmps,params:=ps,assign,body:=bd,defers:=dfb }
def b22 (h:S→List (Nat×ABlk)) (gg:S→Gh) (hx:R→List (Nat×ABlk)) (gx:R→Gh) (code:R→Code):Step S R→Exit→ASt→Prop
 | .next st',e,s=>e=.normal∧s.g=gg st'∧∃ (D N:List Nat) (rn:List (Nat×Nat)),E3 (g6 rn) D N (h st')=true∧LeH s.H D N (g6 rn) (h st')
 | .done r,e,s=>((e=.ret∧code r=.ret)∨∃ id,e=.exit id∧code r=.exit id)∧s.g=gx r∧∃ (D N:List Nat) (rn:List (Nat×Nat)),E3 (g6 rn) D N (hx r)=true∧LeH s.H D N (g6 rn) (hx r)
theorem a0f {h:S→List (Nat×ABlk)} {gg:S→Gh} {hx:R→List (Nat×ABlk)} {gx:R→Gh} {code:R→Code} {st':S} {s:ASt} (hg:s.g=gg st') (D N:List Nat) (rn:List (Nat×Nat)) (ok:E3 (g6 rn) D N (h st')=true) (hl:LeH s.H D N (g6 rn) (h st')) :
  b22 h gg hx gx code (.next st') .normal s:=⟨rfl,hg,D,N,rn,ok,hl⟩
theorem b3W {h:S→List (Nat×ABlk)} {gg:S→Gh} {hx:R→List (Nat×ABlk)} {gx:R→Gh} {code:R→Code} {r:R} {s:ASt} (hc:code r=.ret) (hg:s.g=gx r) (D N:List Nat) (rn:List (Nat×Nat)) (ok:E3 (g6 rn) D N (hx r)=true) (hl:LeH s.H D N (g6 rn) (hx r)) :
  b22 h gg hx gx code (.done r) .ret s:=⟨.inl ⟨rfl,hc⟩,hg,D,N,rn,ok,hl⟩
theorem Rel.putLoop {L0 A0:Nat→Prop} {w0:Old} {η:Nat→Value} {s:ASt} {a:Act} {w:World} {ds:List Deferred} (h:Rel n ds A0 L0 w0 η s a w) {l:Nat} {lp lp':Loop} (hrd:w0.rd=some (l,lp)) (hl:L0 l):Rel n ds A0 L0 { w0 with rd:=some (l,lp') } η s a (w.putObj l (.loop lp')):=by
 obtain ⟨A1,Ms,k1,k2,k3,k7,k8,k4,k5,k6⟩:=h.gh;obtain ⟨hU,hlp⟩:=k8 l lp hrd;have hlt:l<w.heap.size:=(Array.getElem?_eq_some_iff.1 hlp).1;have hs:w.heap.size≤(w.putObj l (.loop lp')).heap.size:=by simp
 have hc:∀ (q:Nat) ob,w.heap[q]?=some ob→a3w ob=true→(w.putObj l (.loop lp')).heap[q]?=w.heap[q]?:=fun q ob hq hr=>World.putObj_heap_other fun e=>by subst e; rw [hlp] at hq; cases hq; cases hr
 refine ⟨h.size,h.few,h.hd,fun i=>a4A hs hc _ _ (h.tmp i),a6r hs hc h.hp,⟨h.fr.os,h.fr.tape,h.fr.output,Nat.le_trans h.fr.size hs,fun q hq hn=>?_⟩,h.old,⟨A1,Ms,k1,k2,fun M hM=>⟨(k3 M hM).1,(k3 M hM).2.1,?_⟩,k7,fun q r hq=>?_,k4,?_,k6⟩⟩
 ·rw [World.putObj_heap_other (fun e=>hn (by rw [e]; exact hl))]; exact h.fr.heap q hq hn
 ·rw [World.putObj_heap_other (fun e=>by subst e; rw [(k3 M hM).2.2] at hlp; cases hlp)]; exact (k3 M hM).2.2
 ·cases hq
  exact ⟨hU,World.putObj_heap_same hlt⟩
 ·exact s.g.cl _ _ _ _ _ k5 ⟨rfl,rfl,rfl,hs,fun q _ hq=>World.putObj_heap_other fun e=>hq (.inr (.inl (by rw [e]; exact hU)))⟩ fun q hq=>.inl hq
variable {L0:Nat→Prop} {w0:Old} {tmps:Array Value} {l0:List (Nat×AVal)} {ηe:Nat→Value} {Ms:List Nat} {l:Nat} {enc:Y→List AVal} {bodyP:Y→S→Option (Step S R)}
 {h:S→List (Nat×ABlk)} {gg:S→Gh} {hx:R→List (Nat×ABlk)} {gx:R→Gh} {code:R→Code} {ps:Array Tmp} {assign bd:Code} {fnid:FuncId} {dfb:Nat}
theorem a7i (hn:tmps.size=n) (hfew:n≤1000)
  (henc:∀ y,(enc y).length=ps.size) (hno:∀ y b,AVal.hasL (enc y) b=false) (hpl:∀ p∈ps.toList,p<n)
  (hyl:∀ st st',(gg st).yl=(gg st').yl) (hylx:∀ st r,(gx r).yl=(gg st).yl)
  (hid:∀ i b,(fr l0 i).has b=true→R3 b∧(∀ st,(b6 (h st) b).isSome=true)∧∀ r,(b6 (hx r) b).isSome=true)
  (hround:∀ y st x,bodyP y st=some x→AW P (some l) n assign (fun e s1=>e=.normal∧AW P (some l) n bd (b22 h gg hx gx code x) s1) ⟨fr (b0M (ps.toList.zip (enc y)) l0),b6 (h st),gg st⟩) :
  a7K P l enc bodyP (lgh L0 w0 tmps l0 ηe Ms l h gg fun _=>L3 fnid tmps ps assign bd dfb .ready none) (lgh L0 w0 tmps l0 ηe Ms l hx gx fun r=>L3 fnid tmps ps assign bd dfb .done (some (code r))):=by
 rintro y st x hxe η A I w us ⟨ηr,A1,H⟩ hA hI hv
 have hsub:∀ q,Av (AR w0 Ms l A1 I) ηr (b6 (h st)) q→A q∨I q:=by
  rintro q ((h1|h1|h1|h1|h1)|h1)
  ·exact .inl ((H.cdef q).2 (.inr (.inl h1)))
  ·exact .inl ((H.cdef q).2 (.inr (.inr (.inl h1))))
  ·exact .inl ((H.cdef q).2 (.inr (.inr (.inr (.inl h1)))))
  ·exact .inr h1
  ·exact .inl ((H.cdef q).2 (.inr (.inr (.inr (.inr h1)))))
  ·exact .inl ((H.cdef q).2 (.inl h1))
 have hv':d6 ηr w (Av (AR w0 Ms l A1 I) ηr (b6 (h st))) (enc y) us.toList :=
  d6.step ⟨Nat.le_refl _,fun _ _ _=>rfl,fun q _ hq=>hsub q hq⟩ _ _ (fun b hb=>by rw [hno y b] at hb; cases hb) hv
 have hus:us.size=ps.size:=by
  have:=hv.length;rw [henc y] at this;simpa using this.symm
 have hlt:l<w.heap.size:=(Array.getElem?_eq_some_iff.1 H.rcd).1;refine ⟨_,_,_,_,run_yield (P:=P) (args:=us) H.rcd hus,?_⟩;have hfold:(((L3 fnid tmps ps assign bd dfb .ready none).params.zip us).foldl (fun tmps (t,a)=>tmps.setIfInBounds t a) (L3 fnid tmps ps assign bd dfb .ready none).tmps)=(ps.toList.zip us.toList).foldl (fun t (q:Nat×Value)=>t.setIfInBounds q.1 q.2) tmps:=by
  show (ps.zip us).foldl _ tmps=_;rw [← Array.foldl_toList,Array.toList_zip]
 rw [hfold];have hrel:=H.toRel (n:=n) hn hfew (ps:=ps.toList) (ys:=enc y) (us:=us.toList) (by rw [henc y]; simp) hpl hv';refine roundIn_of_wpIn trivial (wpIn_mono (hround y st x hxe 0 [] _ _ _ ηr _ w rfl hrel) ?_)
 rintro e a1 w1 ⟨A0',η',s1,⟨rfl,hbody⟩,hr1⟩
 have hrd1:(a2S w0 w ηe A1 I Ms l (L3 fnid tmps ps assign bd dfb .ready none)).rd=some (l,L3 fnid tmps ps assign bd dfb .ready none):=rfl;obtain ⟨_,_,_,_,_,_,hk8,_⟩:=hr1.gh;have hl1:=(hk8 l _ hrd1).2;have hbeg:=run_beginRound (P:=P) hl1 rfl;refine ⟨_,hbeg,?_⟩;have hr2:=hr1.putLoop hrd1 (lp':=L3 fnid tmps ps assign bd dfb .busy none) (.inr (.inr rfl));refine wpIn_mono (hbody 0 [] _ _ _ η' _ _ rfl hr2) ?_
 rintro e a2 w2 ⟨A0'',η2,s2,hQ,hr3⟩
 have hr3':Rel n [] A0'' (a37 ηr (h st) (gg st) A1 l) (a2S w0 w ηe A1 I Ms l (L3 fnid tmps ps assign bd dfb .busy none)) η2 s2 a2 w2:=hr3;have hl3:=(show w2.heap[l]?=some (.loop (L3 fnid tmps ps assign bd dfb .busy none)) from by obtain ⟨_,_,_,_,_,_,hk8,_⟩:=hr3'.gh; exact (hk8 l _ rfl).2)
 cases x with
 | next st' =>
  obtain ⟨rfl,hg,D,N,rn,ok,hle⟩:=hQ;obtain ⟨C',ηr',A1',H',ht,hC'⟩:=H.ofRel hr3' ok hle (by rw [hg]; exact hyl _ _) (fun i b hb=>⟨(hid i b hb).1,(hid i b hb).2.1 st,(hid i b hb).2.1 st'⟩);have hend:=run_endRound (P:=P) none hl3;refine ⟨_,_,hend,ht.trans ⟨rfl,rfl,rfl,by simp,fun q hq hn=>World.putObj_heap_other fun e=>hn ((H.cdef q).2 (.inr (.inr (.inr (.inr e)))))⟩,C',fun q hq=>by simpa using hC' q hq,rfl,ηr',A1',?_⟩;rw [← hg];exact H'.putl _
 | done r =>
  obtain ⟨hcode,hg,D,N,rn,ok,hle⟩:=hQ;obtain ⟨C',ηr',A1',H',ht,hC'⟩:=H.ofRel hr3' ok hle (by rw [hg]; exact hylx _ _) (fun i b hb=>⟨(hid i b hb).1,(hid i b hb).2.1 st,(hid i b hb).2.2 r⟩);have hend:=run_endRound (P:=P) (some (code r)) hl3;have fin:Turns A w (w2.putObj l (.loop (L3 fnid tmps ps assign bd dfb .done (some (code r)))))∧∃ A':Nat→Prop,(∀ q,A' q→A q∨(w.heap.size≤q∧q<(w2.putObj l (.loop (L3 fnid tmps ps assign bd dfb .done (some (code r))))).heap.size)) ∧
    Ending.returned (.bool false)=.returned (.bool false)∧(lgh L0 w0 tmps l0 ηe Ms l hx gx (fun r=>L3 fnid tmps ps assign bd dfb .done (some (code r))) r).J A' I (w2.putObj l (.loop (L3 fnid tmps ps assign bd dfb .done (some (code r))))):=by
   refine ⟨ht.trans ⟨rfl,rfl,rfl,by simp,fun q hq hn=>World.putObj_heap_other fun e=>hn ((H.cdef q).2 (.inr (.inr (.inr (.inr e)))))⟩,C',fun q hq=>by simpa using hC' q hq,rfl,ηr',A1',?_⟩;rw [← hg];exact H'.putl _
  rcases hcode with ⟨rfl,hc⟩|⟨id,rfl,hc⟩
  ·exact ⟨.bool false,w2.putObj l (.loop (L3 fnid tmps ps assign bd dfb .done (some (code r)))),by rw [← hc]; exact hend,fin⟩
  ·exact ⟨.bool false,w2.putObj l (.loop (L3 fnid tmps ps assign bd dfb .done (some (code r)))),by rw [← hc]; exact hend,fin⟩
end
end Go.Proofs.YtanaeefeggokkaaGreat
/-! The abstract machine,21: ranges over functions,whole. No program is named here. -/
namespace Go.Proofs.YtanaeefeggokkaaGreat
open Go.RowKit
set_option linter.constructorNameAsVariable false
set_option linter.unusedVariables false
mutual
theorem a80 {η:Nat→Value} {w:World} {A:Nat→Prop} {f:Nat→Nat}:∀ (x:AVal) (v:Value),d9 η w A (x.ren f) v→d9 (fun b=>η (f b)) w A x v
 | .un,v,h=>by unfold d9; trivial
 | .int _ _,v,h=>by unfold AVal.ren at h; unfold d9 at *; exact h
 | .bool _,v,h=>by unfold AVal.ren at h; unfold d9 at *; exact h
 | .sl t xs,v,h=>by unfold AVal.ren at h; unfold d9 at *; exact h
 | .cut t xs,v,h=>by unfold AVal.ren at h; unfold d9 at *; exact h
 | .dp t x o,v,h=>by unfold AVal.ren at h; unfold d9 at *; exact h
 | .cv _,v,h=>by unfold AVal.ren at h; unfold d9 at *; exact h
 | .own b,v,h=>by unfold AVal.ren at h; unfold d9 at *; exact h
 | .bp b o,v,h=>by unfold AVal.ren at h; unfold d9 at *; exact h
 | .ap b z i o,v,h=>by unfold AVal.ren at h; unfold d9 at *; exact h
 | .vw b z i o,v,h=>by unfold AVal.ren at h; unfold d9 at *; exact h
 | .one,v,h=>by unfold AVal.ren at h; unfold d9 at *; exact h
 | .agg l,v,h=>by
  unfold AVal.ren at h;unfold d9 at *;obtain ⟨vs,e,hl⟩:=h;exact ⟨vs,e,a0b l _ hl⟩
 | .tup l,v,h=>by
  unfold AVal.ren at h;unfold d9 at *;obtain ⟨vs,e,hl⟩:=h;exact ⟨vs,e,a0b l _ hl⟩
 | .fn g p c,v,h=>by
  unfold AVal.ren at h;unfold d9 at *;obtain ⟨ps,cs,e,hp,hc⟩:=h;exact ⟨ps,cs,e,a0b p _ hp,a0b c _ hc⟩
theorem a0b {η:Nat→Value} {w:World} {A:Nat→Prop} {f:Nat→Nat}:∀ (l:List AVal) (vs:List Value),d6 η w A (AVal.renL f l) vs→d6 (fun b=>η (f b)) w A l vs
 | [],vs,h=>by unfold AVal.renL at h; unfold d6 at *; exact h
 | x::l,vs,h=>by
  unfold AVal.renL at h;unfold d6 at *;obtain ⟨u,us,e,hx,hl⟩:=h;exact ⟨u,us,e,a80 x u hx,a0b l us hl⟩
end
mutual
theorem b3d {f:Nat→Nat}:∀ (x:AVal) {b:Nat},b∈(x.ren f).ids→∃ b0∈x.ids,b=f b0
 | .un,b,h=>by simp [AVal.ren,AVal.ids] at h
 | .int _ _,b,h=>by simp [AVal.ren,AVal.ids] at h
 | .bool _,b,h=>by simp [AVal.ren,AVal.ids] at h
 | .sl t xs,b,h=>by simp [AVal.ren,AVal.ids] at h
 | .cut t xs,b,h=>by simp [AVal.ren,AVal.ids] at h
 | .dp t x o,b,h=>by simp [AVal.ren,AVal.ids] at h
 | .cv _,b,h=>by simp [AVal.ren,AVal.ids] at h
 | .own c,b,h=>by simp only [AVal.ren,AVal.ids,List.mem_singleton] at h; exact ⟨c,by simp [AVal.ids],h⟩
 | .bp c o,b,h=>by simp only [AVal.ren,AVal.ids,List.mem_singleton] at h; exact ⟨c,by simp [AVal.ids],h⟩
 | .ap c z i o,b,h=>by simp only [AVal.ren,AVal.ids,List.mem_singleton] at h; exact ⟨c,by simp [AVal.ids],h⟩
 | .vw c z i o,b,h=>by simp only [AVal.ren,AVal.ids,List.mem_singleton] at h; exact ⟨c,by simp [AVal.ids],h⟩
 | .one,b,h=>by simp [AVal.ren,AVal.ids] at h
 | .agg l,b,h=>by
  simp only [AVal.ren,AVal.ids] at h ⊢;exact a4d l h
 | .tup l,b,h=>by
  simp only [AVal.ren,AVal.ids] at h ⊢;exact a4d l h
 | .fn g p c,b,h=>by
  simp only [AVal.ren,AVal.ids] at h ⊢;rcases List.mem_append.1 h with h|h
  ·obtain ⟨b0,h1,h2⟩:=a4d p h; exact ⟨b0,List.mem_append_left _ h1,h2⟩
  ·obtain ⟨b0,h1,h2⟩:=a4d c h; exact ⟨b0,List.mem_append_right _ h1,h2⟩
theorem a4d {f:Nat→Nat}:∀ (l:List AVal) {b:Nat},b∈AVal.idsL (AVal.renL f l)→∃ b0∈AVal.idsL l,b=f b0
 | [],b,h=>by simp [AVal.renL,AVal.idsL] at h
 | x::l,b,h=>by
  simp only [AVal.renL,AVal.idsL] at h ⊢;rcases List.mem_append.1 h with h|h
  ·obtain ⟨b0,h1,h2⟩:=b3d x h; exact ⟨b0,List.mem_append_left _ h1,h2⟩
  ·obtain ⟨b0,h1,h2⟩:=a4d l h; exact ⟨b0,List.mem_append_right _ h1,h2⟩
end
theorem b3H {η:Nat→Value} {w:World} {A:Nat→Prop} {f:Nat→Nat} {B:ABlk} {h:Value} (hr:r6 η w A (B.ren f) h):r6 (fun b=>η (f b)) w A B h:=by
 cases B with
 | box ty cs =>
  obtain ⟨g,vs,e,hw,hc⟩:=hr;exact ⟨g,vs,e,hw,a0b cs _ hc⟩
 | obx ty cs =>
  have hlen:(AVal.renL f cs).length=cs.length:=a77 f cs;rcases hr with ⟨hn,hn2⟩|⟨g,cap,vs,e1,hw,h1,h2,h3,h4⟩
  ·exact .inl ⟨List.length_eq_zero_iff.1 (by rw [← hlen,hn]; rfl),hn2⟩
  ·rw [hlen] at e1 h1 h4;exact .inr ⟨g,cap,vs,e1,hw,h1,h2,h3,a0b cs _ h4⟩
 | arr e t xs=>exact hr
 | imm t xs=>exact hr
 | map ak ae kt vt xs=>exact hr
def a9W (f:Nat→Nat):List (Nat×AVal)→List (Nat×AVal)
 | []=>[]
 | (i,x)::r=>(i,x.ren f)::a9W f r
def b2w:List (Nat×AVal)→List Nat
 | []=>[]
 | (_,x)::r=>x.ids++b2w r
theorem a7F (f:Nat→Nat):∀ (l:List (Nat×AVal)) (i:Nat),fr (a9W f l) i=(fr l i).ren f
 | [],i=>by simp [a9W,fr,AVal.ren]
 | (j,x)::r,i=>by
  unfold a9W fr
  split
  ·rfl
  ·exact a7F f r i
theorem a7B:∀ {l:List (Nat×AVal)} {i b:Nat},b∈(fr l i).ids→b∈b2w l
 | [],i,b,h=>by simp [fr,AVal.ids] at h
 | (j,x)::r,i,b,h=>by
  unfold fr at h;unfold b2w
  split at h
  ·exact List.mem_append_left _ h
  ·exact List.mem_append_right _ (a7B h)
theorem a7z {f:Nat→Nat}:∀ {h:List (Nat×ABlk)},(∀ c∈m8 h,∀ c'∈m8 h,f c=f c'→c=c')→∀ {c:Nat} {B:ABlk},b6 h c=some B→b6 (D9 f h) (f c)=some (B.ren f)
 | [],_,c,B,hc=>by cases hc
 | (d,E)::r,hi,c,B,hc=>by
  have hck:=N0 hc;unfold b6 at hc;unfold D9 b6
  split at hc
  ·rename_i e; subst e; injection hc with hc; subst hc; rw [if_pos rfl]
  ·rename_i e;rw [if_neg (fun e2=>e (hi c hck d (by simp [m8]) e2))];exact a7z (fun x hx y hy=>hi x (by simp [m8,hx]) y (by simp [m8,hy])) hc
theorem b0T {f:Nat→Nat} {h:List (Nat×ABlk)} {b:Nat} {B:ABlk} (hb:b6 (D9 f h) b=some B):∃ c∈m8 h,b=f c:=by
 induction h with
 | nil=>cases hb
 | cons p r ih =>
  obtain ⟨d,E⟩:=p;unfold D9 b6 at hb
  split at hb
  ·rename_i e; exact ⟨d,by simp [m8],e⟩
  ·obtain ⟨c,hc,e⟩:=ih hb; exact ⟨c,by simp [m8,hc],e⟩
def a9l (r r':List (Nat×Nat)) (ns:List Nat):Bool:=ns.all fun c=>g6 r' (g6 r c)==c
theorem H5 {r r':List (Nat×Nat)} {ns:List Nat} (h:a9l r r' ns=true) {c:Nat} (hc:c∈ns):g6 r' (g6 r c)=c:=by
 have:=List.all_eq_true.1 h c hc;simpa using this
def b24 (r r':List (Nat×Nat)) (ks:List Nat) (ns:List Nat):Bool:=ns.all fun c=>g6 r' (g6 r c)==c&&(if 1000≤c∧c<2000 then g6 r c==c&&g6 r' c==c&&ks.contains c else true)
theorem a6u {r r':List (Nat×Nat)} {ks ns:List Nat} (h:b24 r r' ks ns=true) {c:Nat} (hc:c∈ns):g6 r' (g6 r c)=c∧(R3 c→g6 r c=c∧g6 r' c=c∧c∈ks):=by
 have:=List.all_eq_true.1 h c hc;simp only [Bool.and_eq_true,beq_iff_eq] at this;refine ⟨this.1,fun hh=>?_⟩;have h2:=this.2;rw [if_pos (show 1000≤c∧c<2000 from hh)] at h2;simp only [Bool.and_eq_true,beq_iff_eq,List.contains_iff_mem] at h2;exact ⟨h2.1.1,h2.1.2,h2.2⟩
section
variable {n:Nat} {ds:List Deferred} {L0:Nat→Prop} {w0:Old} {tmps:Array Value} {l0:List (Nat×AVal)} {ηe:Nat→Value} {Ms:List Nat} {l:Nat} {g:Gh} {lp:Loop} {C I:Nat→Prop} {W:World} {ηr:Nat→Value} {A1:Nat→Prop}
theorem a85 {A A':Nat→Prop} {η:Nat→Value} {H:l3} {w w':World} (h:RelH A η H w) {hh:List (Nat×ABlk)} (hs:∀ b B,b6 hh b=some B→H b=some B) (hb:Below w.heap.size w w') {r r':List (Nat×Nat)} (hr:a9l r r' (m8 hh++a2D hh)=true)
  (hmem:∀ b B,b6 hh b=some B→(b,B)∈hh)
  (hA:∀ q,q<w.heap.size→A' q→Av A η H q) (hA2:∀ q,A' q→q<w'.heap.size∧∀ b B,b6 hh b=some B→B.mut=true→hblk (η b)≠some q) :
  RelH A' (fun b=>η (g6 r' b)) (b6 (D9 (g6 r) hh)) w'∧(∀ q,p9 (fun b=>η (g6 r' b)) (b6 (D9 (g6 r) hh)) q→∃ b B,b6 hh b=some B∧B.mut=true∧hblk (η b)=some q) ∧
   Keeps (Av A η H) (Av A' (fun b=>η (g6 r' b)) (b6 (D9 (g6 r) hh))) w w':=by
 have hget:∀ b B,b6 (D9 (g6 r) hh) b=some B→∃ c B0,b6 hh c=some B0∧b=g6 r c∧B=B0.ren (g6 r):=by
  intro b B hbb;obtain ⟨c,hc,e⟩:=b0T hbb;have hinj:∀ c∈m8 hh,∀ c'∈m8 hh,g6 r c=g6 r c'→c=c':=fun c hc c' hc' e=>by
   rw [← H5 hr (List.mem_append_left _ hc),← H5 hr (List.mem_append_left _ hc'),e]
  have hex:∃ B0,b6 hh c=some B0:=by
   have:∀ {l:List (Nat×ABlk)},c∈m8 l→∃ B0,b6 l c=some B0:=by
    intro l
    induction l with
    | nil=>intro h; simp [m8] at h
    | cons p l ih =>
     obtain ⟨d,E⟩:=p;intro h;unfold b6
     by_cases e:c=d
     ·exact ⟨E,if_pos e⟩
     ·rw [if_neg e];refine ih ?_;unfold m8 at h;exact (List.mem_cons.1 h).resolve_left e
   exact this hc
  obtain ⟨B0,hB0⟩:=hex;have:=a7z hinj hB0;rw [← e,hbb] at this;injection this with this;exact ⟨c,B0,hB0,e,this⟩
 have hlive:∀ q,p9 (fun b=>η (g6 r' b)) (b6 (D9 (g6 r) hh)) q→∃ b B,b6 hh b=some B∧B.mut=true∧hblk (η b)=some q:=by
  rintro q ⟨b,B,h1,h2,h3⟩
  obtain ⟨c,B0,e1,rfl,rfl⟩:=hget b B h1;rw [a2j] at h2;simp only [H5 hr (List.mem_append_left _ (N0 e1))] at h3;exact ⟨c,B0,e1,h2,h3⟩
 have k:Keeps (Av A η H) (Av A' (fun b=>η (g6 r' b)) (b6 (D9 (g6 r) hh))) w w':=by
  refine ⟨hb.size,fun q hq _=>hb.block q hq,fun q hq hc=>?_⟩;rcases hc with hc|hc
  ·exact hA q hq hc
  ·obtain ⟨b,B,h1,h2,h3⟩:=hlive q hc;exact .inr ⟨b,B,hs b B h1,h2,h3⟩
 refine ⟨⟨fun b B hbb=>?_,fun b b' B B' q hb1 hb2 hm hm' hq hq'=>?_,fun q hq=>⟨(hA2 q hq).1,fun hl=>?_⟩⟩,hlive,k⟩
 ·obtain ⟨c,B0,e1,rfl,rfl⟩:=hget b B hbb;simp only [H5 hr (List.mem_append_left _ (N0 e1))];have h1:=r6.step (K:=[]) (η':=η) (η:=η) k (fun _ _=>rfl) (B:=B0) (fun q hm hq=>hb.block q (p9.lt h ⟨c,B0,hs c B0 e1,hm,hq⟩)) (h.blk c B0 (hs c B0 e1));rw [z9] at h1;refine a7P (A:=Av A' (fun b=>η (g6 r' b)) (b6 (D9 (g6 r) hh))) (fun _ h=>h) (fun ty cs e b hb=>?_) h1;rcases e with e|e
  ·subst e;simp only [H5 hr (List.mem_append_right _ (a2Z (.inl (hmem _ _ e1)) b hb))]
  ·subst e;simp only [H5 hr (List.mem_append_right _ (a2Z (.inr (hmem _ _ e1)) b hb))]
 ·obtain ⟨c,B0,e1,rfl,rfl⟩:=hget b B hb1;obtain ⟨c',B0',e1',rfl,rfl⟩:=hget b' B' hb2;rw [a2j] at hm hm';simp only [H5 hr (List.mem_append_left _ (N0 e1))] at hq;simp only [H5 hr (List.mem_append_left _ (N0 e1'))] at hq';rw [h.inj c c' B0 B0' q (hs _ _ e1) (hs _ _ e1') hm hm' hq hq']
 ·obtain ⟨b,B,h1,h2,h3⟩:=hlive q hl;exact (hA2 q hq).2 b B h1 h2 h3
theorem LoopSt.out {hh:List (Nat×ABlk)} {r r':List (Nat×Nat)} {ks:List Nat} (hn:tmps.size=n) (hfew:n≤1000) (H:LoopSt L0 w0 tmps (a9W (g6 r) l0) ηe Ms l (D9 (g6 r) hh) g lp C I W ηr A1) (hnd:Ms.Nodup)
  (hout:b24 r r' ks (m8 hh)=true) (hks:∀ c∈ks,R3 c→g6 r' c=c→ηe c=w0.ηh c) :
  Rel n ds (fun q=>A1 q∨w0.U q∨q∈Ms) L0 w0 (fun b=>ηr (g6 r b)) ⟨fr l0,b6 hh,g⟩ { tmps:=tmps,defers:=Ms.map b1a++ds } W:=by
 have hinj:∀ c∈m8 hh,∀ c'∈m8 hh,g6 r c=g6 r c'→c=c':=fun c hc c' hc' e=>by
  rw [← (a6u hout hc).1,← (a6u hout hc').1,e]
 have hat:∀ {c B},b6 hh c=some B→b6 (D9 (g6 r) hh) (g6 r c)=some (B.ren (g6 r)):=fun hc=>a7z hinj hc;have hlive:∀ q,p9 (fun b=>ηr (g6 r b)) (b6 hh) q→p9 ηr (b6 (D9 (g6 r) hh)) q:=fun q ⟨b,B,h1,h2,h3⟩=>⟨_,_,hat h1,by rw [a2j]; exact h2,h3⟩;have hsub:∀ q,(A1 q∨w0.U q∨q∈Ms)→AR w0 Ms l A1 I q:=fun q hq=>by
  rcases hq with h1|h1|h1
  ·exact .inl h1
  ·exact .inr (.inl h1)
  ·exact .inr (.inr (.inl h1))
 have hav:∀ q,Av (fun q=>A1 q∨w0.U q∨q∈Ms) (fun b=>ηr (g6 r b)) (b6 hh) q→Av (AR w0 Ms l A1 I) ηr (b6 (D9 (g6 r) hh)) q:=fun q hq=>hq.imp (hsub q) (hlive q);have k:Keeps (Av (AR w0 Ms l A1 I) ηr (b6 (D9 (g6 r) hh))) (Av (fun q=>A1 q∨w0.U q∨q∈Ms) (fun b=>ηr (g6 r b)) (b6 hh)) W W:=⟨Nat.le_refl _,fun _ _ _=>rfl,fun q _ hq=>hav q hq⟩;refine ⟨hn,hfew,fun b hb hs=>?_,fun i=>?_,⟨fun b B hb=>?_,fun b b' B B' q hb hb' hm hm' hq hq'=>?_,fun q hq=>⟨(H.hp.av q (hsub q hq)).1,fun hl=>(H.hp.av q (hsub q hq)).2 (hlive q hl)⟩⟩,H.frm,fun q hq hlt=>H.old q (hlive q hq) hlt,⟨A1,Ms,rfl,hnd,fun M hM=>⟨(H.mks M hM).1,fun hc=>(H.dis M hc).2.1 hM,(H.mks M hM).2⟩,fun q hq=>(H.dis q hq).1,H.rds,fun _=>Iff.rfl,?_,H.yl⟩⟩
 ·obtain ⟨B,hB⟩:=Option.isSome_iff_exists.1 hs;have hB2:=hat hB;obtain ⟨h1,h2⟩:=a6u hout (N0 hB);obtain ⟨h3,h4,h5⟩:=h2 hb;have h6:=H.hd b hb (by rw [h3] at hB2; rw [hB2]; rfl);show ηr (g6 r b)=_;rw [h3,h6];exact hks b h5 hb h4
 ·have:=H.tmp i;rw [a7F] at this;have h2:=a80 _ _ this;exact d9.step k _ _ (fun _ _=>rfl) h2
 ·have h1:=b3H (H.hp.blk _ _ (hat hb));have h2:=r6.step (K:=[]) (η':=fun b=>ηr (g6 r b)) (η:=fun b=>ηr (g6 r b)) k (fun _ _=>rfl) (fun _ _ _=>rfl) h1
  rwa [z9] at h2
 ·exact hinj b (N0 hb) b' (N0 hb') (H.hp.inj _ _ _ _ q (hat hb) (hat hb') (by rw [a2j]; exact hm) (by rw [a2j]; exact hm') hq hq')
 ·refine g.cl _ _ _ _ _ H.know (Turns.refl _ _) fun q hq=>.inl ?_;rcases hq with h1|h1|h1
  ·exact .inl (hlive q h1)
  ·exact .inr (.inl h1)
  ·exact .inr (.inr (.inl h1))
end
end Go.Proofs.YtanaeefeggokkaaGreat
/-! The abstract machine,22: ranges over functions: the rule. No program is named here. -/
namespace Go.Proofs.YtanaeefeggokkaaGreat
open Go.RowKit
set_option linter.constructorNameAsVariable false
set_option linter.unusedVariables false
set_option linter.unusedSimpArgs false
def b0e:Exit→Code
 | .ret=>.ret
 | .exit id=>.exit id
 | _=>.skip
def b9I:Exit→Bool
 | .ret=>true
 | .exit _=>true
 | _=>false
def b9d:List (Nat×ABlk)→Bool
 | []=>true
 | (c,_)::r=>!i8 r c&&b9d r
section
variable {S R Y:Type} {P:Program} {n:Nat} {ro:Option Nat} {Q:Exit→ASt→Prop}
theorem AW.rangeF {gop:Operand} {ps:Array Tmp} {assign bd:Code} {gf:FuncId} {prev capv:List AVal} {l0 lc:List (Nat×AVal)} {hI:List (Nat×ABlk)} {h0:S→List (Nat×ABlk)} {gg:S→Gh} {hx0:R→List (Nat×ABlk)} {gx:R→Gh} {ex:R→Exit} {enc:Y→List AVal} {bodyP:Y→S→Option (Step S R)} (st0:S) {r:Sum S R}
  (rI rI' rR rR':List (Nat×Nat)) (hfn:n≤1000)
  (hgop:(ASt.mk (fr lc) (b6 (hI++h0 st0)) (gg st0)).ev gop=.fn (.func gf) prev capv)
  (hIC:IC P gf (D9 (g6 rI) hI) (AVal.renL (g6 rI) prev) (AVal.renL (g6 rI) capv) enc bodyP st0 r)
  (hl0:b1w (ASt.mk (fr lc) (b6 (hI++h0 st0)) (gg st0)) l0)
  (hdis:((m8 hI).all fun c=>!i8 (h0 st0) c)=true)
  (hrI:a9l rI rI' (m8 hI++a2D hI++(AVal.idsL prev++AVal.idsL capv))=true) (hrR:a9l rR rR' (m8 (h0 st0)++a2D (h0 st0)++b2w l0)=true)
  (hk:∀ st,m8 (h0 st)=m8 (h0 st0)) (hout:b24 rR rR' (m8 (h0 st0)) (m8 (h0 st0))=true) (houtx:∀ x,b24 rR rR' (m8 (h0 st0)) (m8 (hx0 x))=true)
  (hid:((b2w l0).all fun b=>decide (1000≤g6 rR b)&&decide (g6 rR b<2000)&&i8 (h0 st0) b)=true) (hidx:∀ x,((b2w l0).all fun b=>i8 (hx0 x) b)=true)
  (hex:∀ x,b9I (ex x)=true)
  (henc:∀ y,(enc y).length=ps.size) (hno:∀ y,AVal.idsL (enc y)=[]) (hpl:(ps.toList.all fun p=>decide (p<n))=true)
  (hyl:∀ st st',(gg st).yl=(gg st').yl) (hylx:∀ st x,(gx x).yl=(gg st).yl)
  (hround:∀ l y st x,bodyP y st=some x→AW P (some l) n assign (fun e s1=>e=.normal∧AW P (some l) n bd (b22 (fun st=>D9 (g6 rR) (h0 st)) gg (fun x=>D9 (g6 rR) (hx0 x)) gx (fun x=>b0e (ex x)) x) s1) ⟨fr (b0M (ps.toList.zip (enc y)) (a9W (g6 rR) l0)),b6 (D9 (g6 rR) (h0 st)),gg st⟩)
  (hQ:match (generalizing:=false) r with
   | .inl st=>Q .normal ⟨fr l0,b6 (h0 st),gg st⟩
   | .inr x=>Q (ex x) ⟨fr l0,b6 (hx0 x),gx x⟩):AW P ro n (.rangeFunc gop ps assign bd) Q ⟨fr lc,b6 (hI++h0 st0),gg st0⟩:=by
 intro m ds A0 L0 w0 η a w hq0 hr;obtain ⟨A1,Ms,k1,k2,k3,k7,k8,k4,k5,k6⟩:=hr.gh;have hev:=hr.ev gop;rw [hgop] at hev;unfold d9 at hev;obtain ⟨pv,cv,hgv,hpv,hcv⟩:=hev
 -- the two parts of the memory
 have hH:∀ b,(ASt.mk (fr lc) (b6 (hI++h0 st0)) (gg st0)).H b=match b6 hI b with|some B=>some B|none=>b6 (h0 st0) b:=fun b=>a4J _ _ _
 have hHI:∀ b B,b6 hI b=some B→(ASt.mk (fr lc) (b6 (hI++h0 st0)) (gg st0)).H b=some B:=fun b B hb=>by rw [hH,hb]
 have hHR:∀ b B,b6 (h0 st0) b=some B→(ASt.mk (fr lc) (b6 (hI++h0 st0)) (gg st0)).H b=some B:=fun b B hb=>by
  rw [hH]
  cases hc:b6 hI b with
  | none=>exact hb
  | some B' =>
   have:=List.all_eq_true.1 hdis b (N0 hc);rw [l6.2 ⟨B,hb⟩] at this
   cases this
 have hnd:∀ b B b' B' q,b6 hI b=some B→b6 (h0 st0) b'=some B'→B.mut=true→B'.mut=true→hblk (η b)=some q→hblk (η b')=some q→False:=fun b B b' B' q hb hb' hm hm' hq hq'=>by
  have:=hr.hp.inj b b' B B' q (hHI b B hb) (hHR b' B' hb') hm hm' hq hq';subst this;have h2:=List.all_eq_true.1 hdis b (N0 hb);rw [l6.2 ⟨B',hb'⟩] at h2
  cases h2
 have hA1:∀ q,A1 q→A0 q:=fun q hq=>(k4 q).2 (.inl hq);have hAU:∀ q,w0.U q→A0 q:=fun q hq=>(k4 q).2 (.inr (.inl hq));have hAM:∀ q∈Ms,A0 q:=fun q hq=>(k4 q).2 (.inr (.inr hq));have hiM:∀ {b B q},(ASt.mk (fr lc) (b6 (hI++h0 st0)) (gg st0)).H b=some B→B.mut=true→hblk (η b)=some q→q<w.heap.size∧¬ A0 q:=fun {b B q} h1 h2 h3=>⟨p9.lt hr.hp ⟨b,B,h1,h2,h3⟩,fun hc=>(hr.hp.av q hc).2 ⟨b,B,h1,h2,h3⟩⟩;have hrI1:a9l rI rI' (m8 hI++a2D hI)=true:=List.all_eq_true.2 fun c hc=>List.all_eq_true.1 hrI c (List.mem_append_left _ hc);have hrR1:a9l rR rR' (m8 (h0 st0)++a2D (h0 st0))=true:=List.all_eq_true.2 fun c hc=>List.all_eq_true.1 hrR c (List.mem_append_left _ hc)
 -- whatever blocks the statement lays
 have core:∀ (l:Nat) (Ms':List Nat) (W1:World) (fnid:FuncId) (dfb:Nat),Below w.heap.size w W1→w.heap.size≤l→W1.heap[l]?=some (.loop (L3 fnid a.tmps ps assign bd dfb .ready none))→l ∉ Ms'→Ms'.Nodup →
   (∀ M∈Ms',M∈Ms∨(w.heap.size≤M∧W1.heap[M]?=some (.deferred (some []))))→(∀ M∈Ms,M∈Ms')→
   CallsIn (fen ro) (m - 1) P gf (pv++#[.func (.yield l) #[] #[]]++cv) W1 (rangePost (fen ro) m P l (b2V n ds L0 w0 Q) { tmps:=a.tmps,defers:=Ms'.map b1a++ds }):=by
  intro l Ms' W1 fnid dfb hB hl hrec hlM hMn hM' hMs;have hltl:l<W1.heap.size:=(Array.getElem?_eq_some_iff.1 hrec).1;have hM1:∀ M∈Ms',w0.heap.size≤M∧W1.heap[M]?=some (.deferred (some [])):=fun M hM=>by
   rcases hM' M hM with h1|h1
   ·exact ⟨(k3 M h1).1,(hB.block M (Array.getElem?_eq_some_iff.1 (k3 M h1).2.2).1).trans (k3 M h1).2.2⟩
   ·exact ⟨Nat.le_trans hr.fr.size h1.1,h1.2⟩
  obtain ⟨LI,hLI⟩:∃ LI:Nat→Prop,LI=p9 (fun b=>η (g6 rI' b)) (b6 (D9 (g6 rI) hI)):=⟨_,rfl⟩;have hLI1:∀ q,LI q→∃ b B,b6 hI b=some B∧B.mut=true∧hblk (η b)=some q:=by
   rw [hLI]
   rintro q ⟨b,B,h1,h2,h3⟩
   obtain ⟨c,B0,j1,j2,j3⟩:=a78 _ h1;obtain ⟨c',hc',e⟩:=b0T h1;have hinj:∀ c∈m8 hI,∀ c'∈m8 hI,g6 rI c=g6 rI c'→c=c':=fun c hc c' hc' e=>by
    rw [← H5 hrI1 (List.mem_append_left _ hc),← H5 hrI1 (List.mem_append_left _ hc'),e]
   have hex2:∀ {l:List (Nat×ABlk)},c'∈m8 l→∃ B0,b6 l c'=some B0:=by
    intro l
    induction l with
    | nil=>intro h; simp [m8] at h
    | cons p l ih =>
     obtain ⟨d,E⟩:=p;intro h;unfold b6
     by_cases e:c'=d
     ·exact ⟨E,if_pos e⟩
     ·rw [if_neg e];refine ih ?_;unfold m8 at h;exact (List.mem_cons.1 h).resolve_left e
   obtain ⟨B1,hB1⟩:=hex2 hc';have h4:=a7z hinj hB1;rw [← e,h1] at h4;injection h4 with h4;subst h4;rw [a2j] at h2;subst e;simp only [H5 hrI1 (List.mem_append_left _ hc')] at h3;exact ⟨c',B1,hB1,h2,h3⟩
  have hLIw:∀ q,LI q→q<w.heap.size∧¬ A0 q:=fun q hq=>by
   obtain ⟨b,B,h1,h2,h3⟩:=hLI1 q hq;exact hiM (hHI b B h1) h2 h3
  have hLIlive:∀ q,LI q→p9 η (ASt.mk (fr lc) (b6 (hI++h0 st0)) (gg st0)).H q:=fun q hq=>by
   obtain ⟨b,B,h1,h2,h3⟩:=hLI1 q hq;exact ⟨b,B,hHI b B h1,h2,h3⟩
  -- the function's part
  obtain ⟨p1,p2,p3⟩:=a85 (A':=AR w0 Ms' l A1 LI) (w':=W1) hr.hp (hh:=h0 st0) hHR hB hrR1 (fun b B h=>y6 h) (by
   rintro q hq (h1|h1|h1|h1|h1)
   ·exact .inl (hA1 q h1)
   ·exact .inl (hAU q h1)
   ·rcases hM' q h1 with h2|h2
    ·exact .inl (hAM q h2)
    ·omega
   ·exact .inr (hLIlive q h1)
   ·omega) (by
   intro q hq
   constructor
   ·have:=hB.size;rcases hq with h1|h1|h1|h1|h1
    ·have:=(hr.hp.av q (hA1 q h1)).1; omega
    ·have:=(hr.hp.av q (hAU q h1)).1; omega
    ·exact (Array.getElem?_eq_some_iff.1 (hM1 q h1).2).1
    ·have:=(hLIw q h1).1; omega
    ·omega
   ·intro b B hb hm hq2;obtain ⟨j1,j2⟩:=hiM (hHR b B hb) hm hq2;rcases hq with h1|h1|h1|h1|h1
    ·exact j2 (hA1 q h1)
    ·exact j2 (hAU q h1)
    ·rcases hM' q h1 with h2|h2
     ·exact j2 (hAM q h2)
     ·omega
    ·obtain ⟨b',B',i1,i2,i3⟩:=hLI1 q h1;exact hnd b' B' b B q i1 hb i2 hm i3 hq2
    ·omega)
  -- the iterator's part
  obtain ⟨q1,q2,q3⟩:=a85 (A':=fun q=>p9 (fun b=>η (g6 rR' b)) (b6 (D9 (g6 rR) (h0 st0))) q∨A1 q∨w0.U q∨q∈Ms'∨q=l) (w':=W1) hr.hp (hh:=hI) hHI hB hrI1 (fun b B h=>y6 h) (by
   rintro q hq (h1|h1|h1|h1|h1)
   ·obtain ⟨b,B,i1,i2,i3⟩:=p2 q h1;exact .inr ⟨b,B,hHR b B i1,i2,i3⟩
   ·exact .inl (hA1 q h1)
   ·exact .inl (hAU q h1)
   ·rcases hM' q h1 with h2|h2
    ·exact .inl (hAM q h2)
    ·omega
   ·omega) (by
   intro q hq
   constructor
   ·have:=hB.size;rcases hq with h1|h1|h1|h1|h1
    ·obtain ⟨b,B,i1,i2,i3⟩:=p2 q h1;have:=(hiM (hHR b B i1) i2 i3).1; omega
    ·have:=(hr.hp.av q (hA1 q h1)).1; omega
    ·have:=(hr.hp.av q (hAU q h1)).1; omega
    ·exact (Array.getElem?_eq_some_iff.1 (hM1 q h1).2).1
    ·omega
   ·intro b B hb hm hq2;obtain ⟨j1,j2⟩:=hiM (hHI b B hb) hm hq2;rcases hq with h1|h1|h1|h1|h1
    ·obtain ⟨b',B',i1,i2,i3⟩:=p2 q h1;exact hnd b B b' B' q hb i1 hm i2 hq2 i3
    ·exact j2 (hA1 q h1)
    ·exact j2 (hAU q h1)
    ·rcases hM' q h1 with h2|h2
     ·exact j2 (hAM q h2)
     ·omega
    ·omega)
  have hfl:=a6K hl0;have H0:LoopSt L0 w0 a.tmps (a9W (g6 rR) l0) (fun b=>η (g6 rR' b)) Ms' l (D9 (g6 rR) (h0 st0)) (gg st0) (L3 fnid a.tmps ps assign bd dfb .ready none)
    (fun q=>p9 (fun b=>η (g6 rR' b)) (b6 (D9 (g6 rR) (h0 st0))) q∨A1 q∨w0.U q∨q∈Ms'∨q=l) LI W1 (fun b=>η (g6 rR' b)) A1:=by
   have hfs:=hB.size
   refine ⟨fun q=>Iff.rfl,p1,fun i=>?_,fun _ _ _=>rfl,⟨hB.os.trans hr.fr.os,hB.tape.trans hr.fr.tape,hB.output.trans hr.fr.output,Nat.le_trans hr.fr.size hB.size,fun q hq hn=>(hB.block q (Nat.lt_of_lt_of_le hq hr.fr.size)).trans (hr.fr.heap q hq hn)⟩,
    fun q hq hlt=>?_,fun q hq hlt=>hr.old q (hLIlive q hq) hlt,hM1,fun q hq=>⟨k7 q hq,fun hc=>?_,fun hc=>(hLIw q hc).2 (hA1 q hq),fun hc=>?_⟩,⟨fun hc=>?_,fun M hM hc=>?_,fun q hq hc=>(hLIw q hc).2 (hAU q hq)⟩,hlM,fun hc=>?_,hrec,Nat.le_trans hr.fr.size hl,?_,?_,k6⟩
   ·rw [a7F];have ht:=hr.tmp i;rcases hfl i with h1|h1
    ·rw [h1]; unfold AVal.ren d9; trivial
    ·have h2:=d9.step (η':=η) p3 _ _ (fun _ _=>rfl) ht;rw [← h1] at h2
     exact a7x _ _ (fun b hb=>by
      show η (g6 rR' (g6 rR b))=η b
      rw [H5 hrR (List.mem_append_right _ (a7B hb))]) h2
   ·obtain ⟨b,B,i1,i2,i3⟩:=p2 q hq;exact hr.old q ⟨b,B,hHR b B i1,i2,i3⟩ hlt
   ·rcases hM' q hc with h1|h1
    ·exact (k3 q h1).2.1 hq
    ·have:=(hr.hp.av q (hA1 q hq)).1; omega
   ·have:=(hr.hp.av q (hA1 q hq)).1; omega
   ·have:=(hLIw l hc).1; omega
   ·rcases hM' M hM with h1|h1
    ·exact (hLIw M hc).2 (hAM M h1)
    ·have:=(hLIw M hc).1; omega
   ·have:=(hr.hp.av l (hAU l hc)).1; omega
   ·intro q rr hq;obtain ⟨j1,j2⟩:=k8 q rr hq;exact ⟨j1,(hB.block q (Array.getElem?_eq_some_iff.1 j2).1).trans j2⟩
   ·refine (gg st0).cl _ _ _ _ _ k5 ⟨hB.os,hB.tape,hB.output,hB.size,fun q hq _=>hB.block q hq⟩ fun q hq=>?_;rcases hq with h1|h1|h1|h1|h1
    ·obtain ⟨b,B,i1,i2,i3⟩:=p2 q h1;exact .inl (.inl ⟨b,B,hHR b B i1,i2,i3⟩)
    ·exact .inl (.inr (.inl h1))
    ·rcases hM' q h1 with h2|h2
     ·exact .inl (.inr (.inr h2))
     ·exact .inr ⟨h2.1,(Array.getElem?_eq_some_iff.1 h2.2).1⟩
    ·exact .inl (.inl (hLIlive q h1))
    ·subst h1; exact .inr ⟨hl,hltl⟩
  have hkr:∀ {hh:List (Nat×ABlk)} {b:Nat},i8 hh b=true→(b6 (D9 (g6 rR) hh) (g6 rR b)).isSome=true:=fun hk=>a5H _ hk;have hkk:∀ {h1 h2:List (Nat×ABlk)} {b:Nat},m8 h1=m8 h2→i8 h1 b=i8 h2 b:=by
   intro h1
   induction h1 with
   | nil=>intro h2 b e; cases h2 with
    | nil=>rfl
    | cons p r=>obtain ⟨d,E⟩:=p; simp [m8] at e
   | cons p r ih=>intro h2 b e; cases h2 with
    | nil=>obtain ⟨d,E⟩:=p; simp [m8] at e
    | cons p2 r2 =>
     obtain ⟨d,E⟩:=p;obtain ⟨d2,E2⟩:=p2;simp only [m8,List.cons.injEq] at e;simp only [i8,e.1,ih e.2]
  have hY:=a7i (P:=P) (n:=n) (L0:=L0) (w0:=w0) (tmps:=a.tmps) (l0:=a9W (g6 rR) l0) (ηe:=fun b=>η (g6 rR' b)) (Ms:=Ms') (l:=l) (enc:=enc) (bodyP:=bodyP) (h:=fun st=>D9 (g6 rR) (h0 st)) (gg:=gg) (hx:=fun x=>D9 (g6 rR) (hx0 x)) (gx:=gx) (code:=fun x=>b0e (ex x)) (ps:=ps) (assign:=assign) (bd:=bd) (fnid:=fnid) (dfb:=dfb) hr.size hfn henc
   (fun y b=>by
    cases hc:AVal.hasL (enc y) b with
    | false=>rfl
    | true =>
     have:=a02 _ _ hc
     rw [hno y] at this; simp at this) (fun p hp=>by simpa using List.all_eq_true.1 hpl p hp) hyl hylx
   (fun i b hb=>by
    rw [a7F] at hb;have hmem:=a5O _ _ hb;obtain ⟨b0,hb0,e⟩:∃ b0∈(fr l0 i).ids,b=g6 rR b0:=b3d _ hmem;subst e;have hb1:=List.all_eq_true.1 hid b0 (a7B hb0);simp only [Bool.and_eq_true,decide_eq_true_eq] at hb1;refine ⟨⟨hb1.1.1,hb1.1.2⟩,fun st=>hkr (by rw [hkk (hk st)]; exact hb1.2),fun x=>hkr ?_⟩
    exact List.all_eq_true.1 (hidx x) b0 (a7B hb0)) (hround l)
  have hpv2:d6 (fun b=>η (g6 rI' b)) W1 (Av (fun q=>p9 (fun b=>η (g6 rR' b)) (b6 (D9 (g6 rR) (h0 st0))) q∨A1 q∨w0.U q∨q∈Ms'∨q=l) (fun b=>η (g6 rI' b)) (b6 (D9 (g6 rI) hI))) (AVal.renL (g6 rI) prev) pv.toList :=
   a0s _ _ (fun b hb=>by
    show η (g6 rI' (g6 rI b))=η b
    rw [H5 hrI (List.mem_append_right _ (List.mem_append_left _ hb))]) (d6.step (η':=η) q3 _ _ (fun _ _=>rfl) hpv)
  have hcv2:d6 (fun b=>η (g6 rI' b)) W1 (Av (fun q=>p9 (fun b=>η (g6 rR' b)) (b6 (D9 (g6 rR) (h0 st0))) q∨A1 q∨w0.U q∨q∈Ms'∨q=l) (fun b=>η (g6 rI' b)) (b6 (D9 (g6 rI) hI))) (AVal.renL (g6 rI) capv) cv.toList :=
   a0s _ _ (fun b hb=>by
    show η (g6 rI' (g6 rI b))=η b
    rw [H5 hrI (List.mem_append_right _ (List.mem_append_right _ hb))]) (d6.step (η':=η) q3 _ _ (fun _ _=>rfl) hcv)
  have hcall:=hIC.2 _ _ (fun _=>rfl) (fun _=>rfl) l hY _ _ W1 pv cv q1 hpv2 hcv2 (by
   rw [← hLI]
   exact ⟨_,_,H0⟩)
  refine b1D (m:=0) ((callsIn_wide.2 hcall).mono ?_)
  rintro e w' ⟨⟨v,rfl⟩,C1,I1,_,hJ⟩
  have hks:∀ c∈m8 (h0 st0),R3 c→g6 rR' c=c→η (g6 rR' c)=w0.ηh c:=fun c hc hh e=>by
   rw [e];refine hr.hd c hh ?_
   have:∃ B,b6 (h0 st0) c=some B:=l6.1 (by
    have:∀ {l:List (Nat×ABlk)},c∈m8 l→i8 l c=true:=by
     intro l
     induction l with
     | nil=>intro h; simp [m8] at h
     | cons p l ih =>
      obtain ⟨d,E⟩:=p;intro h;unfold m8 at h;unfold i8;rcases List.mem_cons.1 h with h|h
      ·subst h; simp
      ·rw [ih h]; simp
    exact this hc)
   obtain ⟨B,hB2⟩:=this;rw [hHR c B hB2]; rfl
  cases r with
  | inl st =>
   obtain ⟨ηr,A2,H⟩:=hJ;have hend:=run_endLoop (P:=P) H.rcd (by simp [L3]);refine ⟨_,_,hend,?_⟩;exact ⟨_,_,_,hQ,(H.putl _).out (ds:=ds) (ks:=m8 (h0 st0)) hr.size hfn hMn (by rw [hk st]; exact hout) hks⟩
  | inr x =>
   obtain ⟨ηr,A2,H⟩:=hJ;have hend:=run_endLoop (P:=P) H.rcd (by simp [L3]);refine ⟨_,_,hend,?_⟩;have hrel:=(H.putl { L3 fnid a.tmps ps assign bd dfb .done (some (b0e (ex x))) with state:=.exhausted }).out (ds:=ds) (ks:=m8 (h0 st0)) hr.size hfn hMn (houtx x) hks;have hx:=hex x;have hQ':Q (ex x) ⟨fr l0,b6 (hx0 x),gx x⟩:=hQ;show (b0e (ex x)).wpIn (fen ro) m P _ _ _
   cases hxx:ex x with
   | ret=>rw [hxx] at hQ'; exact wpIn_ret ⟨_,_,_,hQ',hrel⟩
   | exit id=>rw [hxx] at hQ'; exact wpIn_exit ⟨_,_,_,hQ',hrel⟩
   | normal=>rw [hxx] at hx; cases hx
   | goto _=>rw [hxx] at hx; cases hx
   | panic _=>rw [hxx] at hx; cases hx
   | outgrown=>rw [hxx] at hx; cases hx
 -- the two kinds of frames
 have hres:∀ (l:Nat) (W:World),(resolve a.eval (rangeCall gop l) 0).run P W=.ok { target:=.fn (.func gf) cv,args:=pv++#[.func (.yield l) #[] #[]] } W:=fun l W=>by
  simp only [resolve,rangeCall,hgv];simp [Deferred.ofValue,hgv,Act.eval]
 refine wpIn_rangeFunc ?_;intro fnid _
 cases ro with
 | none =>
  obtain ⟨W1,hW1⟩:∃ W1,(w.alloc (.deferred (some []))).alloc (.loop (L3 fnid a.tmps ps assign bd w.heap.size .ready none))=W1:=⟨_,rfl⟩;refine ⟨w.heap.size+1,[b1a w.heap.size],W1,_,W1,gf,pv++#[.func (.yield (w.heap.size+1)) #[] #[]]++cv,W1,?_,hres _ _,fun f' _=>a4s none f',?_,fun h=>by simp [fen,Fence.wide] at h,?_⟩
  ·rw [← hW1]; exact run_enterLoop_outer _ _ _ _ _
  ·simp only [invoke]; exact a3n hIC.1 _
  ·have:=core (w.heap.size+1) (w.heap.size::Ms) W1 fnid w.heap.size (by rw [← hW1]; exact ((Below.refl _ w).alloc (Nat.le_refl _) _).alloc (by simp) _) (by omega)
    (by rw [← hW1]; have:=World.alloc_heap_new (w.alloc (.deferred (some []))) (.loop (L3 fnid a.tmps ps assign bd w.heap.size .ready none)); rwa [World.size_alloc] at this)
    (fun hc=>by
     rcases List.mem_cons.1 hc with h1|h1
     ·omega
     ·have:=(Array.getElem?_eq_some_iff.1 (k3 _ h1).2.2).1; omega)
    (List.nodup_cons.2 ⟨fun hc=>by have:=(Array.getElem?_eq_some_iff.1 (k3 _ hc).2.2).1; omega,k2⟩)
    (fun M hM=>by
     rcases List.mem_cons.1 hM with h1|h1
     ·subst h1;refine .inr ⟨Nat.le_refl _,?_⟩;rw [← hW1];exact (Below.heap_alloc _ _ _ (by simp)).trans (World.alloc_heap_new w _)
     ·exact .inl h1) (fun M hM=>List.mem_cons_of_mem _ hM)
   rw [List.map_cons,List.cons_append,← k1] at this;exact this
 | some l1 =>
  obtain ⟨⟨q,rr⟩,hrd,e⟩:∃ p,w0.rd=some p∧p.1=l1:=by
   cases hrd:w0.rd with
   | none=>rw [hrd] at hq0; cases hq0
   | some p=>rw [hrd] at hq0; exact ⟨p,rfl,by simpa using hq0⟩
  simp only at e;subst e;obtain ⟨j1,j2⟩:=k8 q rr hrd;obtain ⟨W1,hW1⟩:∃ W1,w.alloc (.loop (L3 fnid a.tmps ps assign bd rr.defers .ready none))=W1:=⟨_,rfl⟩;refine ⟨w.heap.size,[],W1,_,W1,gf,pv++#[.func (.yield w.heap.size) #[] #[]]++cv,W1,?_,hres _ _,fun f' _=>a4s _ f',?_,fun h=>by simp [fen,Fence.wide] at h,?_⟩
  ·rw [← hW1]; exact run_enterLoop_inner j2 _ _ _ _ _
  ·simp only [invoke]; exact a3n hIC.1 _
  ·have:=core w.heap.size Ms W1 fnid rr.defers (by rw [← hW1]; exact (Below.refl _ w).alloc (Nat.le_refl _) _) (Nat.le_refl _)
    (by rw [← hW1]; exact World.alloc_heap_new w _) (fun hc=>by have:=(Array.getElem?_eq_some_iff.1 (k3 _ hc).2.2).1; omega) k2 (fun M hM=>.inl hM) (fun M hM=>hM)
   rw [← k1] at this;exact this
end
end Go.Proofs.YtanaeefeggokkaaGreat
/-! The abstract machine,23: a slice held against nil. No program is named here. -/
namespace Go.Proofs.YtanaeefeggokkaaGreat
open Go.RowKit
set_option linter.constructorNameAsVariable false
set_option linter.unusedVariables false
section
variable {P:Program} {T:Tab} {n:Nat} {ro:Option Nat} {Q:Exit→ASt→Prop} {σ:Nat→AVal} {H:l3} {g:Gh} {o:Oper} {ops rs:List Oper}
theorem AO.nilEq (hT:z5 P T) (hd:J7 n [o]=true) (hg:o.guard=none) {t e:TypeId} {i:TInfo} {x y:Operand} {z:Nat} {neg:Bool} (ho:o.op=.binOp (if neg then .neq else .eql) t x y z) (ht:T t=some i) (hi:i.desc=.sl e)
  {τ:Ty} {xs:List (El τ)} (hx:(ASt.mk σ H g).ev x=.sl τ xs) (hy:(ASt.mk σ H g).ev y=.cv (.slice none 0 0))
  (h1:xs=[]→AO P ro n ops rs Q ((ASt.mk σ H g).app o.dst { v:=.bool (!neg) })) (h2:AO P ro n ops rs Q ((ASt.mk σ H g).app o.dst { v:=.bool neg })):AO P ro n ops (o::rs) Q ⟨σ,H,g⟩:=by
 intro m ds A0 L0 w0 η a w hq0 hr;unfold wpListIn;have hwant:Region.wanted o (yielded ops.toArray a.tmps)=true:=by simp [Region.wanted,hg]
 rw [if_pos hwant];have hdo:∀ i,o.dst=some i→i<n:=fun i hi=>by
  unfold J7 at hd;simp only [List.all_cons,List.all_nil,Bool.and_true] at hd;rw [hi] at hd; simpa using hd
 have hxv:=hr.ev x;have hyv:=hr.ev y;rw [hx] at hxv;rw [hy] at hyv;unfold d9 at hxv hyv;obtain ⟨ad,c,hxv,hb⟩:=hxv;have hu:=(hT t i ht).slice hi
 cases neg with
 | false =>
  refine n7 (u:=.bool ad.isNone) (w':=w) (by simp [ho]) ?_ ?_
  ·have:=Lib.run_eql_slice_nil (P:=P) w t e ad xs.length c 0 0 hu;simp [execOp,ho,hxv,hyv,eqGuard,this]
  ·cases ad with
   | none =>
    have hnil:xs=[]:=by
     cases xs with
     | nil=>rfl
     | cons z zs=>obtain ⟨b,o',e1,_⟩:=hb.2.2 (by simp); cases e1
    exact h1 hnil m ds A0 L0 w0 η _ w hq0 (hr.pure hdo (by unfold d9; rfl))
   | some ad=>exact h2 m ds A0 L0 w0 η _ w hq0 (hr.pure hdo (by unfold d9; rfl))
 | true =>
  refine n7 (u:=.bool (!ad.isNone)) (w':=w) (by simp [ho]) ?_ ?_
  ·have:=run_neq_slice_nil_any (P:=P) w t e ad xs.length c 0 0 hu;simp [execOp,ho,hxv,hyv,eqGuard,this]
  ·cases ad with
   | none =>
    have hnil:xs=[]:=by
     cases xs with
     | nil=>rfl
     | cons z zs=>obtain ⟨b,o',e1,_⟩:=hb.2.2 (by simp); cases e1
    exact h1 hnil m ds A0 L0 w0 η _ w hq0 (hr.pure hdo (by unfold d9; rfl))
   | some ad=>exact h2 m ds A0 L0 w0 η _ w hq0 (hr.pure hdo (by unfold d9; rfl))
end
end Go.Proofs.YtanaeefeggokkaaGreat
/-! The abstract machine,24: maps of dry data. No program is named here. -/
namespace Go.Proofs.YtanaeefeggokkaaGreat
open Go.RowKit Go.Maps
set_option linter.constructorNameAsVariable false
set_option linter.unusedVariables false
set_option linter.unusedSimpArgs false
/-! ### Lists of keys with values -/
section
variable {α β:Type} [DecidableEq α]
def a2W (d:β):List (α×β)→α→β
 | [],_=>d
 | (k,v)::r,x=>if k=x then v else a2W d r x
def a2A:List (α×β)→α→Bool
 | [],_=>false
 | (k,_)::r,x=>if k=x then true else a2A r x
def a1m:List (α×β)→α→β→List (α×β)
 | [],x,v=>[(x,v)]
 | (k,w)::r,x,v=>if k=x then (x,v)::r else (k,w)::a1m r x v
theorem b3a {d:β}:∀ {l:List (α×β)} {j:Nat} {p:α×β},(l.map (·.1)).Nodup→l[j]?=some p→a2W d l p.1=p.2∧a2A l p.1=true
 | [],j,p,_,h=>by simp at h
 | (k,v)::r,0,p,hn,h=>by simp at h; subst h; simp [a2W,a2A]
 | (k,v)::r,j+1,p,hn,h=>by
  simp only [List.map_cons,List.nodup_cons] at hn;have hj:r[j]?=some p:=by simpa using h
  have hne:k≠p.1:=fun e=>hn.1 (by rw [e]; exact List.mem_map.2 ⟨p,List.mem_of_getElem? hj,rfl⟩);have:=b3a (d:=d) hn.2 hj;simp [a2W,a2A,hne,this]
theorem b07 {d:β}:∀ {l:List (α×β)} {x:α},x ∉ l.map (·.1)→a2W d l x=d∧a2A l x=false
 | [],x,_=>⟨rfl,rfl⟩
 | (k,v)::r,x,h=>by
  simp only [List.map_cons,List.mem_cons,not_or] at h;have:=b07 (d:=d) (l:=r) h.2;simp [a2W,a2A,Ne.symm h.1,this]
theorem b04:∀ {l:List (α×β)} {x:α} {v:β},x ∉ l.map (·.1)→a1m l x v=l++[(x,v)]
 | [],x,v,_=>rfl
 | (k,w)::r,x,v,h=>by
  simp only [List.map_cons,List.mem_cons,not_or] at h;unfold a1m;rw [if_neg (Ne.symm h.1),b04 h.2]; rfl
theorem b29:∀ {l:List (α×β)} {j:Nat} {p:α×β} {v:β},(l.map (·.1)).Nodup→l[j]?=some p→a1m l p.1 v=l.set j (p.1,v)
 | [],j,p,v,_,h=>by simp at h
 | (k,w)::r,0,p,v,hn,h=>by simp at h; subst h; simp [a1m]
 | (k,w)::r,j+1,p,v,hn,h=>by
  simp only [List.map_cons,List.nodup_cons] at hn;have hj:r[j]?=some p:=by simpa using h
  have hne:k≠p.1:=fun e=>hn.1 (by rw [e]; exact List.mem_map.2 ⟨p,List.mem_of_getElem? hj,rfl⟩);unfold a1m;rw [if_neg hne,b29 hn.2 hj]; rfl
theorem a9b {l:List (α×β)} {x:α} {v:β}:(a1m l x v).map (·.1)=if x∈l.map (·.1) then l.map (·.1) else l.map (·.1)++[x]:=by
 induction l with
 | nil=>simp [a1m]
 | cons p r ih =>
  obtain ⟨k,w⟩:=p;unfold a1m
  by_cases h:k=x
  ·simp [h]
  ·rw [if_neg h];simp only [List.map_cons,ih,List.mem_cons,Ne.symm h,false_or]
   split<;>rfl
end
def b5f (ae:Bool):Ty→Value
 | .sl _=>.slice none 0 0
 | .int k=>pv ae (Ty.vals (.int k) (Ty.dflt (.int k)))
 | .bool=>pv ae (Ty.vals .bool (Ty.dflt .bool))
 | .unit=>pv ae (Ty.vals .unit (Ty.dflt .unit))
 | .pair a b=>pv ae (Ty.vals (.pair a b) (Ty.dflt (.pair a b)))
theorem b5e {ae:Bool}:∀ {vt:Ty},vt.dry=true→b5f ae vt=pv ae (vt.vals vt.dflt)
 | .int _,_=>rfl
 | .bool,_=>rfl
 | .unit,_=>rfl
 | .pair _ _,_=>rfl
 | .sl t,hd=>by simp [Ty.dry] at hd
theorem b5d {w:World} {A:Nat→Prop} {ae:Bool}:∀ (vt:Ty),a3X w A ae vt vt.dflt (b5f ae vt)
 | .int _=>rfl
 | .bool=>rfl
 | .unit=>rfl
 | .pair _ _=>rfl
 | .sl t=>⟨none,0,rfl,Nat.le_refl _,Nat.zero_le _,fun h=>absurd h (Nat.lt_irrefl 0)⟩
theorem b0u {w:World} {A:Nat→Prop} {ae:Bool}:∀ {vt:Ty} {x:El vt} {v:Value},vt.dry=true→(a3X w A ae vt x v↔v=pv ae (vt.vals x))
 | .int _,_,_,_=>Iff.rfl
 | .bool,_,_,_=>Iff.rfl
 | .unit,_,_,_=>Iff.rfl
 | .pair _ _,_,_,_=>Iff.rfl
 | .sl t,_,_,hd=>by simp [Ty.dry] at hd
structure MapTy (P:Program) (t k e:TypeId) (ak ae:Bool) (kt vt:Ty):Prop where
 ht:P.underlying t=some (.map k e)
 K:Keyed P k
 key:∀ x:El kt,okD kt x→∃ l,keyOf P k (pv ak (kt.vals x))=some l
 zero:∀ w,(zeroValue e).run P w=.ok (b5f ae vt) w
 kdry:kt.dry=true
 vok:vt.dry=true∨(ae=false∧∃ u,vt=.sl u)
 ksz:ak=true∨kt.size=1
 vsz:ae=true∨vt.size=1
theorem b9o {k:IntKind} {n:Int} (h:InK k n):(Lit.int k n).wf=true:=by
 unfold InK at h;simp [Lit.wf,h.1,h.2]
theorem Q3:∀ (t:Ty) (x:El t),t.dry=true→(t.vals x).length=t.size
 | .int _,_,_=>rfl
 | .bool,_,_=>rfl
 | .unit,_,_=>rfl
 | .pair a b,x,h=>by
  simp only [Ty.dry,Bool.and_eq_true] at h;simp [Ty.vals,Ty.size,Q3 a _ h.1,Q3 b _ h.2]
 | .sl _,_,h=>by simp [Ty.dry] at h
theorem a5z:∀ (t:Ty) (x y:El t),t.dry=true→t.vals x=t.vals y→x=y
 | .int _,x,y,_,h=>by simp only [Ty.vals,List.cons.injEq,Value.int.injEq,true_and,and_true] at h; exact h
 | .bool,x,y,_,h=>by simp only [Ty.vals,List.cons.injEq,Value.bool.injEq,and_true] at h; exact h
 | .unit,_,_,_,_=>rfl
 | .pair a b,x,y,hd,h=>by
  simp only [Ty.dry,Bool.and_eq_true] at hd;simp only [Ty.vals] at h;have:=List.append_inj h (by rw [Q3 a _ hd.1,Q3 a _ hd.1]);exact Prod.ext (a5z a _ _ hd.1 this.1) (a5z b _ _ hd.2 this.2)
 | .sl _,_,_,h,_=>by simp [Ty.dry] at h
theorem b88 {ag:Bool} {t:Ty} (hd:t.dry=true) (hs:ag=true∨t.size=1) {x y:El t} (h:pv ag (t.vals x)=pv ag (t.vals y)):x=y:=by
 refine a5z t x y hd ?_;unfold pv at h
 cases ag with
 | true=>simpa using h
 | false =>
  simp only [Bool.false_eq_true,if_false] at h;have h1:=hs.resolve_left (by simp);have l1:=Q3 t x hd;have l2:=Q3 t y hd;rw [h1] at l1 l2
  match ha:t.vals x,hb:t.vals y with
  | [a],[b]=>rw [ha,hb] at h; simp at h; rw [h]
  | [],_=>rw [ha] at l1; simp at l1
  | _::_::_,_=>rw [ha] at l1; simp at l1
  | _,[]=>rw [hb] at l2; simp at l2
  | _,_::_::_=>rw [hb] at l2; simp at l2
theorem a7M {η:Nat→Value} {w:World} {A:Nat→Prop}:∀ (t:Ty) (x:El t),t.dry=true→d6 η w A (cellsOf t x) (t.vals x)
 | .int _,_,_=>d6.cons (by unfold d9; rfl) d6.nil
 | .bool,_,_=>d6.cons (by unfold d9; rfl) d6.nil
 | .unit,_,_=>d6.nil
 | .pair a b,x,h=>by
  simp only [Ty.dry,Bool.and_eq_true] at h;exact (a7M a x.1 h.1).append (a7M b x.2 h.2)
 | .sl _,_,h=>by simp [Ty.dry] at h
def a87 (ag:Bool) (l:List AVal):AVal:=if ag then .agg l else l.headD .un
theorem b34 {η:Nat→Value} {w:World} {A:Nat→Prop} {ag:Bool} {t:Ty} (hd:t.dry=true) (hs:ag=true∨t.size=1) (x:El t):d9 η w A (a87 ag (cellsOf t x)) (pv ag (t.vals x)):=by
 have h:=a7M (η:=η) (w:=w) (A:=A) t x hd;unfold a87 pv
 cases ag with
 | true=>simp only [if_true]; unfold d9; exact ⟨_,rfl,h⟩
 | false =>
  simp only [Bool.false_eq_true,if_false];have h1:=hs.resolve_left (by simp);have l1:=Q3 t x hd;rw [h1] at l1
  match ha:t.vals x,hb:cellsOf t x with
  | [a],[b]=>rw [ha,hb] at h; unfold d6 at h; obtain ⟨u,us,e,h2,_⟩:=h; simp at e; rw [e.1]; exact h2
  | [],_=>rw [ha] at l1; simp at l1
  | _::_::_,_=>rw [ha] at l1; simp at l1
  | [a],[]=>rw [ha,hb] at h; unfold d6 at h; cases h
  | [a],_::_::_=>rw [ha,hb] at h; have:=h.length; simp at this
def b9Q (ag:Bool) (t:Ty):Prop:=t.dry=true∨(ag=false∧∃ u,t=.sl u)
theorem a86 {η:Nat→Value} {w:World} {A:Nat→Prop} {ag:Bool} {t:Ty} (ho:b9Q ag t) (hs:ag=true∨t.size=1) {x:El t} {v:Value} (h:a3X w A ag t x v):d9 η w A (a87 ag (cellsOf t x)) v:=by
 rcases ho with hd|⟨ha,u,hu⟩
 ·rw [(b0u hd).1 h]; exact b34 hd hs x
 ·subst ha hu;show d9 η w A (.sl u x) v;unfold d9;exact h
section
variable {P:Program} {T:Tab} {n:Nat} {ds:List Deferred} {A0 L0:Nat→Prop} {w0:Old} {η:Nat→Value} {s:ASt} {a:Act} {w:World}
theorem b7G (h:Rel n ds A0 L0 w0 η s a w) {d:Option Nat} (hd:∀ i,d=some i→i<n) {b:Nat} {ak ae:Bool} {kt vt:Ty} {xs ys:List (El kt×El vt)} (hb:s.H b=some (.map ak ae kt vt xs)) {g:Nat} (hg:η b=.map (some g)) {es:Array MapEntry} {c:Nat}
  {es0:Array MapEntry} {c0:Nat} (he:w.heap[g]?=some (.map es0 c0)) (hm:a0C w (Av A0 η s.H) ak ae kt vt es.toList ys) (hok:∀ p∈ys,okD kt p.1) (hnd:(ys.map (·.1)).Nodup) :
  Rel n ds A0 L0 w0 η (s.app d { v:=.un,hp:=[(b,.map ak ae kt vt ys)] }) (a.put d undef) { w with heap:=w.heap.setIfInBounds g (.map es c) }:=by
 have hlt:g<w.heap.size:=(Array.getElem?_eq_some_iff.1 he).1
 refine h.eff (nid:=0) hd (fun _ _=>rfl) ⟨rfl,rfl,rfl⟩ (by simp) (fun k hk=>?_) ?_ ?_ ?_ (hhn:=fun b' _ hs=>by
  simp only [b6] at hs
  split at hs
  ·rename_i e; subst e; rw [hb]; rfl
  ·cases hs)
 ·by_cases hkg:k=g
  ·subst hkg;exact .inr ⟨b,_,hb,rfl,by rw [hg]; rfl,.inl (by simp [b6])⟩
  ·exact .inl (by simp [Array.getElem?_setIfInBounds_ne (Ne.symm hkg)])
 ·intro b' B' g' hb' hm' hg';simp only [b6] at hb'
  split at hb'
  ·rename_i e;subst e;exact .inl ⟨_,_,hb,rfl,hg',.inl rfl⟩
  ·cases hb'
 ·intro k b' B' hb';simp only [b6] at hb'
  split at hb'
  ·rename_i e;subst e;injection hb' with hb';subst hb';exact ⟨g,es,c,hg,by simp [hlt],hm.step k,hok,hnd⟩
  ·cases hb'
 ·intro k; unfold d9; trivial
variable {ro:Option Nat} {Q:Exit→ASt→Prop} {σ:Nat→AVal} {H:l3} {g:Gh} {o:Oper} {ops rs:List Oper} {t k e:TypeId} {ak ae:Bool} {kt vt:Ty}
theorem X9 (hg:o.guard=none) (tm:Array Value):Region.wanted o (yielded ops.toArray tm)=true:=by simp [Region.wanted,hg]
theorem a0k (hd:J7 n [o]=true):∀ i,o.dst=some i→i<n:=fun i hi=>by
 unfold J7 at hd;simp only [List.all_cons,List.all_nil,Bool.and_true] at hd;rw [hi] at hd; simpa using hd
theorem AO.makeMap (hd:J7 n [o]=true) (hfew:o.dst.getD 0<1000) (hg:o.guard=none) (ho:o.op=.makeMap t none)
  (h2:AO P ro n ops rs Q ((ASt.mk σ H g).app o.dst { v:=.own (o.dst.getD 0),kill:=[o.dst.getD 0],hp:=[(o.dst.getD 0,.map ak ae kt vt [])] })):AO P ro n ops (o::rs) Q ⟨σ,H,g⟩:=by
 intro m ds A0 L0 w0 η a w hq0 hr;unfold wpListIn;rw [if_pos (X9 hg _)];refine n7 (u:=.map (some w.heap.size)) (w':=w.alloc (.map #[] 0)) (by simp [ho]) (by simp [execOp,ho,Instr.makeMap,run_newObj_alloc]) ?_;obtain ⟨nid,hnid⟩:∃ nid,nid=o.dst.getD 0:=⟨_,rfl⟩;rw [← hnid] at h2 hfew;refine h2 m ds A0 L0 w0 (a2Q η nid (.map (some w.heap.size))) _ _ hq0 ?_;have hη:∀ b,[nid].contains b=false→a2Q η nid (.map (some w.heap.size)) b=η b:=fun b hb=>S1 _ _ (by simpa using hb);refine hr.eff (nid:=nid) (a0k hd) hη ⟨rfl,rfl,rfl⟩ (by simp) (fun g hg=>.inl (heap_alloc_old _ _ _ hg)) ?_ ?_ ?_ hfew (fun b hb _=>by simpa using hb) (fun b hb hs=>by simp only [b6,hb,if_false] at hs; cases hs)
 ·intro b B g hb hm hg;simp only [b6] at hb
  split at hb
  ·rename_i e;subst e;rw [s7] at hg;injection hg with hg;exact .inr ⟨Nat.le_of_eq hg,rfl⟩
  ·cases hb
 ·intro k b B hb;simp only [b6] at hb
  split at hb
  ·rename_i e;subst e;injection hb with hb;subst hb;rw [s7];exact ⟨_,#[],0,rfl,(MapKept.heap_alloc w _).1,⟨rfl,fun i e p he _=>by simp at he⟩,by simp,by simp⟩
  ·cases hb
 ·intro k;unfold d9;exact (s7 _ _ _).symm
theorem b1c (M:MapTy P t k e ak ae kt vt) {w0:World} {A:Nat→Prop} {xs:List (El kt×El vt)} {es:Array MapEntry} (hm:a0C w0 A ak ae kt vt es.toList xs) (hok:∀ p∈xs,okD kt p.1) {x:El kt} (hx:okD kt x) (w:World) :
  ((Instr.findKey k (pv ak (kt.vals x)) es.toList).run P w=.ok none w∧x ∉ xs.map (·.1)) ∨
   ∃ j p v,(Instr.findKey k (pv ak (kt.vals x)) es.toList).run P w=.ok (some (j,v)) w∧xs[j]?=some p∧p.1=x∧a3X w0 A ae vt p.2 v:=by
 obtain ⟨hm,hv⟩:=hm;have hat:∀ j:Nat,(es.toList[j]?).map (·.key)=(xs[j]?).map (fun p=>pv ak (kt.vals p.1)):=fun j=>by
  have:=congrArg (fun l=>l[j]?) hm;simpa using this
 obtain ⟨l,hl⟩:=M.key x hx
 rcases M.K.find w hl es.toList (fun y hy=>by
  have:y.key∈xs.map (fun p=>pv ak (kt.vals p.1)):=by rw [← hm]; exact List.mem_map.2 ⟨y,hy,rfl⟩
  obtain ⟨p,hp,e1⟩:=List.mem_map.1 this
  rw [← e1]; exact M.key p.1 (hok p hp)) with ⟨h1,h2⟩|⟨j,e0,h1,h2,h3⟩
 ·refine .inl ⟨h1,fun hmem=>?_⟩;obtain ⟨p,hp,e1⟩:=List.mem_map.1 hmem;have:pv ak (kt.vals p.1)∈es.toList.map (·.key):=by rw [hm]; exact List.mem_map.2 ⟨p,hp,rfl⟩
  obtain ⟨y,hy,e2⟩:=List.mem_map.1 this;exact h2 y hy (by rw [e2,e1])
 ·have:=hat j;rw [h2] at this
  cases hxj:xs[j]? with
  | none=>rw [hxj] at this; simp at this
  | some p =>
   rw [hxj] at this;simp only [Option.map_some,Option.some.injEq] at this;refine .inr ⟨j,p,e0.val,h1,hxj,?_,hv j e0 p h2 hxj⟩;exact b88 M.kdry M.ksz (by rw [← this,h3])
def Z3 (ag:Bool) (x:AVal) (l:List AVal):Prop:=match x with
 | .agg l'=>ag=true∧l=l'
 | y=>ag=false∧l=[y]
theorem a4z {η:Nat→Value} {w:World} {A:Nat→Prop} {H:l3}:∀ (t:Ty) (l r:List AVal) (x:El t) (vs:List Value),t.dry=true→C6 H t l=some (x,r)→d6 η w A l vs→∃ v2,vs=t.vals x++v2∧d6 η w A r v2
 | .int k,l,r,x,vs,_,h,hr=>by
  unfold C6 a6Y at h
  split at h
  ·split at h
   ·rename_i e;subst e;injection h with h;injection h with h1 h2;subst h1 h2;unfold d6 at hr;obtain ⟨u,us,e,h1,h2⟩:=hr;unfold d9 at h1;exact ⟨us,by rw [e,h1]; rfl,h2⟩
   ·cases h
  ·cases h
 | .bool,l,r,x,vs,_,h,hr=>by
  unfold C6 a6g at h
  split at h
  ·injection h with h;injection h with h1 h2;subst h1 h2;unfold d6 at hr;obtain ⟨u,us,e,h1,h2⟩:=hr;unfold d9 at h1;exact ⟨us,by rw [e,h1]; rfl,h2⟩
  ·cases h
 | .unit,l,r,x,vs,_,h,hr=>by
  unfold C6 at h;injection h with h;injection h with h1 h2;subst h2;exact ⟨vs,rfl,hr⟩
 | .pair a b,l,r,x,vs,hd,h,hr=>by
  simp only [Ty.dry,Bool.and_eq_true] at hd;unfold C6 at h
  split at h
  ·rename_i x1 r1 e1
   split at h
   ·rename_i x2 r2 e2;injection h with h;injection h with h1 h2;subst h1 h2;obtain ⟨v2,e3,hr2⟩:=a4z a l r1 x1 vs hd.1 e1 hr;obtain ⟨v3,e4,hr3⟩:=a4z b r1 r2 x2 v2 hd.2 e2 hr2;exact ⟨v3,by rw [e3,e4]; simp [Ty.vals],hr3⟩
   ·cases h
  ·cases h
 | .sl _,_,_,_,_,h,_,_=>by simp [Ty.dry] at h
theorem a0G {η:Nat→Value} {w:World} {A:Nat→Prop} {H:l3} {ag:Bool} {t:Ty} (hd:t.dry=true) (hs:ag=true∨t.size=1) {x:AVal} {l:List AVal} (hu:Z3 ag x l) {y:El t} (he:C6 H t l=some (y,[])) {v:Value} (hr:d9 η w A x v):v=pv ag (t.vals y):=by
 unfold Z3 at hu
 split at hu
 ·rename_i l';obtain ⟨rfl,rfl⟩:=hu;unfold d9 at hr;obtain ⟨vs,rfl,hl⟩:=hr;obtain ⟨v2,e1,h2⟩:=a4z t _ _ y _ hd he hl;unfold d6 at h2;subst h2;rw [List.append_nil] at e1;unfold pv;rw [if_pos rfl,← e1]
 ·obtain ⟨rfl,rfl⟩:=hu;obtain ⟨v2,e1,h2⟩:=a4z t _ _ y _ hd he (d6.cons hr d6.nil);unfold d6 at h2;subst h2;rw [List.append_nil] at e1;unfold pv;rw [if_neg (by simp),← e1]; rfl
theorem b6Z {η:Nat→Value} {w:World} {A:Nat→Prop} {H:l3} {ag:Bool} {t:Ty} (ho:t.dry=true∨(ag=false∧∃ u,t=.sl u)) (hs:ag=true∨t.size=1) {x:AVal} {l:List AVal} (hno:t.dry=true∨∃ u zs,l=[.sl u zs]) (hu:Z3 ag x l) {y:El t} (he:C6 H t l=some (y,[])) {v:Value} (hr:d9 η w A x v):a3X w A ag t y v:=by
 by_cases hd:t.dry=true
 ·exact (b0u hd).2 (a0G hd hs hu he hr)
 ·obtain ⟨ha,u,hu2⟩:=ho.resolve_left hd;subst ha hu2;obtain ⟨u',zs,hl⟩:=hno.resolve_left hd;have hx:x=.sl u' zs:=by
   unfold Z3 at hu
   split at hu
   ·exact absurd hu.1 (by simp)
   ·have:=hu.2;rw [hl] at this;exact (List.head_eq_of_cons_eq this).symm
  subst hl hx;have he:(if h:u'=u then some ((h▸zs:List (El u)),([]:List AVal)) else none)=some (y,[]):=he
  by_cases h:u'=u
  ·subst h;rw [dif_pos rfl] at he;injection he with he;injection he with he _;subst he;unfold d9 at hr;exact hr
  ·rw [dif_neg h] at he; cases he
theorem b2g (M:MapTy P t k e ak ae kt vt) [DecidableEq (El kt)] {w:World} {A:Nat→Prop} {q:Nat} {es:Array MapEntry} {c:Nat} {xs:List (El kt×El vt)} (e2:w.heap[q]?=some (.map es c)) (e3:a0C w A ak ae kt vt es.toList xs) (e4:∀ p∈xs,okD kt p.1) (e5:(xs.map (·.1)).Nodup) {z:El kt} (hok:okD kt z) (ok:Bool) :
  ∃ v,a3X w A ae vt (a2W vt.dflt xs z) v∧(a2A xs z=false→v=b5f ae vt)∧(Instr.lookup t (.map (some q)) (pv ak (kt.vals z)) ok).run P w=.ok (if ok then .tuple #[v,.bool (a2A xs z)] else v) w:=by
 obtain ⟨lk,hlk⟩:=M.key z hok;rcases b1c M e3 e4 hok w with ⟨f1,f2⟩|⟨j,p,v,f1,f2,f3,f4⟩
 ·have:=b07 (d:=vt.dflt) f2;rw [this.1,this.2];refine ⟨b5f ae vt,b5d vt,fun _=>rfl,?_⟩
  cases ok<;>simp [Instr.lookup,run_underlying M.ht,MapKept.run_getObj_map e2,M.K.check w _ hlk,f1,M.zero w,Result.andThen]
 ·have:=b3a (d:=vt.dflt) e5 f2;rw [f3] at this;rw [this.1,this.2];refine ⟨v,f4,fun h=>by simp at h,?_⟩
  cases ok<;>simp [Instr.lookup,run_underlying M.ht,MapKept.run_getObj_map e2,M.K.check w _ hlk,f1,Result.andThen]
theorem AO.lookup (M:MapTy P t k e ak ae kt vt) [DecidableEq (El kt)] (hd:J7 n [o]=true) (hg:o.guard=none) {x y:Operand} {ok:Bool} (ho:o.op=.lookup t x y ok) {b:Nat} (hx:(ASt.mk σ H g).ev x=.own b) {xs:List (El kt×El vt)} (hb:H b=some (.map ak ae kt vt xs))
  {l:List AVal} (hu:Z3 ak ((ASt.mk σ H g).ev y) l) {z:El kt} (hz:C6 H kt l=some (z,[])) (hok:okD kt z)
  (h2:AO P ro n ops rs Q ((ASt.mk σ H g).app o.dst { v:=if ok then .tup [a87 ae (cellsOf vt (a2W vt.dflt xs z)),.bool (a2A xs z)] else a87 ae (cellsOf vt (a2W vt.dflt xs z)) })):AO P ro n ops (o::rs) Q ⟨σ,H,g⟩:=by
 intro m ds A0 L0 w0 η a w hq0 hr;unfold wpListIn;rw [if_pos (X9 hg _)];have hxv:=hr.ev x;rw [hx] at hxv;unfold d9 at hxv;obtain ⟨q,es,c,e1,e2,e3,e4,e5⟩:=hr.hp.blk b _ (show (ASt.mk σ H g).H b=_ from hb);rw [e1] at hxv;have hyv:=a0G M.kdry M.ksz hu hz (hr.ev y);obtain ⟨u,hu2,_,hrun⟩:=b2g M e2 e3 e4 e5 hok ok;refine n7 (u:=if ok then .tuple #[u,.bool (a2A xs z)] else u) (w':=w) (by simp [ho]) (by simp [execOp,ho,hxv,hyv,hrun]) ?_;refine h2 m ds A0 L0 w0 η _ w hq0 (hr.pure (a0k hd) ?_)
 cases ok with
 | false=>exact a86 M.vok M.vsz hu2
 | true =>
  simp only [if_true];unfold d9;exact ⟨_,rfl,d6.cons (a86 M.vok M.vsz hu2) (d6.cons (by unfold d9; rfl) d6.nil)⟩
theorem b7S {w:World} {A:Nat→Prop} {xs:List (El kt×El vt)} {es:Array MapEntry} (hm:a0C w A ak ae kt vt es.toList xs) {j:Nat} {p:El kt×El vt} (hj:xs[j]?=some p) (v:El vt) {u:Value} (hu:a3X w A ae vt v u) :
  a0C w A ak ae kt vt (es.modify j fun e=>{ e with key:=pv ak (kt.vals p.1),val:=u }).toList (xs.set j (p.1,v)):=by
 have hlt:=(List.getElem?_eq_some_iff.1 hj).1;refine ⟨?_,fun i e q he hq=>?_⟩
 ·apply List.ext_getElem?;intro i;have hat:(es.toList[i]?).map (·.key)=(xs[i]?).map (fun p=>pv ak (kt.vals p.1)):=by
   have:=congrArg (fun l=>l[i]?) hm.1;simpa using this
  rw [List.getElem?_map,List.getElem?_map,Array.toList_modify,List.getElem?_modify]
  by_cases h:j=i
  ·subst h;rw [List.getElem?_set_self hlt]
   cases hc:es.toList[j]? with
   | none=>rw [hc,hj] at hat; simp at hat
   | some e0=>simp
  ·rw [List.getElem?_set_ne h];simp only [h,if_false];simpa using hat
 ·rw [Array.toList_modify,List.getElem?_modify] at he
  by_cases h:j=i
  ·subst h;rw [List.getElem?_set_self hlt] at hq;injection hq with hq;subst hq
   cases hc:es.toList[j]? with
   | none=>rw [hc] at he; simp at he
   | some e0=>rw [hc] at he; simp at he; rw [← he]; exact hu
  ·rw [List.getElem?_set_ne h] at hq;simp only [h,if_false] at he;exact hm.2 i e q (by simpa using he) hq
theorem b5I {w:World} {A:Nat→Prop} {xs:List (El kt×El vt)} {es:Array MapEntry} (hm:a0C w A ak ae kt vt es.toList xs) (z:El kt) (v:El vt) {u:Value} (hu:a3X w A ae vt v u) (c:Nat) :
  a0C w A ak ae kt vt (es.push ⟨pv ak (kt.vals z),u,c⟩).toList (xs++[(z,v)]):=by
 have hl:es.toList.length=xs.length:=by have:=congrArg List.length hm.1; simpa using this
 refine ⟨by rw [Array.toList_push,List.map_append,List.map_append,hm.1]; rfl,fun i e q he hq=>?_⟩;rw [Array.toList_push] at he
 by_cases h:i<xs.length
 ·rw [List.getElem?_append_left (by omega)] at he hq;exact hm.2 i e q he hq
 ·rw [List.getElem?_append_right (by omega)] at he hq
  by_cases h2:i=xs.length
  ·subst h2;rw [hl] at he;simp at he hq
   rw [← he,← hq]; exact hu
  ·have:i - xs.length≠0:=by omega
   rw [List.getElem?_eq_none (by simp; omega)] at hq
   cases hq
theorem b1b (M:MapTy P t k e ak ae kt vt) [DecidableEq (El kt)] {w:World} {A:Nat→Prop} {q:Nat} {es:Array MapEntry} {c:Nat} {xs:List (El kt×El vt)} (e2:w.heap[q]?=some (.map es c)) (e3:a0C w A ak ae kt vt es.toList xs) (e4:∀ p∈xs,okD kt p.1) (e5:(xs.map (·.1)).Nodup) {z:El kt} (hok:okD kt z) {zv:El vt} {u:Value} (hu:a3X w A ae vt zv u) :
  ∃ es' c',(Instr.mapUpdate t (.map (some q)) (pv ak (kt.vals z)) u).run P w=.ok () { w with heap:=w.heap.setIfInBounds q (.map es' c') }∧a0C w A ak ae kt vt es'.toList (a1m xs z zv):=by
 obtain ⟨lk,hlk⟩:=M.key z hok;rcases b1c M e3 e4 hok w with ⟨f1,f2⟩|⟨j,p,v,f1,f2,f3,f4⟩
 ·refine ⟨es.push ⟨pv ak (kt.vals z),u,c⟩,c+1,?_,?_⟩
  ·simp [Instr.mapUpdate,run_underlying M.ht,MapKept.run_getObj_map e2,M.K.check w false hlk,f1,MapKept.run_setObj_map _ e2,Result.andThen]
  ·rw [b04 f2]; exact b5I e3 z zv hu c
 ·have hj:=congrArg (fun l=>l[j]?) e3.1;simp only [List.getElem?_map,f2,Option.map_some] at hj
  cases hc:es.toList[j]? with
  | none=>rw [hc] at hj; simp at hj
  | some e0 =>
   rw [hc] at hj;simp only [Option.map_some,Option.some.injEq] at hj;have hc':es[j]?=some e0:=by simpa using hc
   refine ⟨es.modify j fun e=>{ e with key:=pv ak (kt.vals z),val:=u },c,?_,?_⟩
   ·simp [Instr.mapUpdate,run_underlying M.ht,MapKept.run_getObj_map e2,M.K.check w false hlk,f1,hc',hj,f3,M.K.stays w hlk,MapKept.run_setObj_map _ e2,Result.andThen]
   ·rw [← f3,b29 e5 f2];exact b7S e3 f2 zv hu
theorem AO.mapPut (M:MapTy P t k e ak ae kt vt) [DecidableEq (El kt)] (hd:J7 n [o]=true) (hg:o.guard=none) {x y v:Operand} (ho:o.op=.mapUpdate t x y v∨o.op=.insert t x y v) {b:Nat} (hx:(ASt.mk σ H g).ev x=.own b) {xs:List (El kt×El vt)} (hb:H b=some (.map ak ae kt vt xs))
  {l lv:List AVal} (hu:Z3 ak ((ASt.mk σ H g).ev y) l) {z:El kt} (hz:C6 H kt l=some (z,[])) (hok:okD kt z) (huv:Z3 ae ((ASt.mk σ H g).ev v) lv) {zv:El vt} (hzv:C6 H vt lv=some (zv,[]))
  (hvo:vt.dry=true∨∃ u zs,lv=[.sl u zs])
  (h2:AO P ro n ops rs Q ((ASt.mk σ H g).app o.dst { v:=.un,hp:=[(b,.map ak ae kt vt (a1m xs z zv))] })):AO P ro n ops (o::rs) Q ⟨σ,H,g⟩:=by
 intro m ds A0 L0 w0 η a w hq0 hr;unfold wpListIn;rw [if_pos (X9 hg _)];have hxv:=hr.ev x;rw [hx] at hxv;unfold d9 at hxv;obtain ⟨q,es,c,e1,e2,e3,e4,e5⟩:=hr.hp.blk b _ (show (ASt.mk σ H g).H b=_ from hb);rw [e1] at hxv;have hyv:=a0G M.kdry M.ksz hu hz (hr.ev y);have huv2:a3X w (Av A0 η H) ae vt zv (a.eval v):=b6Z M.vok M.vsz hvo huv hzv (hr.ev v);have hokp:∀ p∈a1m xs z zv,okD kt p.1:=fun p hp=>by
  have:p.1∈(a1m xs z zv).map (·.1):=List.mem_map.2 ⟨p,hp,rfl⟩;rw [a9b] at this;have hx':p.1∈xs.map (·.1)∨p.1=z:=by
   split at this
   ·exact .inl this
   ·simpa using this
  rcases hx' with h1|h1
  ·obtain ⟨p',hp',e⟩:=List.mem_map.1 h1;rw [← e]; exact e4 p' hp'
  ·rw [h1]; exact hok
 have hnd:((a1m xs z zv).map (·.1)).Nodup:=by
  rw [a9b]
  split
  ·exact e5
  ·rename_i hn;exact List.nodup_append.2 ⟨e5,by simp,fun a ha b hb=>by simp at hb; subst hb; exact fun e=>hn (by rw [← e]; exact ha)⟩
 have key:=b1b M e2 e3 e4 e5 hok huv2;obtain ⟨es',c',hrun,hm'⟩:=key;have hrel:=b7G hr (a0k hd) (show (ASt.mk σ H g).H b=_ from hb) e1 (es:=es') (c:=c') e2 hm' hokp hnd;rcases ho with ho|ho
 ·exact a1t (by simp [ho]) (by simp [execOp,ho,hxv,hyv,hrun]) (h2 m ds A0 L0 w0 η _ _ hq0 hrel)
 ·exact a1t (by simp [ho]) (by simp [execOp,ho,hxv,hyv,hrun]) (h2 m ds A0 L0 w0 η _ _ hq0 hrel)
end
attribute [go_sem] b0M a9W okD Z3 a87 List.zip_cons_cons List.zip_nil_left List.zip_nil_right b2w
end Go.Proofs.YtanaeefeggokkaaGreat
