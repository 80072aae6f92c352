import Derived.Test.YtenchhmcjmjlbaaAvb
import Derived.RangeFuncNested
import Derived.RangeFuncBound
import Derived.RangeFuncCalls
import Derived.WalkSpells
import Derived.Maps.Keyed
import Derived.MapKept
import Derived.ChangeMaps5
import Derived.WideKeyPair
/-! The abstract machine,17: loops and joins beside what pure functions do. No program is named here. -/
namespace Go.Proofs.Ytenchhmcjmjlbaa
open Go.RowKit
set_option linter.constructorNameAsVariable false
/-! ### Pure functions -/
inductive Step (S R:Type) where
 | next (s:S)
 | done (r:R)
instance instInK (k:IntKind) (n:Int):Decidable (InK k n):=by unfold InK; infer_instance
def ck {α:Type} (c:Prop) [Decidable c] (k:Option α):Option α:=if c then k else none
theorem ck_some {α:Type} {c:Prop} [Decidable c] {k:Option α} {r:α}:ck c k=some r↔c∧k=some r:=by
 unfold ck
 split
 ·rename_i h; simp [h]
 ·rename_i h; simp [h]
variable {S R:Type}
def whileN (body:S→Option (Step S R)):Nat→S→Option R
 | 0,_=>none
 | n+1,s=>match body s with
  | none=>none
  | some (.next s')=>whileN body n s'
  | some (.done r)=>some r
theorem whileN_up {body:S→Option (Step S R)}:∀ {n m:Nat} {s:S} {r:R},whileN body n s=some r→n≤m→whileN body m s=some r
 | 0,_,_,_,h,_=>by cases h
 | n+1,0,_,_,_,hm=>by omega
 | n+1,m+1,s,r,h,hm=>by
  unfold whileN at *
  cases hb:body s with
  | none=>simp [hb] at h
  | some x =>
   cases x with
   | next s'=>simp only [hb] at h ⊢; exact whileN_up h (by omega)
   | done r'=>simp only [hb] at h ⊢; exact h
theorem whileN_one {body:S→Option (Step S R)} {n m:Nat} {s:S} {r r':R} (h:whileN body n s=some r) (h':whileN body m s=some r'):r=r':=by
 have h1:=whileN_up h (Nat.le_max_left n m)
 have h2:=whileN_up h' (Nat.le_max_right n m)
 rw [h1] at h2; injection h2
open Classical in
noncomputable def whileO (body:S→Option (Step S R)) (s:S):Option R :=
 if h:∃ r n,whileN body n s=some r then some h.choose else none
theorem whileO_of {body:S→Option (Step S R)} {n:Nat} {s:S} {r:R} (h:whileN body n s=some r):whileO body s=some r:=by
 have hx:∃ r n,whileN body n s=some r:=⟨r,n,h⟩
 unfold whileO
 rw [dif_pos hx]
 obtain ⟨m,hm⟩:=hx.choose_spec
 rw [whileN_one hm h]
theorem whileO_to {body:S→Option (Step S R)} {s:S} {r:R} (h:whileO body s=some r):∃ n,whileN body n s=some r:=by
 unfold whileO at h
 split at h
 ·rename_i hx
  injection h with h
  obtain ⟨m,hm⟩:=hx.choose_spec
  exact ⟨m,by rw [h] at hm; exact hm⟩
 ·cases h
theorem whileO_inv {body:S→Option (Step S R)} (I:S→Prop) (μ:S→Nat) (G:R→Prop) (h:∀ s,I s→(∃ s',body s=some (.next s')∧I s'∧μ s'<μ s)∨(∃ r,body s=some (.done r)∧G r)):∀ s,I s→∃ r,whileO body s=some r∧G r:=by
 have:∀ m s,μ s=m→I s→∃ r n,whileN body n s=some r∧G r:=by
  intro m
  induction m using Nat.strongRecOn with
  | _ m ih =>
   intro s hs hI
   rcases h s hI with ⟨s',h1,h2,h3⟩|⟨r,h1,h2⟩
   ·obtain ⟨r,n,h4,h5⟩:=ih (μ s') (hs▸h3) s' rfl h2
    exact ⟨r,n+1,by simp [whileN,h1,h4],h5⟩
   ·exact ⟨r,1,by simp [whileN,h1],h2⟩
 intro s hI
 obtain ⟨r,n,h1,h2⟩:=this _ s rfl hI
 exact ⟨r,whileO_of h1,h2⟩
/-! ### Code -/
section
variable {P:Program} {ro:Option Nat} {n:Nat} {Q:Exit→ASt→Prop} {s:ASt} {K:ASt→Prop}
theorem AW.loopO {c:Code} (body:S→Option (Step S R)) (inv:S→ASt) (s0:S) {r:R} (hr:whileO body s0=some r) (h0:Wk n s (inv s0))
  (round:∀ st x,body st=some x→(∀ r',x=.done r'→r'=r)→AW P ro n c (athen (fun s''=>∃ st',x=.next st'∧Wk n s'' (inv st')) Q) (inv st)):AW P ro n (.loop c) Q s:=by
 obtain ⟨m,hm⟩:=whileO_to hr
 refine AW.loop (ι:=Nat×S) (fun p=>inv p.2) (fun p=>whileN body p.1 p.2=some r) (fun p=>p.1) (m,s0) h0 hm ?_
 rintro ⟨k,st⟩ hk
 simp only at hk
 cases k with
 | zero=>cases hk
 | succ k =>
  unfold whileN at hk
  cases hb:body st with
  | none=>simp [hb] at hk
  | some x =>
   refine AW.mono (round st x hb ?_) ?_
   ·rintro r' rfl
    simp only [hb] at hk
    injection hk
   ·intro e s'' hq
    cases e with
    | normal =>
     obtain ⟨st',rfl,hw⟩:=hq
     simp only [hb] at hk
     exact ⟨(k,st'),hk,Nat.lt_succ_self _,hw⟩
    | _=>exact hq
theorem athen_n {e:Code} (h:AW P ro n e Q s):athen (AW P ro n e Q) Q .normal s:=h
theorem athen_e {id:Nat} (h:Q (.exit id) s):athen K Q (.exit id) s:=h
theorem athen_r (h:Q .ret s):athen K Q .ret s:=h
theorem ablock_n {id:Nat} (h:Q .normal s):ablock id Q .normal s:=h
theorem ablock_r {id:Nat} (h:Q .ret s):ablock id Q .ret s:=h
theorem ablock_s {id:Nat} (h:Q .normal s):ablock id Q (.exit id) s:=by
 show if id=id then Q .normal s else Q (.exit id) s
 rw [if_pos rfl]; exact h
theorem AW.have1 {B:Type} {x z:Code} (p:B→Prop) (out:B→ASt) (hk:∀ b,p b→AW P ro n z Q (out b)) (h:(∀ b,p b→AW P ro n z Q (out b))→AW P ro n (.seq x z) Q s):AW P ro n (.seq x z) Q s:=h hk
theorem AW.have2 {B:Type} {x y z:Code} (p:B→Prop) (out:B→ASt) (hk:∀ b,p b→AW P ro n z Q (out b)) (h:(∀ b,p b→AW P ro n z Q (out b))→AW P ro n (.seq x (.seq y z)) Q s):AW P ro n (.seq x (.seq y z)) Q s:=h hk
/-! ### Calls -/
section
variable {σ:Nat→AVal} {H:AHeap} {gg:Gh} {T:Tab} {ops l:List Oper} {o:Oper} {c:Call} {f:Operand} {g:FuncId} {p cp lx:List AVal} {r:AVal} {hin hout:List (Nat×ABlk)}
theorem stepCall {K:Eff→Prop} (ho:o.op=.call c) (hc:c.callee=.value f) (hf:s.ev f=.fn (.func g) p cp) (D:List Nat) (rn:List (Nat×Nat)) (hcon:HC P g hin lx hout r)
  (hok:callOK (o.dst.getD 0) D rn hin hout r (p++c.args.toList.map s.ev++cp)=true) (hle:LeL s.H D [] (look rn) (p++c.args.toList.map s.ev++cp) lx) (hlh:LeH s.H D [] (look rn) hin)
  (hK:K { v:=r.ren (back (o.dst.getD 0) rn hin),kill:=lostH rn hout hin++newH (o.dst.getD 0) hin hout,hp:=renH (back (o.dst.getD 0) rn hin) hout++(if (r.dry&&dryH hout)=true then [] else rest s.H D) }):stepOp P T s o K:=by
 unfold stepOp
 rw [ho]
 simp only [hc]
 unfold stCall
 rw [hf]
 exact ⟨D,rn,hin,lx,hout,r,hcon,hok,hle,hlh,hK⟩
theorem AO.call (hT:TabOK P T) (hd:dstOK n [o]=true) (ho:o.op=.call c) (hc:c.callee=.value f) (hf:(ASt.mk σ H gg).ev f=.fn (.func g) p cp) (hg:∀ K,stepOp P T (ASt.mk σ H gg) o K→gstep P T ops (ASt.mk σ H gg) o K) (D:List Nat) (rn:List (Nat×Nat)) (hcon:HC P g hin lx hout r)
  (hok:callOK (o.dst.getD 0) D rn hin hout r (p++c.args.toList.map (ASt.mk σ H gg).ev++cp)=true) (hle:LeL H D [] (look rn) (p++c.args.toList.map (ASt.mk σ H gg).ev++cp) lx) (hlh:LeH H D [] (look rn) hin)
  (l':List (Nat×AVal)) (h':List (Nat×ABlk))
  (hK:fits l' h' gg ((ASt.mk σ H gg).app o.dst { v:=r.ren (back (o.dst.getD 0) rn hin),kill:=lostH rn hout hin++newH (o.dst.getD 0) hin hout,hp:=renH (back (o.dst.getD 0) rn hin) hout++(if (r.dry&&dryH hout)=true then [] else rest H D) }))
  (h2:AO P ro n ops l Q ⟨fr l',hpGet h',gg⟩):AO P ro n ops (o::l) Q ⟨σ,H,gg⟩ :=
 AO.segF hT 1 hd l' h' (hg _ (stepCall ho hc hf D rn hcon hok hle hlh hK)) h2
theorem adops.call {X F:List (Nat×List Nat)} {i:Nat} {K:ASt→Prop} (hs:match lookL F i with|some φ=>seesB s φ o=true|none=>True) (ho:o.op=.call c) (hc:c.callee=.value f) (hf:s.ev f=.fn (.func g) p cp) (hg:∀ K,stepOp P T s o K→gstep P T ops s o K) (D:List Nat) (rn:List (Nat×Nat)) (hcon:HC P g hin lx hout r)
  (hok:callOK (o.dst.getD 0) D rn hin hout r (p++c.args.toList.map s.ev++cp)=true) (hle:LeL s.H D [] (look rn) (p++c.args.toList.map s.ev++cp) lx) (hlh:LeH s.H D [] (look rn) hin)
  (hX:effB X F i { v:=r.ren (back (o.dst.getD 0) rn hin),kill:=lostH rn hout hin++newH (o.dst.getD 0) hin hout,hp:=renH (back (o.dst.getD 0) rn hin) hout++(if (r.dry&&dryH hout)=true then [] else rest s.H D) }=true)
  (hK:adops P T ops X F (i+1) l (s.app o.dst { v:=r.ren (back (o.dst.getD 0) rn hin),kill:=lostH rn hout hin++newH (o.dst.getD 0) hin hout,hp:=renH (back (o.dst.getD 0) rn hin) hout++(if (r.dry&&dryH hout)=true then [] else rest s.H D) }) K) :
  adops P T ops X F i (o::l) s K:=by
 unfold adops
 exact ⟨hs,hg _ (stepCall ho hc hf D rn hcon hok hle hlh ⟨hX,hK⟩)⟩
theorem adops_nil {X F:List (Nat×List Nat)} {i:Nat} {K:ASt→Prop} (h:K s):adops P T ops X F i [] s K:=h
end
end
end Go.Proofs.Ytenchhmcjmjlbaa
/-! The abstract machine,18: iterators: calls of yield,contracts of iterators. No program is named here. -/
namespace Go.Proofs.Ytenchhmcjmjlbaa
open Go.RowKit
set_option linter.constructorNameAsVariable false
section
variable {P:Program} {T:Tab} {n:Nat} {ds:List Deferred} {A0 L0:Nat→Prop} {w0:Old} {η:Nat→Value} {s:ASt} {a:Act} {w:World}
end
/-! ### Yield -/
section
variable {S R Y:Type} {P:Program}
def YieldOK (P:Program) (l:Nat) (enc:Y→List AVal) (body:Y→S→Option (Step S R)) (Γ:S→Gh) (Γx:R→Gh):Prop :=
 ∀ (y:Y) (st:S) (x:Step S R),body y st=some x→∀ (η:Nat→Value) (A I:Nat→Prop) (w:World) (us:Array Value),(Γ st).J A I w→(∀ g,A g→g<w.heap.size∧¬ I g)→(∀ g,I g→g<w.heap.size)→RepVs η w (fun g=>A g∨I g) (enc y) us.toList →
  YieldAt Fence.wide 0 P l us w fun e w'=>Turns A w w'∧∃ A':Nat→Prop,(∀ g,A' g→A g∨(w.heap.size≤g∧g<w'.heap.size)) ∧
   match x with
   | .next st'=>e=.returned (.bool true)∧(Γ st').J A' I w'
   | .done r=>e=.returned (.bool false)∧(Γx r).J A' I w'
variable {n:Nat} {ro:Option Nat} {Q:Exit→ASt→Prop} {σ:Nat→AVal} {H:AHeap} {o:Oper} {ops rs:List Oper} {c:Call} {f:Operand} {enc:Y→List AVal} {body:Y→S→Option (Step S R)} {Γ:S→Gh} {Γx:R→Gh} {lp:Nat}
end
end Go.Proofs.Ytenchhmcjmjlbaa
/-! The abstract machine,19: contracts of iterators; ranges over functions. No program is named here. -/
namespace Go.Proofs.Ytenchhmcjmjlbaa
open Go.RowKit
set_option linter.constructorNameAsVariable false
set_option linter.unusedVariables false
section
variable {S R Y:Type} {P:Program}
def gend (Γ:S→Gh) (Γx:R→Gh):Sum S R→Gh
 | .inl s=>Γ s
 | .inr x=>Γx x
def IC (P:Program) (gf:FuncId) (hin:List (Nat×ABlk)) (pre cap:List AVal) (enc:Y→List AVal) (body:Y→S→Option (Step S R)) (s0:S) (r:Sum S R):Prop :=
 FnOK P gf∧∀ (Γ:S→Gh) (Γx:R→Gh),(∀ s,(Γ s).yl=true)→(∀ r,(Γx r).yl=true)→∀ l,YieldOK P l enc body Γ Γx →
  ∀ (η:Nat→Value) (A0:Nat→Prop) (w:World) (us vs:Array Value),RelH A0 η (hpGet hin) w→RepVs η w (Av A0 η (hpGet hin)) pre us.toList→RepVs η w (Av A0 η (hpGet hin)) cap vs.toList→(Γ s0).J A0 (Live η (hpGet hin)) w →
   Calls P gf (us++#[.func (.yield l) #[] #[]]++vs) w fun e w'=>(∃ v,e=.returned v)∧∃ A1 I1:Nat→Prop,Turns (fun g=>A0 g∨Live η (hpGet hin) g) w w'∧(gend Γ Γx r).J A1 I1 w'
def ipost (G:Gh):Exit→ASt→Prop
 | .normal,s=>s.g=G
 | .ret,s=>s.g=G
 | _,_=>False
end
/-! ### Ranges over functions -/
def AR (w0:Old) (Ms:List Nat) (l:Nat) (A1 I:Nat→Prop):Nat→Prop:=fun q=>A1 q∨w0.U q∨q∈Ms∨I q∨q=l
structure LoopSt (L0:Nat→Prop) (w0:Old) (tmps:Array Value) (l0:List (Nat×AVal)) (ηe:Nat→Value) (Ms:List Nat) (l:Nat) (h:List (Nat×ABlk)) (g:Gh) (lp:Loop) (C I:Nat→Prop) (W:World) (ηr:Nat→Value) (A1:Nat→Prop):Prop where
 cdef:∀ q,C q↔Live ηr (hpGet h) q∨A1 q∨w0.U q∨q∈Ms∨q=l
 hp:RelH (AR w0 Ms l A1 I) ηr (hpGet h) W
 tmp:∀ i,RepV ηr W (Av (AR w0 Ms l A1 I) ηr (hpGet h)) (fr l0 i) (tmps.getD i undef)
 hd:∀ b,handed b→(hpGet h b).isSome=true→ηr b=ηe b
 frm:Fr L0 w0.toWorld W
 old:∀ q,Live ηr (hpGet h) q→q<w0.heap.size→L0 q
 iold:∀ q,I q→q<w0.heap.size→L0 q
 mks:∀ M∈Ms,w0.heap.size≤M∧W.heap[M]?=some (.deferred (some []))
 dis:∀ q,A1 q→¬ w0.U q∧q ∉ Ms∧¬ I q∧q≠l
 idis:¬ I l∧(∀ M∈Ms,¬ I M)∧∀ q,w0.U q→¬ I q
 ldis:l ∉ Ms
 lnu:¬ w0.U l
 rcd:W.heap[l]?=some (.loop lp)
 lnew:w0.heap.size≤l
 rds:Rounds w0 W
 know:g.J A1 (fun q=>Live ηr (hpGet h) q∨w0.U q∨q∈Ms∨I q∨q=l) W
 yl:if g.yl=true then ∀ q,A1 q→q<w0.heap.size→L0 q else A1=w0.A
section
variable {L0:Nat→Prop} {w0:Old} {tmps:Array Value} {l0:List (Nat×AVal)} {ηe:Nat→Value} {Ms:List Nat} {l:Nat} {h:List (Nat×ABlk)} {g:Gh} {lp:Loop} {C I:Nat→Prop} {W:World} {ηr:Nat→Value} {A1:Nat→Prop}
theorem LoopSt.turn (H:LoopSt L0 w0 tmps l0 ηe Ms l h g lp C I W ηr A1) {I':Nat→Prop} {W':World} (ht:Turns I W W') (hI:∀ q,I' q→I q∨(W.heap.size≤q∧q<W'.heap.size)):LoopSt L0 w0 tmps l0 ηe Ms l h g lp C I' W' ηr A1:=by
 have sub:∀ q,q<W.heap.size→AR w0 Ms l A1 I' q→AR w0 Ms l A1 I q:=by
  rintro q hq (h1|h1|h1|h1|h1)
  ·exact .inl h1
  ·exact .inr (.inl h1)
  ·exact .inr (.inr (.inl h1))
  ·rcases hI q h1 with h2|h2
   ·exact .inr (.inr (.inr (.inl h2)))
   ·omega
  ·exact .inr (.inr (.inr (.inr h1)))
 have k:Keeps (Av (AR w0 Ms l A1 I) ηr (hpGet h)) (Av (AR w0 Ms l A1 I') ηr (hpGet h)) W W' :=
  ⟨ht.size,fun q hq hn=>ht.heap q hq fun hi=>hn (.inl (.inr (.inr (.inr (.inl hi))))),fun q hq hc=>hc.imp (sub q hq) id⟩
 have hni:∀ q,Live ηr (hpGet h) q→¬ I q:=fun q hl hi=>(H.hp.av q (.inr (.inr (.inr (.inl hi))))).2 hl
 have hlt:l<W.heap.size:=(Array.getElem?_eq_some_iff.1 H.rcd).1
 refine ⟨H.cdef,⟨fun b B hb=>?_,H.hp.inj,fun q hq=>?_⟩,fun i=>RepV.step k _ _ (fun _ _=>rfl) (H.tmp i),H.hd,⟨ht.os.trans H.frm.os,ht.tape.trans H.frm.tape,ht.output.trans H.frm.output,Nat.le_trans H.frm.size ht.size,fun q hq hn=>(ht.heap q (Nat.lt_of_lt_of_le hq H.frm.size) fun hi=>hn (H.iold q hi hq)).trans (H.frm.heap q hq hn)⟩,H.old,fun q hq hlt=>?_,fun M hM=>⟨(H.mks M hM).1,?_⟩,fun q hq=>⟨(H.dis q hq).1,(H.dis q hq).2.1,fun hi=>?_,(H.dis q hq).2.2.2⟩,⟨fun hi=>?_,fun M hM hi=>?_,fun q hq hi=>?_⟩,H.ldis,H.lnu,?_,H.lnew,?_,?_,H.yl⟩
 ·have:=RelBlk.step (K:=[]) (η':=ηr) (η:=ηr) k (fun _ _=>rfl) (fun q hm hg=>ht.heap q (Live.lt H.hp ⟨b,B,hb,hm,hg⟩) (hni q ⟨b,B,hb,hm,hg⟩)) (H.hp.blk b B hb)
  rwa [bclean_nil] at this
 ·by_cases hlt:q<W.heap.size
  ·have:=H.hp.av q (sub q hlt hq); exact ⟨Nat.lt_of_lt_of_le this.1 ht.size,this.2⟩
  ·refine ⟨?_,fun hl=>hlt (Live.lt H.hp hl)⟩
   rcases hq with h1|h1|h1|h1|h1
   ·have:=(H.hp.av q (.inl h1)).1; omega
   ·have:=(H.hp.av q (.inr (.inl h1))).1; omega
   ·have:=(H.hp.av q (.inr (.inr (.inl h1)))).1; omega
   ·rcases hI q h1 with h2|h2
    ·have:=(H.hp.av q (.inr (.inr (.inr (.inl h2))))).1; omega
    ·exact h2.2
   ·subst h1; omega
 ·rcases hI q hq with h2|h2
  ·exact H.iold q h2 hlt
  ·have:=H.frm.size; omega
 ·exact (ht.heap M (Array.getElem?_eq_some_iff.1 (H.mks M hM).2).1 (H.idis.2.1 M hM)).trans (H.mks M hM).2
 ·rcases hI q hi with h2|h2
  ·exact (H.dis q hq).2.2.1 h2
  ·have:=(H.hp.av q (.inl hq)).1; omega
 ·rcases hI l hi with h2|h2
  ·exact H.idis.1 h2
  ·omega
 ·rcases hI M hi with h2|h2
  ·exact H.idis.2.1 M hM h2
  ·have:=(Array.getElem?_eq_some_iff.1 (H.mks M hM).2).1; omega
 ·rcases hI q hi with h2|h2
  ·exact H.idis.2.2 q hq h2
  ·have:=(H.hp.av q (.inr (.inl hq))).1; omega
 ·exact (ht.heap l hlt H.idis.1).trans H.rcd
 ·intro q r hq
  obtain ⟨h1,h2⟩:=H.rds q r hq
  exact ⟨h1,(ht.heap q (Array.getElem?_eq_some_iff.1 h2).1 (H.idis.2.2 q h1)).trans h2⟩
 ·refine g.cl _ _ _ _ _ H.know (ht.mono fun q _ hi=>.inr (.inr (.inr (.inl hi)))) fun q hq=>?_
  rcases hq with h1|h1|h1|h1|h1
  ·exact .inl (.inl h1)
  ·exact .inl (.inr (.inl h1))
  ·exact .inl (.inr (.inr (.inl h1)))
  ·rcases hI q h1 with h2|h2
   ·exact .inl (.inr (.inr (.inr (.inl h2))))
   ·exact .inr h2
  ·exact .inl (.inr (.inr (.inr (.inr h1))))
def roundOld (w0:Old) (W:World) (ηe:Nat→Value) (A1 I:Nat→Prop) (Ms:List Nat) (l:Nat) (lp:Loop):Old:={ toWorld:=W,ηh:=ηe,A:=A1,U:=fun q=>w0.U q∨q∈Ms∨I q∨q=l,rd:=some (l,lp) }
def roundL (ηr:Nat→Value) (h:List (Nat×ABlk)) (g:Gh) (A1:Nat→Prop) (l:Nat):Nat→Prop:=fun q=>Live ηr (hpGet h) q∨(g.yl=true∧A1 q)∨q=l
def setF:List (Nat×AVal)→List (Nat×AVal)→List (Nat×AVal)
 | [],l=>l
 | p::r,l=>setF r (p::l)
end
end Go.Proofs.Ytenchhmcjmjlbaa
/-! The abstract machine,20: the statement that ranges over a function. No program is named here. -/
namespace Go.Proofs.Ytenchhmcjmjlbaa
open Go.RowKit
set_option linter.constructorNameAsVariable false
set_option linter.unusedVariables false
section
variable {S R Y X:Type} {P:Program} {n:Nat}
def lgh (L0:Nat→Prop) (w0:Old) (tmps:Array Value) (l0:List (Nat×AVal)) (ηe:Nat→Value) (Ms:List Nat) (l:Nat) (h:X→List (Nat×ABlk)) (gg:X→Gh) (lp:X→Loop) (st:X):Gh where
 yl:=true
 J C I W:=∃ ηr A1,LoopSt L0 w0 tmps l0 ηe Ms l (h st) (gg st) (lp st) C I W ηr A1
 cl:=fun _ _ _ _ _ ⟨ηr,A1,H⟩ ht hi=>⟨ηr,A1,H.turn ht hi⟩
def mkLoop (fn:FuncId) (tmps:Array Value) (ps:Array Tmp) (assign bd:Code) (dfb:Nat) (st:LoopState) (pe:Option Code):Loop:={ state:=st,pending:=pe,fn,tmps,params:=ps,assign,body:=bd,defers:=dfb }
def rpost (h:S→List (Nat×ABlk)) (gg:S→Gh) (hx:R→List (Nat×ABlk)) (gx:R→Gh) (code:R→Code):Step S R→Exit→ASt→Prop
 | .next st',e,s=>e=.normal∧s.g=gg st'∧∃ (D N:List Nat) (rn:List (Nat×Nat)),namesOK (look rn) D N (h st')=true∧LeH s.H D N (look rn) (h st')
 | .done r,e,s=>((e=.ret∧code r=.ret)∨∃ id,e=.exit id∧code r=.exit id)∧s.g=gx r∧∃ (D N:List Nat) (rn:List (Nat×Nat)),namesOK (look rn) D N (hx r)=true∧LeH s.H D N (look rn) (hx r)
variable {L0:Nat→Prop} {w0:Old} {tmps:Array Value} {l0:List (Nat×AVal)} {ηe:Nat→Value} {Ms:List Nat} {l:Nat} {enc:Y→List AVal} {bodyP:Y→S→Option (Step S R)}
 {h:S→List (Nat×ABlk)} {gg:S→Gh} {hx:R→List (Nat×ABlk)} {gx:R→Gh} {code:R→Code} {ps:Array Tmp} {assign bd:Code} {fnid:FuncId} {dfb:Nat}
end
end Go.Proofs.Ytenchhmcjmjlbaa
/-! The abstract machine,21: ranges over functions,whole. No program is named here. -/
namespace Go.Proofs.Ytenchhmcjmjlbaa
open Go.RowKit
set_option linter.constructorNameAsVariable false
set_option linter.unusedVariables false
mutual
theorem unren_rep {η:Nat→Value} {w:World} {A:Nat→Prop} {f:Nat→Nat}:∀ (x:AVal) (v:Value),RepV η w A (x.ren f) v→RepV (fun b=>η (f b)) w A x v
 | .un,v,h=>by unfold RepV; trivial
 | .int _ _,v,h=>by unfold AVal.ren at h; unfold RepV at *; exact h
 | .bool _,v,h=>by unfold AVal.ren at h; unfold RepV at *; exact h
 | .sl t xs,v,h=>by unfold AVal.ren at h; unfold RepV at *; exact h
 | .cut t xs,v,h=>by unfold AVal.ren at h; unfold RepV at *; exact h
 | .dp t x o,v,h=>by unfold AVal.ren at h; unfold RepV at *; exact h
 | .cv _,v,h=>by unfold AVal.ren at h; unfold RepV at *; exact h
 | .own b,v,h=>by unfold AVal.ren at h; unfold RepV at *; exact h
 | .bp b o,v,h=>by unfold AVal.ren at h; unfold RepV at *; exact h
 | .ap b z i o,v,h=>by unfold AVal.ren at h; unfold RepV at *; exact h
 | .vw b z i o,v,h=>by unfold AVal.ren at h; unfold RepV at *; exact h
 | .one,v,h=>by unfold AVal.ren at h; unfold RepV at *; exact h
 | .agg l,v,h=>by
  unfold AVal.ren at h
  unfold RepV at *
  obtain ⟨vs,e,hl⟩:=h
  exact ⟨vs,e,unren_repL l _ hl⟩
 | .tup l,v,h=>by
  unfold AVal.ren at h
  unfold RepV at *
  obtain ⟨vs,e,hl⟩:=h
  exact ⟨vs,e,unren_repL l _ hl⟩
 | .fn g p c,v,h=>by
  unfold AVal.ren at h
  unfold RepV at *
  obtain ⟨ps,cs,e,hp,hc⟩:=h
  exact ⟨ps,cs,e,unren_repL p _ hp,unren_repL c _ hc⟩
theorem unren_repL {η:Nat→Value} {w:World} {A:Nat→Prop} {f:Nat→Nat}:∀ (l:List AVal) (vs:List Value),RepVs η w A (AVal.renL f l) vs→RepVs (fun b=>η (f b)) w A l vs
 | [],vs,h=>by unfold AVal.renL at h; unfold RepVs at *; exact h
 | x::l,vs,h=>by
  unfold AVal.renL at h
  unfold RepVs at *
  obtain ⟨u,us,e,hx,hl⟩:=h
  exact ⟨u,us,e,unren_rep x u hx,unren_repL l us hl⟩
end
mutual
theorem ids_ren {f:Nat→Nat}:∀ (x:AVal) {b:Nat},b∈(x.ren f).ids→∃ b0∈x.ids,b=f b0
 | .un,b,h=>by simp [AVal.ren,AVal.ids] at h
 | .int _ _,b,h=>by simp [AVal.ren,AVal.ids] at h
 | .bool _,b,h=>by simp [AVal.ren,AVal.ids] at h
 | .sl t xs,b,h=>by simp [AVal.ren,AVal.ids] at h
 | .cut t xs,b,h=>by simp [AVal.ren,AVal.ids] at h
 | .dp t x o,b,h=>by simp [AVal.ren,AVal.ids] at h
 | .cv _,b,h=>by simp [AVal.ren,AVal.ids] at h
 | .own c,b,h=>by simp only [AVal.ren,AVal.ids,List.mem_singleton] at h; exact ⟨c,by simp [AVal.ids],h⟩
 | .bp c o,b,h=>by simp only [AVal.ren,AVal.ids,List.mem_singleton] at h; exact ⟨c,by simp [AVal.ids],h⟩
 | .ap c z i o,b,h=>by simp only [AVal.ren,AVal.ids,List.mem_singleton] at h; exact ⟨c,by simp [AVal.ids],h⟩
 | .vw c z i o,b,h=>by simp only [AVal.ren,AVal.ids,List.mem_singleton] at h; exact ⟨c,by simp [AVal.ids],h⟩
 | .one,b,h=>by simp [AVal.ren,AVal.ids] at h
 | .agg l,b,h=>by
  simp only [AVal.ren,AVal.ids] at h ⊢
  exact ids_renL l h
 | .tup l,b,h=>by
  simp only [AVal.ren,AVal.ids] at h ⊢
  exact ids_renL l h
 | .fn g p c,b,h=>by
  simp only [AVal.ren,AVal.ids] at h ⊢
  rcases List.mem_append.1 h with h|h
  ·obtain ⟨b0,h1,h2⟩:=ids_renL p h; exact ⟨b0,List.mem_append_left _ h1,h2⟩
  ·obtain ⟨b0,h1,h2⟩:=ids_renL c h; exact ⟨b0,List.mem_append_right _ h1,h2⟩
theorem ids_renL {f:Nat→Nat}:∀ (l:List AVal) {b:Nat},b∈AVal.idsL (AVal.renL f l)→∃ b0∈AVal.idsL l,b=f b0
 | [],b,h=>by simp [AVal.renL,AVal.idsL] at h
 | x::l,b,h=>by
  simp only [AVal.renL,AVal.idsL] at h ⊢
  rcases List.mem_append.1 h with h|h
  ·obtain ⟨b0,h1,h2⟩:=ids_ren x h; exact ⟨b0,List.mem_append_left _ h1,h2⟩
  ·obtain ⟨b0,h1,h2⟩:=ids_renL l h; exact ⟨b0,List.mem_append_right _ h1,h2⟩
end
def renF (f:Nat→Nat):List (Nat×AVal)→List (Nat×AVal)
 | []=>[]
 | (i,x)::r=>(i,x.ren f)::renF f r
def idsF:List (Nat×AVal)→List Nat
 | []=>[]
 | (_,x)::r=>x.ids++idsF r
def invOK (r r':List (Nat×Nat)) (ns:List Nat):Bool:=ns.all fun c=>look r' (look r c)==c
def outOK (r r':List (Nat×Nat)) (ks:List Nat) (ns:List Nat):Bool:=ns.all fun c=>look r' (look r c)==c&&(if 1000≤c∧c<2000 then look r c==c&&look r' c==c&&ks.contains c else true)
section
variable {n:Nat} {ds:List Deferred} {L0:Nat→Prop} {w0:Old} {tmps:Array Value} {l0:List (Nat×AVal)} {ηe:Nat→Value} {Ms:List Nat} {l:Nat} {g:Gh} {lp:Loop} {C I:Nat→Prop} {W:World} {ηr:Nat→Value} {A1:Nat→Prop}
end
end Go.Proofs.Ytenchhmcjmjlbaa
/-! The abstract machine,22: ranges over functions: the rule. No program is named here. -/
namespace Go.Proofs.Ytenchhmcjmjlbaa
open Go.RowKit
set_option linter.constructorNameAsVariable false
set_option linter.unusedVariables false
set_option linter.unusedSimpArgs false
def exCode:Exit→Code
 | .ret=>.ret
 | .exit id=>.exit id
 | _=>.skip
def isOut:Exit→Bool
 | .ret=>true
 | .exit _=>true
 | _=>false
def nodupK:List (Nat×ABlk)→Bool
 | []=>true
 | (c,_)::r=>!hasKey r c&&nodupK r
section
variable {S R Y:Type} {P:Program} {n:Nat} {ro:Option Nat} {Q:Exit→ASt→Prop}
end
end Go.Proofs.Ytenchhmcjmjlbaa
/-! The abstract machine,23: a slice held against nil. No program is named here. -/
namespace Go.Proofs.Ytenchhmcjmjlbaa
open Go.RowKit
set_option linter.constructorNameAsVariable false
set_option linter.unusedVariables false
section
variable {P:Program} {T:Tab} {n:Nat} {ro:Option Nat} {Q:Exit→ASt→Prop} {σ:Nat→AVal} {H:AHeap} {g:Gh} {o:Oper} {ops rs:List Oper}
theorem AO.nilEq (hT:TabOK P T) (hd:dstOK n [o]=true) (hg:o.guard=none) {t e:TypeId} {i:TInfo} {x y:Operand} {z:Nat} {neg:Bool} (ho:o.op=.binOp (if neg then .neq else .eql) t x y z) (ht:T t=some i) (hi:i.desc=.sl e)
  {τ:Ty} {xs:List (El τ)} (hx:(ASt.mk σ H g).ev x=.sl τ xs) (hy:(ASt.mk σ H g).ev y=.cv (.slice none 0 0))
  (h1:xs=[]→AO P ro n ops rs Q ((ASt.mk σ H g).app o.dst { v:=.bool (!neg) })) (h2:AO P ro n ops rs Q ((ASt.mk σ H g).app o.dst { v:=.bool neg })):AO P ro n ops (o::rs) Q ⟨σ,H,g⟩:=by
 intro m ds A0 L0 w0 η a w hq0 hr
 unfold wpListIn
 have hwant:Region.wanted o (yielded ops.toArray a.tmps)=true:=by simp [Region.wanted,hg]
 rw [if_pos hwant]
 have hdo:∀ i,o.dst=some i→i<n:=fun i hi=>by
  unfold dstOK at hd
  simp only [List.all_cons,List.all_nil,Bool.and_true] at hd
  rw [hi] at hd; simpa using hd
 have hxv:=hr.ev x
 have hyv:=hr.ev y
 rw [hx] at hxv
 rw [hy] at hyv
 unfold RepV at hxv hyv
 obtain ⟨ad,c,hxv,hb⟩:=hxv
 have hu:=(hT t i ht).slice hi
 cases neg with
 | false =>
  refine wpIn_value (u:=.bool ad.isNone) (w':=w) (by simp [ho]) ?_ ?_
  ·have:=Lib.run_eql_slice_nil (P:=P) w t e ad xs.length c 0 0 hu
   simp [execOp,ho,hxv,hyv,eqGuard,this]
  ·cases ad with
   | none =>
    have hnil:xs=[]:=by
     cases xs with
     | nil=>rfl
     | cons z zs=>obtain ⟨b,o',e1,_⟩:=hb.2.2 (by simp); cases e1
    exact h1 hnil m ds A0 L0 w0 η _ w hq0 (hr.pure hdo (by unfold RepV; rfl))
   | some ad=>exact h2 m ds A0 L0 w0 η _ w hq0 (hr.pure hdo (by unfold RepV; rfl))
 | true =>
  refine wpIn_value (u:=.bool (!ad.isNone)) (w':=w) (by simp [ho]) ?_ ?_
  ·have:=run_neq_slice_nil_any (P:=P) w t e ad xs.length c 0 0 hu
   simp [execOp,ho,hxv,hyv,eqGuard,this]
  ·cases ad with
   | none =>
    have hnil:xs=[]:=by
     cases xs with
     | nil=>rfl
     | cons z zs=>obtain ⟨b,o',e1,_⟩:=hb.2.2 (by simp); cases e1
    exact h1 hnil m ds A0 L0 w0 η _ w hq0 (hr.pure hdo (by unfold RepV; rfl))
   | some ad=>exact h2 m ds A0 L0 w0 η _ w hq0 (hr.pure hdo (by unfold RepV; rfl))
end
end Go.Proofs.Ytenchhmcjmjlbaa
/-! The abstract machine,24: maps of dry data. No program is named here. -/
namespace Go.Proofs.Ytenchhmcjmjlbaa
open Go.RowKit Go.Maps
set_option linter.constructorNameAsVariable false
set_option linter.unusedVariables false
set_option linter.unusedSimpArgs false
/-! ### Lists of keys with values -/
section
variable {α β:Type} [DecidableEq α]
def mget (d:β):List (α×β)→α→β
 | [],_=>d
 | (k,v)::r,x=>if k=x then v else mget d r x
def mhas:List (α×β)→α→Bool
 | [],_=>false
 | (k,_)::r,x=>if k=x then true else mhas r x
def mput:List (α×β)→α→β→List (α×β)
 | [],x,v=>[(x,v)]
 | (k,w)::r,x,v=>if k=x then (x,v)::r else (k,w)::mput r x v
end
def zval (ae:Bool):Ty→Value
 | .sl _=>.slice none 0 0
 | .int k=>pv ae (Ty.vals (.int k) (Ty.dflt (.int k)))
 | .bool=>pv ae (Ty.vals .bool (Ty.dflt .bool))
 | .unit=>pv ae (Ty.vals .unit (Ty.dflt .unit))
 | .pair a b=>pv ae (Ty.vals (.pair a b) (Ty.dflt (.pair a b)))
structure MapTy (P:Program) (t k e:TypeId) (ak ae:Bool) (kt vt:Ty):Prop where
 ht:P.underlying t=some (.map k e)
 K:Keyed P k
 key:∀ x:El kt,okD kt x→∃ l,keyOf P k (pv ak (kt.vals x))=some l
 zero:∀ w,(zeroValue e).run P w=.ok (zval ae vt) w
 kdry:kt.dry=true
 vok:vt.dry=true∨(ae=false∧∃ u,vt=.sl u)
 ksz:ak=true∨kt.size=1
 vsz:ae=true∨vt.size=1
theorem inK_wf {k:IntKind} {n:Int} (h:InK k n):(Lit.int k n).wf=true:=by
 unfold InK at h
 simp [Lit.wf,h.1,h.2]
theorem vals_len:∀ (t:Ty) (x:El t),t.dry=true→(t.vals x).length=t.size
 | .int _,_,_=>rfl
 | .bool,_,_=>rfl
 | .unit,_,_=>rfl
 | .pair a b,x,h=>by
  simp only [Ty.dry,Bool.and_eq_true] at h
  simp [Ty.vals,Ty.size,vals_len a _ h.1,vals_len b _ h.2]
 | .sl _,_,h=>by simp [Ty.dry] at h
theorem vals_inj:∀ (t:Ty) (x y:El t),t.dry=true→t.vals x=t.vals y→x=y
 | .int _,x,y,_,h=>by simp only [Ty.vals,List.cons.injEq,Value.int.injEq,true_and,and_true] at h; exact h
 | .bool,x,y,_,h=>by simp only [Ty.vals,List.cons.injEq,Value.bool.injEq,and_true] at h; exact h
 | .unit,_,_,_,_=>rfl
 | .pair a b,x,y,hd,h=>by
  simp only [Ty.dry,Bool.and_eq_true] at hd
  simp only [Ty.vals] at h
  have:=List.append_inj h (by rw [vals_len a _ hd.1,vals_len a _ hd.1])
  exact Prod.ext (vals_inj a _ _ hd.1 this.1) (vals_inj b _ _ hd.2 this.2)
 | .sl _,_,_,h,_=>by simp [Ty.dry] at h
def packA (ag:Bool) (l:List AVal):AVal:=if ag then .agg l else l.headD .un
def vtOK (ag:Bool) (t:Ty):Prop:=t.dry=true∨(ag=false∧∃ u,t=.sl u)
section
variable {P:Program} {T:Tab} {n:Nat} {ds:List Deferred} {A0 L0:Nat→Prop} {w0:Old} {η:Nat→Value} {s:ASt} {a:Act} {w:World}
variable {ro:Option Nat} {Q:Exit→ASt→Prop} {σ:Nat→AVal} {H:AHeap} {g:Gh} {o:Oper} {ops rs:List Oper} {t k e:TypeId} {ak ae:Bool} {kt vt:Ty}
theorem op_guard (hg:o.guard=none) (tm:Array Value):Region.wanted o (yielded ops.toArray tm)=true:=by simp [Region.wanted,hg]
theorem dst_lt (hd:dstOK n [o]=true):∀ i,o.dst=some i→i<n:=fun i hi=>by
 unfold dstOK at hd
 simp only [List.all_cons,List.all_nil,Bool.and_true] at hd
 rw [hi] at hd; simpa using hd
def unpackA (ag:Bool) (x:AVal) (l:List AVal):Prop:=match x with
 | .agg l'=>ag=true∧l=l'
 | y=>ag=false∧l=[y]
theorem toEl_vals {η:Nat→Value} {w:World} {A:Nat→Prop} {H:AHeap}:∀ (t:Ty) (l r:List AVal) (x:El t) (vs:List Value),t.dry=true→toEl H t l=some (x,r)→RepVs η w A l vs→∃ v2,vs=t.vals x++v2∧RepVs η w A r v2
 | .int k,l,r,x,vs,_,h,hr=>by
  unfold toEl toInt at h
  split at h
  ·split at h
   ·rename_i e
    subst e
    injection h with h
    injection h with h1 h2
    subst h1 h2
    unfold RepVs at hr
    obtain ⟨u,us,e,h1,h2⟩:=hr
    unfold RepV at h1
    exact ⟨us,by rw [e,h1]; rfl,h2⟩
   ·cases h
  ·cases h
 | .bool,l,r,x,vs,_,h,hr=>by
  unfold toEl toBool at h
  split at h
  ·injection h with h
   injection h with h1 h2
   subst h1 h2
   unfold RepVs at hr
   obtain ⟨u,us,e,h1,h2⟩:=hr
   unfold RepV at h1
   exact ⟨us,by rw [e,h1]; rfl,h2⟩
  ·cases h
 | .unit,l,r,x,vs,_,h,hr=>by
  unfold toEl at h
  injection h with h
  injection h with h1 h2
  subst h2
  exact ⟨vs,rfl,hr⟩
 | .pair a b,l,r,x,vs,hd,h,hr=>by
  simp only [Ty.dry,Bool.and_eq_true] at hd
  unfold toEl at h
  split at h
  ·rename_i x1 r1 e1
   split at h
   ·rename_i x2 r2 e2
    injection h with h
    injection h with h1 h2
    subst h1 h2
    obtain ⟨v2,e3,hr2⟩:=toEl_vals a l r1 x1 vs hd.1 e1 hr
    obtain ⟨v3,e4,hr3⟩:=toEl_vals b r1 r2 x2 v2 hd.2 e2 hr2
    exact ⟨v3,by rw [e3,e4]; simp [Ty.vals],hr3⟩
   ·cases h
  ·cases h
 | .sl _,_,_,_,_,h,_,_=>by simp [Ty.dry] at h
theorem unpack_pv {η:Nat→Value} {w:World} {A:Nat→Prop} {H:AHeap} {ag:Bool} {t:Ty} (hd:t.dry=true) (hs:ag=true∨t.size=1) {x:AVal} {l:List AVal} (hu:unpackA ag x l) {y:El t} (he:toEl H t l=some (y,[])) {v:Value} (hr:RepV η w A x v):v=pv ag (t.vals y):=by
 unfold unpackA at hu
 split at hu
 ·rename_i l'
  obtain ⟨rfl,rfl⟩:=hu
  unfold RepV at hr
  obtain ⟨vs,rfl,hl⟩:=hr
  obtain ⟨v2,e1,h2⟩:=toEl_vals t _ _ y _ hd he hl
  unfold RepVs at h2
  subst h2
  rw [List.append_nil] at e1
  unfold pv
  rw [if_pos rfl,← e1]
 ·obtain ⟨rfl,rfl⟩:=hu
  obtain ⟨v2,e1,h2⟩:=toEl_vals t _ _ y _ hd he (RepVs.cons hr RepVs.nil)
  unfold RepVs at h2
  subst h2
  rw [List.append_nil] at e1
  unfold pv
  rw [if_neg (by simp),← e1]; rfl
end
attribute [go_sem] setF renF okD unpackA packA List.zip_cons_cons List.zip_nil_left List.zip_nil_right idsF
end Go.Proofs.Ytenchhmcjmjlbaa
