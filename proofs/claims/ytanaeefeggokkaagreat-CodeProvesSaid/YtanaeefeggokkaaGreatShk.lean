import Derived.Test.YtanaeefeggokkaaGreatTbk
namespace Go.Proofs.YtanaeefeggokkaaGreat
open Go.RowKit
set_option linter.constructorNameAsVariable false
section
variable {ro:Option Nat} {n:Nat} {Q:Exit→ASt→Prop} {s:ASt} {σ:Nat→AVal} {H:l3} {g:Gh} {ops l:List Oper}
theorem zS (k:Nat) (l':List (Nat×AVal)) (h':List (Nat×ABlk)) (h2:AO Tryz.prog ro n ops (l.drop k) Q ⟨fr l',b6 h',g⟩) (hd:J7 n (l.take k)=true:=by decide)
    (h:a6S Tryz.prog j9 ops (l.take k) ⟨σ,H,g⟩ (fits l' h' g):=by first|((simp only [go_sem])<;>(with_reducible and_intros)<;>first|assumption|rfl|omega)|((simp only [go_sem, *])<;>(with_reducible and_intros)<;>first|assumption|rfl|omega|(unfold maxLen; omega))):AO Tryz.prog ro n ops l Q ⟨σ,H,g⟩ :=
  AO.segF m7 k hd l' h' h h2
theorem zA (l':List (Nat×AVal)) (h':List (Nat×ABlk)) (h2:Q .normal ⟨fr l',b6 h',g⟩) (hd:J7 n l=true:=by decide)
    (h:a6S Tryz.prog j9 ops l ⟨σ,H,g⟩ (fits l' h' g):=by first|((simp only [go_sem])<;>(with_reducible and_intros)<;>first|assumption|rfl|omega)|((simp only [go_sem, *])<;>(with_reducible and_intros)<;>first|assumption|rfl|omega|(unfold maxLen; omega))):AO Tryz.prog ro n ops l Q ⟨σ,H,g⟩ :=
  AO.allF m7 hd l' h' h h2
theorem zB {e:Code} (l':List (Nat×AVal)) (h':List (Nat×ABlk)) (h2:AW Tryz.prog ro n e Q ⟨fr l',b6 h',g⟩) (hd:J7 n l=true:=by decide)
    (h:a6S Tryz.prog j9 ops l ⟨σ,H,g⟩ (fits l' h' g):=by first|((simp only [go_sem])<;>(with_reducible and_intros)<;>first|assumption|rfl|omega)|((simp only [go_sem, *])<;>(with_reducible and_intros)<;>first|assumption|rfl|omega|(unfold maxLen; omega))):AO Tryz.prog ro n ops l (a3i (AW Tryz.prog ro n e Q) Q) ⟨σ,H,g⟩ :=
  AO.allF m7 hd l' h' h h2
theorem zT (l':List (Nat×AVal)) (h':List (Nat×ABlk)) (g:Gh) (h2:AO Tryz.prog ro n ops l Q ⟨fr l',b6 h',g⟩)
    (h:fits l' h' g s:=by first|((simp only [go_sem])<;>(with_reducible and_intros)<;>first|assumption|rfl|omega)|((simp only [go_sem, *])<;>(with_reducible and_intros)<;>first|assumption|rfl|omega|(unfold maxLen; omega))):AO Tryz.prog ro n ops l Q s:=AO.weaken (Wk.to h) h2
theorem zV {c:Code} (l':List (Nat×AVal)) (h':List (Nat×ABlk)) (g:Gh) (h2:AW Tryz.prog ro n c Q ⟨fr l',b6 h',g⟩)
    (h:fits l' h' g s:=by first|((simp only [go_sem])<;>(with_reducible and_intros)<;>first|assumption|rfl|omega)|((simp only [go_sem, *])<;>(with_reducible and_intros)<;>first|assumption|rfl|omega|(unfold maxLen; omega))):AW Tryz.prog ro n c Q s:=AW.weaken (Wk.to h) h2
theorem zL (D N:List Nat) (rn:List (Nat×Nat)) {l:List (Nat×AVal)} {h:List (Nat×ABlk)} (ok:E3 (g6 rn) D N h=true:=by rfl)
    (hl:leF s D N (g6 rn) l:=by first|((simp only [go_sem])<;>(with_reducible and_intros)<;>first|assumption|rfl|omega)|((simp only [go_sem, *])<;>(with_reducible and_intros)<;>first|assumption|rfl|omega|(unfold maxLen; omega))) (hh:LeH s.H D N (g6 rn) h:=by first|((simp only [go_sem])<;>(with_reducible and_intros)<;>first|assumption|rfl|omega)|((simp only [go_sem, *])<;>(with_reducible and_intros)<;>first|assumption|rfl|omega|(unfold maxLen; omega))):Wk n s ⟨fr l,b6 h,s.g⟩:=Wk.le D N rn ok hl hh
theorem zR (D N:List Nat) (rn:List (Nat×Nat)) {res:List ResultVar} {hout:List (Nat×ABlk)} {r:AVal} (hg:s.g=gt:=by rfl) (ok:E3 (g6 rn) D N hout=true:=by rfl)
    (h:a44 j9 s res fun xs=>LeV s.H D N (g6 rn) (one xs) r∧LeH s.H D N (g6 rn) hout:=by first|((simp only [go_sem])<;>(with_reducible and_intros)<;>first|assumption|rfl|omega)|((simp only [go_sem, *])<;>(with_reducible and_intros)<;>first|assumption|rfl|omega|(unfold maxLen; omega))):s.g=gt∧∃ (D N:List Nat) (rn:List (Nat×Nat)),E3 (g6 rn) D N hout=true∧a44 j9 s res fun xs=>LeV s.H D N (g6 rn) (one xs) r∧LeH s.H D N (g6 rn) hout :=
  ⟨hg,D,N,rn,ok,h⟩
theorem zC {o:Oper} {c:Call} {f:Operand} {fid:FuncId} {p cp lx:List AVal} {r:AVal} {hin hout:List (Nat×ABlk)} (D:List Nat) (rn:List (Nat×Nat)) (hcon:HC Tryz.prog fid hin lx hout r) (l':List (Nat×AVal)) (h':List (Nat×ABlk))
    (h2:AO Tryz.prog ro n ops l Q ⟨fr l',b6 h',g⟩) (hd:J7 n [o]=true:=by decide) (ho:o.op=.call c:=by exact rfl) (hc:c.callee=.value f:=by exact rfl) (hf:(ASt.mk σ H g).ev f=.fn (.func fid) p cp:=by exact rfl)
    (hg:∀ K,I8 Tryz.prog j9 (ASt.mk σ H g) o K→R6 Tryz.prog j9 ops (ASt.mk σ H g) o K:=by exact fun _ h=>h)
    (hok:a0R (o.dst.getD 0) D rn hin hout r (p++c.args.toList.map (ASt.mk σ H g).ev++cp)=true:=by rfl)
    (hle:LeL H D [] (g6 rn) (p++c.args.toList.map (ASt.mk σ H g).ev++cp) lx:=by first|((simp only [go_sem])<;>(with_reducible and_intros)<;>first|assumption|rfl|omega)|((simp only [go_sem, *])<;>(with_reducible and_intros)<;>first|assumption|rfl|omega|(unfold maxLen; omega))) (hlh:LeH H D [] (g6 rn) hin:=by first|((simp only [go_sem])<;>(with_reducible and_intros)<;>first|assumption|rfl|omega)|((simp only [go_sem, *])<;>(with_reducible and_intros)<;>first|assumption|rfl|omega|(unfold maxLen; omega)))
    (hK:fits l' h' g ((ASt.mk σ H g).app o.dst { v:=r.ren (E7 (o.dst.getD 0) rn hin),kill:=U4 rn hout hin++a0E (o.dst.getD 0) hin hout,hp:=D9 (E7 (o.dst.getD 0) rn hin) hout++(if (r.dry&&a09 hout)=true then [] else rest H D) }):=by first|((simp only [go_sem])<;>(with_reducible and_intros)<;>first|assumption|rfl|omega)|((simp only [go_sem, *])<;>(with_reducible and_intros)<;>first|assumption|rfl|omega|(unfold maxLen; omega))) :
    AO Tryz.prog ro n ops (o::l) Q ⟨σ,H,g⟩:=AO.call m7 hd ho hc hf hg D rn hcon hok hle hlh l' h' hK h2
theorem zG {o:Oper} {c:Call} {f:Operand} {fid:FuncId} {p cp lx:List AVal} {r:AVal} {hin hout:List (Nat×ABlk)} (D:List Nat) (rn:List (Nat×Nat)) (hcon:HC Tryz.prog fid hin lx hout r) (l':List (Nat×AVal)) (h':List (Nat×ABlk))
    (h2:AO Tryz.prog ro n ops l Q ⟨fr l',b6 h',g⟩) (hd:J7 n [o]=true:=by decide) (ho:o.op=.call c:=by exact rfl) (hc:c.callee=.value f:=by exact rfl) (hf:(ASt.mk σ H g).ev f=.fn (.func fid) p cp:=by exact rfl)
    (hg:∀ K,I8 Tryz.prog j9 (ASt.mk σ H g) o K→R6 Tryz.prog j9 ops (ASt.mk σ H g) o K:=by exact fun _ h=>⟨fun _=>h,fun hn=>absurd rfl hn⟩)
    (hok:a0R (o.dst.getD 0) D rn hin hout r (p++c.args.toList.map (ASt.mk σ H g).ev++cp)=true:=by rfl)
    (hle:LeL H D [] (g6 rn) (p++c.args.toList.map (ASt.mk σ H g).ev++cp) lx:=by first|((simp only [go_sem])<;>(with_reducible and_intros)<;>first|assumption|rfl|omega)|((simp only [go_sem, *])<;>(with_reducible and_intros)<;>first|assumption|rfl|omega|(unfold maxLen; omega))) (hlh:LeH H D [] (g6 rn) hin:=by first|((simp only [go_sem])<;>(with_reducible and_intros)<;>first|assumption|rfl|omega)|((simp only [go_sem, *])<;>(with_reducible and_intros)<;>first|assumption|rfl|omega|(unfold maxLen; omega)))
    (hK:fits l' h' g ((ASt.mk σ H g).app o.dst { v:=r.ren (E7 (o.dst.getD 0) rn hin),kill:=U4 rn hout hin++a0E (o.dst.getD 0) hin hout,hp:=D9 (E7 (o.dst.getD 0) rn hin) hout++(if (r.dry&&a09 hout)=true then [] else rest H D) }):=by first|((simp only [go_sem])<;>(with_reducible and_intros)<;>first|assumption|rfl|omega)|((simp only [go_sem, *])<;>(with_reducible and_intros)<;>first|assumption|rfl|omega|(unfold maxLen; omega))) :
    AO Tryz.prog ro n ops (o::l) Q ⟨σ,H,g⟩:=AO.call m7 hd ho hc hf hg D rn hcon hok hle hlh l' h' hK h2
theorem zN {a b:Prop} (h:b) (ha:a:=by first|assumption|rfl|omega|trivial|(unfold maxLen; omega)):a∧b:=⟨ha,h⟩
theorem zI {α:Type} {b:Bool} {x y r:α} (h:(if b=true then x else y)=r):(b=true∧x=r)∨(b=false∧y=r):=by
  cases b
  · exact .inr ⟨rfl,h⟩
  · exact .inl ⟨rfl,h⟩
theorem zQ {α:Type} {b:Bool} {x y r:α} {c:Operand} {X Y:Code} (h:(if b=true then x else y)=r) (ht:b=true→x=r→AW Tryz.prog ro n X Q s) (hf:b=false→y=r→AW Tryz.prog ro n Y Q s)
    (hc:s.ev c=.bool b:=by rfl):AW Tryz.prog ro n (.cond c X Y) Q s:=by
  cases b
  · exact AW.cond hc (fun e=>by cases e) fun _=>hf rfl h
  · exact AW.cond hc (fun _=>ht rfl h) fun e=>by cases e
theorem zH {f:FuncId} {fn:Func} {c:Code} {hin hout:List (Nat×ABlk)} {l:List AVal} {r:AVal} (hf:Tryz.prog.funcs[f]?=some fn) (res:List ResultVar) (nt:Nat) (h:AW Tryz.prog none nt c (b8E j9 res hout r) ⟨fr (a1W 0 l),b6 hin,gt⟩)
    (hb:fn.body=some c:=by exact rfl) (hname:(fn.name=="runtime.NumGoroutine")=false:=by kernel_rfl) (hres:fn.results=res.toArray:=by exact rfl) (hnt:fn.ntmps=nt:=by exact rfl) (hfew:nt≤1000:=by decide) (hl:l.length≤nt:=by simp) :
    HC Tryz.prog f hin l hout r:=HC.of_body m7 hf hb hname hres hnt hfew hl h
theorem zo {id:Nat} {y:Code} (h:AO Tryz.prog ro n l l (a3i (AW Tryz.prog ro n y Q) Q) s):AW Tryz.prog ro n (.seq (.region id l.toArray false) y) Q s:=AW.seq (AW.ops h)
theorem zk {e:Code} (h:AW Tryz.prog ro n e Q s):AW Tryz.prog ro n .skip (a3i (AW Tryz.prog ro n e Q) Q) s:=AW.skip h
theorem zr {K:ASt→Prop} (h:Q .ret s):AW Tryz.prog ro n .ret (a3i K Q) s:=AW.ret (b9 h)
theorem zm {id:Nat} (h:Q .normal s):AW Tryz.prog ro n .skip (a5w id Q) s:=AW.skip (l8 h)
end
abbrev AVal.ii (x : Int) : AVal:=.int .i64 x
attribute [go_sem] AVal.ii
theorem zj {α : Type} {a b : α} (h : some a=some b) : a=b:=Option.some.inj h
theorem zw {α β : Type} {o : Option α} {f : α→Option β} {b : β} (h : o.bind f=some b) : ∃ a,o=some a ∧ f a=some b:=Option.bind_eq_some_iff.1 h
theorem y1 {α : Type} {n : Nat} {a : α} {l : List α} : (a::l).drop (n+1)=l.drop n:=rfl
theorem y2 {α : Type} {l : List α} : l.drop 0=l:=rfl
theorem y3 {α : Type} {n : Nat} {a : α} {l : List α} : (a::l).take (n+1)=a::l.take n:=rfl
theorem y4 {α : Type} {l : List α} : l.take 0=[]:=rfl
end Go.Proofs.YtanaeefeggokkaaGreat
