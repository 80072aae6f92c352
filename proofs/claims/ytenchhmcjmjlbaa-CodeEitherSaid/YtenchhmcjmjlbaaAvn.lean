import Derived.Test.YtenchhmcjmjlbaaAvm
namespace Go.Proofs.Ytenchhmcjmjlbaa
open Go.RowKit
set_option linter.constructorNameAsVariable false
set_option linter.unusedSimpArgs false
set_option linter.unusedVariables false
def b4k (M:List Nat) (h:List (Nat×ABlk)):Bool:=h.all fun q=>decide (q.1<1000000000)&&!M.contains q.1
def o9 (M:List Nat):List Nat:=M.map (·+1000000000)
theorem a4Z (c:Nat):g8 [] c=c:=rfl
theorem b2N {M:List Nat} {b:Nat}:(o9 M).contains (b+1000000000)=M.contains b:=by
 unfold o9
 rw [Bool.eq_iff_iff,List.contains_iff_mem,List.contains_iff_mem,List.mem_map]
 constructor
 ·rintro ⟨a,h1,h2⟩
  have:a=b:=by omega
  subst this; exact h1
 ·intro h; exact ⟨b,h,rfl⟩
theorem a94 {M:List Nat} {b:Nat} (h:b<1000000000):(o9 M).contains b=false:=by
 unfold o9
 rw [Bool.eq_false_iff]
 intro hc
 rw [List.contains_iff_mem,List.mem_map] at hc
 obtain ⟨a,_,h2⟩:=hc
 omega
theorem a9Y {M:List Nat} {h:List (Nat×ABlk)} (hn:b4k M h=true) {c:Nat} {B:ABlk} (hc:b6 h c=some B):c<1000000000∧M.contains c=false:=by
 unfold b4k at hn
 have:=List.all_eq_true.1 hn _ (y5 hc)
 simpa using this
theorem Wk.boxes {n:Nat} {s:ASt} (M:List Nat) {l:List (Nat×AVal)} {h:List (Nat×ABlk)} (ok:D6 (g8 []) [] [] h=true) (hM:b4k M h=true) (hl:leF s (o9 M) [] (g8 []) l) (hH:LeH s.H (o9 M) [] (g8 []) h):Wk n s ⟨fr l,b6 h,s.g⟩:=by
 intro ds A0 L0 w0 η a w hr
 have hn0:=a05 ok
 have hnh:=a06 ok
 have hn:NamesIn (g8 []) (o9 M) [] h:=⟨fun c B hc _ _=>by rw [a4Z]; exact a94 (a9Y hM hc).1,hn0.inj⟩
 have hlive:∀ g,q8 (L6 η [] (g8 [])) (b6 h) g→q8 η s.H g:=fun g hg=>by
  obtain ⟨c,B,B0,_,_,k3,k4,_,k6⟩:=a1C hH hg
  exact ⟨_,B0,k3,k4,k6⟩
 obtain ⟨r1,r2,_⟩:=a7s (A1:=A0) hr.hp hn hH (fun g hg=>(hr.hp.av g hg).1) (fun g hg=>.inl hg) (fun g b e t xs hg hb _ hbl=>(hr.hp.av g hg).2 ⟨b,_,hb,rfl,hbl⟩) (fun g hg hl=>(hr.hp.av g hg).2 (hlive g hl))
  (.inr ⟨fun g b ty cs hg hb _ hbl=>(hr.hp.av g hg).2 ⟨b,_,hb,rfl,hbl⟩,fun c B hc _=>by rw [a4Z,b2N]; exact (a9Y hM hc).2⟩)
 have hη:∀ c,L6 η [] (g8 []) c=η c:=fun c=>by unfold L6; simp [a4Z]
 refine ⟨L6 η [] (g8 []),hr.size,hr.few,fun b hb hsm=>?_,fun i=>?_,r1,hr.fr,fun g hg=>hr.old g (hlive g hg),a09 hr.gh hr.hp rfl (Turns.refl _ _) fun g hg=>.inl (hlive g hg)⟩
 ·obtain ⟨B,hB⟩:=Option.isSome_iff_exists.1 hsm
  rcases LeH.get hH hB with ⟨hc,_⟩|⟨hc,B0,hB0,_⟩
  ·simp at hc
  ·rw [hη]
   exact hr.hd b hb (by rw [a4Z] at hB0; rw [hB0]; rfl)
 ·exact r2 _ _ _ (b1g hl i) (hr.tmp i)
end Go.Proofs.Ytenchhmcjmjlbaa
