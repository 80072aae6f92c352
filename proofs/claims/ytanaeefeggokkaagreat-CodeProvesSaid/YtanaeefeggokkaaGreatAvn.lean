import Derived.Test.YtanaeefeggokkaaGreatAvl
namespace Go.Proofs.YtanaeefeggokkaaGreat
open Go.RowKit
set_option linter.constructorNameAsVariable false
set_option linter.unusedSimpArgs false
set_option linter.unusedVariables false
def b5G (M:List Nat) (h:List (Nat×ABlk)):Bool:=h.all fun q=>decide (q.1<1000000000)&&!M.contains q.1
def b8 (M:List Nat):List Nat:=M.map (·+1000000000)
theorem a5P (c:Nat):g6 [] c=c:=rfl
theorem b37 {M:List Nat} {b:Nat}:(b8 M).contains (b+1000000000)=M.contains b:=by
 unfold b8;rw [Bool.eq_iff_iff,List.contains_iff_mem,List.contains_iff_mem,List.mem_map]
 constructor
 ·rintro ⟨a,h1,h2⟩
  have:a=b:=by omega
  subst this; exact h1
 ·intro h; exact ⟨b,h,rfl⟩
theorem b08 {M:List Nat} {b:Nat} (h:b<1000000000):(b8 M).contains b=false:=by
 unfold b8;rw [Bool.eq_false_iff];intro hc;rw [List.contains_iff_mem,List.mem_map] at hc;obtain ⟨a,_,h2⟩:=hc;omega
theorem b01 {M:List Nat} {h:List (Nat×ABlk)} (hn:b5G M h=true) {c:Nat} {B:ABlk} (hc:b6 h c=some B):c<1000000000∧M.contains c=false:=by
 unfold b5G at hn;have:=List.all_eq_true.1 hn _ (y6 hc);simpa using this
theorem Wk.boxes {n:Nat} {s:ASt} (M:List Nat) {l:List (Nat×AVal)} {h:List (Nat×ABlk)} (ok:E3 (g6 []) [] [] h=true) (hM:b5G M h=true) (hl:leF s (b8 M) [] (g6 []) l) (hH:LeH s.H (b8 M) [] (g6 []) h):Wk n s ⟨fr l,b6 h,s.g⟩:=by
 intro ds A0 L0 w0 η a w hr;have hn0:=a1J ok;have hnh:=a1K ok;have hn:NamesIn (g6 []) (b8 M) [] h:=⟨fun c B hc _ _=>by rw [a5P]; exact b08 (b01 hM hc).1,hn0.inj⟩;have hlive:∀ g,p9 (M6 η [] (g6 [])) (b6 h) g→p9 η s.H g:=fun g hg=>by
  obtain ⟨c,B,B0,_,_,k3,k4,_,k6⟩:=a2n hH hg;exact ⟨_,B0,k3,k4,k6⟩
 obtain ⟨r1,r2,_⟩:=a8i (A1:=A0) hr.hp hn hH (fun g hg=>(hr.hp.av g hg).1) (fun g hg=>.inl hg) (fun g b e t xs hg hb _ hbl=>(hr.hp.av g hg).2 ⟨b,_,hb,rfl,hbl⟩) (fun g hg hl=>(hr.hp.av g hg).2 (hlive g hl))
  (.inr ⟨fun g b ty cs hg hb _ hbl=>(hr.hp.av g hg).2 ⟨b,_,hb,rfl,hbl⟩,fun c B hc _=>by rw [a5P,b37]; exact (b01 hM hc).2⟩)
 have hη:∀ c,M6 η [] (g6 []) c=η c:=fun c=>by unfold M6; simp [a5P]
 refine ⟨M6 η [] (g6 []),hr.size,hr.few,fun b hb hsm=>?_,fun i=>?_,r1,hr.fr,fun g hg=>hr.old g (hlive g hg),a1N hr.gh hr.hp rfl (Turns.refl _ _) fun g hg=>.inl (hlive g hg)⟩
 ·obtain ⟨B,hB⟩:=Option.isSome_iff_exists.1 hsm;rcases LeH.get hH hB with ⟨hc,_⟩|⟨hc,B0,hB0,_⟩
  ·simp at hc
  ·rw [hη];exact hr.hd b hb (by rw [a5P] at hB0; rw [hB0]; rfl)
 ·exact r2 _ _ _ (b2r hl i) (hr.tmp i)
end Go.Proofs.YtanaeefeggokkaaGreat
