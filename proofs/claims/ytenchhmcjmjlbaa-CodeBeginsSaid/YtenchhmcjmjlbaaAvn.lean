import Derived.Test.YtenchhmcjmjlbaaAvm
namespace Go.Proofs.Ytenchhmcjmjlbaa
open Go.RowKit
set_option linter.constructorNameAsVariable false
set_option linter.unusedSimpArgs false
set_option linter.unusedVariables false
def noBox (M:List Nat) (h:List (Nat×ABlk)):Bool:=h.all fun q=>decide (q.1<1000000000)&&!M.contains q.1
def marks (M:List Nat):List Nat:=M.map (·+1000000000)
theorem look_nil (c:Nat):look [] c=c:=rfl
theorem marks_mem {M:List Nat} {b:Nat}:(marks M).contains (b+1000000000)=M.contains b:=by
 unfold marks
 rw [Bool.eq_iff_iff,List.contains_iff_mem,List.contains_iff_mem,List.mem_map]
 constructor
 ·rintro ⟨a,h1,h2⟩
  have:a=b:=by omega
  subst this; exact h1
 ·intro h; exact ⟨b,h,rfl⟩
theorem marks_small {M:List Nat} {b:Nat} (h:b<1000000000):(marks M).contains b=false:=by
 unfold marks
 rw [Bool.eq_false_iff]
 intro hc
 rw [List.contains_iff_mem,List.mem_map] at hc
 obtain ⟨a,_,h2⟩:=hc
 omega
theorem noBox_at {M:List Nat} {h:List (Nat×ABlk)} (hn:noBox M h=true) {c:Nat} {B:ABlk} (hc:hpGet h c=some B):c<1000000000∧M.contains c=false:=by
 unfold noBox at hn
 have:=List.all_eq_true.1 hn _ (hpGet_mem hc)
 simpa using this
theorem Wk.boxes {n:Nat} {s:ASt} (M:List Nat) {l:List (Nat×AVal)} {h:List (Nat×ABlk)} (ok:namesOK (look []) [] [] h=true) (hM:noBox M h=true) (hl:leF s (marks M) [] (look []) l) (hH:LeH s.H (marks M) [] (look []) h):Wk n s ⟨fr l,hpGet h,s.g⟩:=by
 intro ds A0 L0 w0 η a w hr
 have hn0:=namesIn_of ok
 have hnh:=namesHd_of ok
 have hn:NamesIn (look []) (marks M) [] h:=⟨fun c B hc _ _=>by rw [look_nil]; exact marks_small (noBox_at hM hc).1,hn0.inj⟩
 have hlive:∀ g,Live (newη η [] (look [])) (hpGet h) g→Live η s.H g:=fun g hg=>by
  obtain ⟨c,B,B0,_,_,k3,k4,_,k6⟩:=le_live hH hg
  exact ⟨_,B0,k3,k4,k6⟩
 obtain ⟨r1,r2,_⟩:=le_rel (A1:=A0) hr.hp hn hH (fun g hg=>(hr.hp.av g hg).1) (fun g hg=>.inl hg) (fun g b e t xs hg hb _ hbl=>(hr.hp.av g hg).2 ⟨b,_,hb,rfl,hbl⟩) (fun g hg hl=>(hr.hp.av g hg).2 (hlive g hl))
  (.inr ⟨fun g b ty cs hg hb _ hbl=>(hr.hp.av g hg).2 ⟨b,_,hb,rfl,hbl⟩,fun c B hc _=>by rw [look_nil,marks_mem]; exact (noBox_at hM hc).2⟩)
 have hη:∀ c,newη η [] (look []) c=η c:=fun c=>by unfold newη; simp [look_nil]
 refine ⟨newη η [] (look []),hr.size,hr.few,fun b hb hsm=>?_,fun i=>?_,r1,hr.fr,fun g hg=>hr.old g (hlive g hg),knows_step hr.gh hr.hp rfl (Turns.refl _ _) fun g hg=>.inl (hlive g hg)⟩
 ·obtain ⟨B,hB⟩:=Option.isSome_iff_exists.1 hsm
  rcases LeH.get hH hB with ⟨hc,_⟩|⟨hc,B0,hB0,_⟩
  ·simp at hc
  ·rw [hη]
   exact hr.hd b hb (by rw [look_nil] at hB0; rw [hB0]; rfl)
 ·exact r2 _ _ _ (leF_fr hl i) (hr.tmp i)
end Go.Proofs.Ytenchhmcjmjlbaa
