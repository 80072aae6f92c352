/-
  SpecRuns: for every specification, any two states and any word: the law answers true, and its arguments read afterwards as they read before. No condition.
-/
import Derived.Test.YtiiifamggopdoaaRows
import Derived.Test.YtiiifamggopdoaaL03
import Derived.Test.YtiiifamggopdoaaOpn
namespace Go.Proofs.Ytiiifamggopdoaa
open Go.ChangeShapes Go.WideShapes Go.ChangeAt Go.RowKit Go.Deep Go.Joins

set_option linter.constructorNameAsVariable false

theorem Try.own : ownKnob Try.prog.godebug = none := by kernel_rfl

set_option maxHeartbeats 1000000 in
set_option maxRecDepth 100000 in
theorem specRuns_lifted (os : Os) (started : os.Started) (H : Type) (enc : TypeId × Value → H) :
    ReturnsInHanded {} Try.checked os 3 .any (Rows.specRunsSpec.pre6 enc Try.prog Try.f3 Rows.specRunsRow.domain false) (Rows.specRunsSpec.post enc Try.prog Try.f3 false true false false) := by
  refine returnsInHanded_of_change_sized (C := Try.checked) Try.own started (by kernel_rfl) Try.func3
    (ChangeSpec.witness6 (enc := enc) (C := Try.checked) false ⟨#[], #[.agg #[.int .i64 0, .int .i64 0, .slice none 0 0, .slice none 0 0], .int .i64 0, .int .i64 0, .slice none 0 0], []⟩ 8 (by kernel_rfl) (by kernel_rfl) (by kernel_rfl) (by kernel_rfl)) ?_
  intro W base args ds gs before hval0 hW _ hsz0 _
  have hsz : (DataW.weightsEach Try.prog (Try.f3.params.toList ++ Rows.specRunsSpec.plain.varTypes Try.prog) (ds ++ gs)).all (· ≤ reachBytes) = true := hsz0
  clear hsz0
  have hval : ∀ (j : Nat) t v, Try.f3.params[j]? = some t → args[j]? = some v → Value.okWide Try.prog W .any base t v := hval0
  have hW' := hW
  obtain ⟨p, q, hA0, hV, rfl, _, _⟩ := hW
  have hA : DataW.TrodAll enc Try.prog W 0 (fun _ => true) true Try.f3.params.toList args.toList ds p := hA0
  rw [Try.params3] at hA hval hsz
  obtain ⟨v0, v1, v2, v3, d0, d1, d2, d3, p0, p1, p2, p3, rfl, rfl, rfl, h0, h1, h2, h3⟩ := trodAll_four hA
  obtain ⟨rfl, rfl⟩ := trodVars_none hV
  have h0k := h0
  have h3k := h3
  have hvt : DataSpec.varTypes Try.prog Rows.specRunsSpec.plain = [] := by kernel_rfl
  rw [hvt, List.append_nil, List.append_nil] at hsz
  have hwt : ∀ n ∈ DataW.weightsEach Try.prog [24, 3, 3, 25] [d0, d1, d2, d3], n ≤ reachBytes := fun n hn => by
    simpa using List.all_eq_true.1 hsz n hn
  obtain ⟨x, rfl, rfl, rfl, wx⟩ := open_int Try.underlying3 (hval 1 3 v1 rfl rfl) h1
  obtain ⟨y, rfl, rfl, rfl, wy⟩ := open_int Try.underlying3 (hval 2 3 v2 rfl rfl) h2
  obtain ⟨S, hS⟩ := open_specN (hval 0 24 v0 rfl rfl) (fun n hn => hwt n (by simp [DataW.weightsEach, hn])) h0
  obtain ⟨a3, len, cap, rfl⟩ := okWide_slice Try.underlying25 (hval 3 25 v3 rfl rfl)
  obtain ⟨fuel, hf⟩ := h3
  obtain ⟨ws, hws⟩ := open_intsN (v := .slice a3 len cap) (y := (d3, p3)) (fun n hn => hwt n (by simp [DataW.weightsEach, hn])) (by simpa [Value.cells] using hf)
  have hlt : ∀ z ∈ ((p0 ++ []) ++ []) ++ p3, z.block < W.heap.size := fun z hz => hW'.lt z (by simpa using hz)
  refine (SpecRuns_any v0 S x y (.slice a3 len cap) ws W hS hws).mono fun e W' ⟨he, hb⟩ => ?_
  subst he
  have r0 := Below.trod Try.laidOut (by kernel_rfl) (of_decide_eq_true (by kernel_rfl)) h0k hb (fun z hz => hlt z (by simp [hz]))
  have r3 := Below.trod Try.laidOut (by kernel_rfl) (of_decide_eq_true (by kernel_rfl)) h3k hb (fun z hz => hlt z (by simp [hz]))
  refine ⟨_, rfl, _, _, _, [], p0 ++ ([] ++ ([] ++ p3)), [], hW', ?_, ?_, rfl, hb.frame _, fun h => by cases h⟩
  · exact trodAll_mk1 (shut_bool Try.underlying4 true)
  · exact trodAll_mk4 r0 (shut_int Try.underlying3 wx) (shut_int Try.underlying3 wy) r3

theorem specRuns_holds : Rows.SpecRunsSaid :=
  OpenClaim.holds_of_wide 3 Try.f3 rfl rfl rfl rfl rfl rfl rfl ⟨rfl, rfl, rfl, rfl, rfl⟩ rfl rfl rfl rfl rfl (by kernel_rfl) Try.func3 (by kernel_rfl)
    (of_decide_eq_true (by kernel_rfl)) (by unfold Func.isWrapper; first | (rw [if_pos (by decide +kernel)]; kernel_rfl) | (rw [if_neg (by decide +kernel)]; exact ⟨rfl, rfl⟩))
    (fun os started H enc _ => specRuns_lifted os started H enc)

end Go.Proofs.Ytiiifamggopdoaa
