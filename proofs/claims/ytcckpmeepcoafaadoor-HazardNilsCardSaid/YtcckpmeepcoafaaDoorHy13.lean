import Derived.Test.YtcckpmeepcoafaaDoorHy12
namespace Go.Proofs.YtcckpmeepcoafaaDoor
open Go.RowKit
set_option linter.unusedVariables false
set_option linter.unusedSimpArgs false
set_option linter.constructorNameAsVariable false
set_option maxRecDepth 10000
section
variable {N:El T63} {S:El T65} {L:El T69} {A:Mo} (t s k:Int) (d:Int×Int×Int×Int)
theorem nil_take:hazard_Yard_Take_2 t=some ():=rfl
theorem nil_put:hazard_Yard_PutBy_2 t k=some ():=rfl
theorem nil_sweep:hazard_Yard_Sweep_2 t=some ():=rfl
theorem nil_use:hazard_Yard_Use_2 t s=some ():=rfl
theorem nil_do:hazard_Yard_Do_2 d=some ():=rfl
theorem nil_state:hazard_Yard_State_2 k=some ():=rfl
theorem nil_list:hazard_Yard_List_2 t=some ():=rfl
theorem nil_slot:hazard_Yard_Slot_2 t s=some ():=rfl
theorem nil_point:hazard_Yard_Point_2 t s k=some ():=rfl
theorem nil_clear:hazard_Yard_Clear_2 t s=some ():=rfl
theorem nil_by:hazard_Yard_By_2=some ():=rfl
theorem nil_free:hazard_Yard_Free_2=some ():=rfl
theorem nil_held:hazard_Yard_Held_2=some ():=rfl
theorem nil_copy:hazard_Yard_Copy_2=some ():=rfl
theorem nil_same:hazard_Same_2=some ():=rfl
theorem nil_same4 (y:Int×Int×El T63×El T65×El T69):hazard_Same_4 y=some ():=rfl
theorem zero_take:hazard_Yard_Take t (0,0,N,S,L)=some (0,60,N):=rfl
theorem zero_put:hazard_Yard_PutBy t k (0,0,N,S,L)=some (0,60,N,L):=rfl
theorem zero_sweep:hazard_Yard_Sweep t (0,0,N,S,L)=some (0,60,N,L):=rfl
theorem zero_use:hazard_Yard_Use t s (0,0,N,S,L)=some (0,60):=rfl
theorem zero_do:hazard_Yard_Do d (0,0,N,S,L)=some (0,60,N,S,L):=rfl
theorem zero_state:hazard_Yard_State k (0,0,N,S,L)=some (0,60):=rfl
theorem zero_list:hazard_Yard_List t (0,0,N,S,L)=some ([],60):=rfl
theorem zero_slot:hazard_Yard_Slot t s (0,0,N,S,L)=some (0,60):=rfl
theorem zero_point:hazard_Yard_Point t s k (0,0,N,S,L)=some (60,S):=rfl
theorem zero_clear:hazard_Yard_Clear t s (0,0,N,S,L)=some (60,S):=rfl
theorem zero_by:hazard_Yard_By (0,0,N,S,L)=some 0:=rfl
theorem zero_free:hazard_Yard_Free (0,0,N,S,L)=some 0:=rfl
theorem zero_held:hazard_Yard_Held (0,0,N,S,L)=some []:=rfl
theorem zero_copy:hazard_Yard_Copy (0,0,N,S,L)=some (Sum.inl ()):=rfl
theorem zero_same3:hazard_Same_3 (0,0,N,S,L)=some true:=rfl
theorem two_same3:hazard_Same_3 (2,2,N,S,L)=some false:=rfl
theorem zero_same (N':El T63) (S':El T65) (L':El T69):hazard_Same (0,0,N,S,L) (2,2,N',S',L')=some false:=rfl
theorem same_zero (N':El T63) (S':El T65) (L':El T69):hazard_Same (2,2,N,S,L) (0,0,N',S',L')=some false:=rfl
theorem HazardNils_eq:lineallaw06_HazardNils d=some true:=by
  obtain ⟨S0,e0,_⟩:=New_eq (a:=2) (b:=2) (by omega) (by omega)
  unfold lineallaw06_HazardNils
  rw [e0,Option.bind_some]
  dsimp only
  generalize Ty.dflt T63=D63
  generalize Ty.dflt T65=D65
  generalize Ty.dflt T69=D69
  rw [nil_take,Option.bind_some,nil_put,Option.bind_some,nil_sweep,Option.bind_some,nil_use,Option.bind_some,nil_do,Option.bind_some,nil_state,Option.bind_some,nil_list,Option.bind_some,nil_slot,Option.bind_some,nil_point,Option.bind_some,nil_clear,Option.bind_some,nil_by,Option.bind_some,nil_free,Option.bind_some,nil_held,Option.bind_some,nil_copy,Option.bind_some,nil_same4,Option.bind_some,two_same3,Option.bind_some,if_neg Bool.false_ne_true,nil_same,Option.bind_some,ck_pos (by rw [inK_i64]; omega)]
  rw [zero_take,Option.bind_some]
  dsimp only
  rw [zero_put,Option.bind_some]
  dsimp only
  rw [zero_sweep,Option.bind_some]
  dsimp only
  rw [zero_use,Option.bind_some,zero_do,Option.bind_some]
  dsimp only
  rw [if_neg (by simp),if_neg (by simp),if_neg (by simp),if_neg (by simp),if_neg (by simp),if_neg (by simp),if_neg (by simp),if_neg (by simp),if_neg (by simp),if_neg (by simp)]
  rw [zero_state,Option.bind_some,zero_list,Option.bind_some,zero_slot,Option.bind_some]
  dsimp only
  rw [if_neg (by simp),if_neg (by simp),if_neg (by simp),if_neg (by simp),if_neg (by simp),if_neg (by simp)]
  rw [zero_point,Option.bind_some]
  dsimp only
  rw [if_neg (by simp),zero_clear,Option.bind_some]
  dsimp only
  rw [if_neg (by simp),zero_by,Option.bind_some,if_neg (by simp),zero_free,Option.bind_some,if_neg (by simp),zero_held,Option.bind_some,if_neg (by simp),zero_copy,Option.bind_some]
  dsimp only
  rw [zero_same,Option.bind_some,if_neg Bool.false_ne_true,same_zero,Option.bind_some,if_neg Bool.false_ne_true,zero_same3,Option.bind_some,if_neg (by simp),ck_pos (by rw [inK_i64]; omega)]
  unfold lineallaw06_HazardNils_k1
  rw [lineallaw06_Sane_run]
  rfl
end
end Go.Proofs.YtcckpmeepcoafaaDoor
