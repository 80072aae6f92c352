/-
  The abstract machine, 16: states written out, and what a walk asks. No program is named here.
-/
import Derived.Test.YtcijihofjcfpoabAv15
namespace Go.Proofs.Ytcijihofjcfpoab
open Go.RowKit

set_option linter.constructorNameAsVariable false

def cleanF (K : List Nat) : List (Nat × AVal) → List (Nat × AVal)
  | [] => []
  | (i, x) :: r => (i, x.clean K) :: cleanF K r
def cleanH (K : List Nat) : List (Nat × ABlk) → List (Nat × ABlk)
  | [] => []
  | (b, B) :: r => if K.contains b then cleanH K r else (b, B.clean K) :: cleanH K r

theorem fr_cleanF (K : List Nat) : ∀ (l : List (Nat × AVal)) (i : Nat), fr (cleanF K l) i = (fr l i).clean K
  | [], i => by simp [cleanF, fr, AVal.clean]
  | (j, x) :: r, i => by
    unfold cleanF fr
    split
    · rfl
    · exact fr_cleanF K r i

theorem hp_cleanH (K : List Nat) : ∀ (h : List (Nat × ABlk)) (b : Nat), hpGet (cleanH K h) b = if K.contains b then none else (hpGet h b).map (ABlk.clean K)
  | [], b => by simp [cleanH, hpGet]
  | (c, B) :: r, b => by
    unfold cleanH
    by_cases hc : K.contains c = true
    · rw [if_pos hc, hp_cleanH K r b]
      by_cases hb : K.contains b = true
      · rw [if_pos hb, if_pos hb]
      · rw [if_neg hb, if_neg hb]
        congr 1
        conv => rhs; unfold hpGet
        rw [if_neg (fun e => hb (by rw [e]; exact hc))]
    · rw [if_neg hc]
      unfold hpGet
      by_cases hb : b = c
      · subst hb
        rw [if_pos rfl, if_pos rfl, if_neg hc]; rfl
      · rw [if_neg hb, if_neg hb]
        exact hp_cleanH K r b

theorem hp_append : ∀ (h k : List (Nat × ABlk)) (b : Nat), hpGet (h ++ k) b = match hpGet h b with | some B => some B | none => hpGet k b
  | [], k, b => rfl
  | (c, B) :: r, k, b => by
    show (if b = c then some B else hpGet (r ++ k) b) = match (if b = c then some B else hpGet r b) with | some B => some B | none => hpGet k b
    split
    · rfl
    · exact hp_append r k b

theorem app_some (l : List (Nat × AVal)) (h : List (Nat × ABlk)) (g : Gh) (d : Nat) (e : Eff) : (ASt.mk (fr l) (hpGet h) g).app (some d) e = ⟨fr ((d, e.v) :: cleanF e.kill l), hpGet (e.hp ++ cleanH e.kill h), g⟩ := by
  have h1 : ((ASt.mk (fr l) (hpGet h) g).app (some d) e).σ = fr ((d, e.v) :: cleanF e.kill l) := by
    funext i
    rw [app_σ]
    conv => rhs; unfold fr
    by_cases hi : i = d
    · subst hi; simp
    · rw [if_neg (by simpa using Ne.symm hi), if_neg hi, fr_cleanF]
  have h2 : ((ASt.mk (fr l) (hpGet h) g).app (some d) e).H = hpGet (e.hp ++ cleanH e.kill h) := by
    funext b
    rw [app_H, hp_append, hp_cleanH]
    rfl
  calc (ASt.mk (fr l) (hpGet h) g).app (some d) e = ⟨((ASt.mk (fr l) (hpGet h) g).app (some d) e).σ, ((ASt.mk (fr l) (hpGet h) g).app (some d) e).H, g⟩ := rfl
    _ = _ := by rw [h1, h2]

theorem app_none (l : List (Nat × AVal)) (h : List (Nat × ABlk)) (g : Gh) (e : Eff) : (ASt.mk (fr l) (hpGet h) g).app none e = ⟨fr (cleanF e.kill l), hpGet (e.hp ++ cleanH e.kill h), g⟩ := by
  have h1 : ((ASt.mk (fr l) (hpGet h) g).app none e).σ = fr (cleanF e.kill l) := by
    funext i
    rw [app_σ, if_neg (by simp), fr_cleanF]
  have h2 : ((ASt.mk (fr l) (hpGet h) g).app none e).H = hpGet (e.hp ++ cleanH e.kill h) := by
    funext b
    rw [app_H, hp_append, hp_cleanH]
    rfl
  calc (ASt.mk (fr l) (hpGet h) g).app none e = ⟨((ASt.mk (fr l) (hpGet h) g).app none e).σ, ((ASt.mk (fr l) (hpGet h) g).app none e).H, g⟩ := rfl
    _ = _ := by rw [h1, h2]

theorem cleanF_nil : ∀ (l : List (Nat × AVal)), cleanF [] l = l
  | [] => rfl
  | (i, x) :: r => by unfold cleanF; rw [clean_nil, cleanF_nil r]
theorem cleanH_nil : ∀ (h : List (Nat × ABlk)), cleanH [] h = h
  | [] => rfl
  | (b, B) :: r => by unfold cleanH; rw [bclean_nil, cleanH_nil r]; rfl

theorem clean_un (K : List Nat) : AVal.clean K .un = .un := by simp [AVal.clean]
theorem clean_int (K : List Nat) (k : IntKind) (n : Int) : AVal.clean K (.int k n) = .int k n := clean_noids rfl K
theorem clean_bool (K : List Nat) (b : Bool) : AVal.clean K (.bool b) = .bool b := clean_noids rfl K
theorem clean_sl (K : List Nat) (t : Ty) (xs : List (El t)) : AVal.clean K (.sl t xs) = .sl t xs := clean_noids rfl K
theorem clean_dp (K : List Nat) (t : Ty) (x : El t) (o : Nat) : AVal.clean K (.dp t x o) = .dp t x o := clean_noids rfl K
theorem clean_cv (K : List Nat) (v : Value) : AVal.clean K (.cv v) = .cv v := clean_noids rfl K
theorem clean_own (K : List Nat) (b : Nat) : AVal.clean K (.own b) = if K.contains b then .un else .own b := by
  unfold AVal.clean; congr 1; simp [AVal.has]
theorem clean_bp (K : List Nat) (b o : Nat) : AVal.clean K (.bp b o) = if K.contains b then .un else .bp b o := by
  unfold AVal.clean; congr 1; simp [AVal.has]
theorem clean_ap (K : List Nat) (b z i o : Nat) : AVal.clean K (.ap b z i o) = if K.contains b then .un else .ap b z i o := by
  unfold AVal.clean; congr 1; simp [AVal.has]
theorem clean_agg (K : List Nat) (l : List AVal) : AVal.clean K (.agg l) = if K.any (fun b => AVal.hasL l b) then .un else .agg l := by unfold AVal.clean; rfl
theorem clean_fn (K : List Nat) (f : Fn) (p c : List AVal) : AVal.clean K (.fn f p c) = if K.any (fun b => AVal.hasL p b || AVal.hasL c b) then .un else .fn f p c := by unfold AVal.clean; rfl
theorem clean_tup (K : List Nat) (l : List AVal) : AVal.clean K (.tup l) = if K.any (fun b => AVal.hasL l b) then .un else .tup l := by unfold AVal.clean; rfl
theorem bclean_box (K : List Nat) (ty : TypeId) (cs : List AVal) : ABlk.clean K (.box ty cs) = .box ty (cs.map (AVal.clean K)) := rfl
theorem bclean_arr (K : List Nat) (e : TypeId) (t : Ty) (xs : List (El t)) : ABlk.clean K (.arr e t xs) = .arr e t xs := rfl
theorem bclean_map (K : List Nat) (ak ae : Bool) (kt vt : Ty) (xs : List (El kt × El vt)) : ABlk.clean K (.map ak ae kt vt xs) = .map ak ae kt vt xs := rfl
theorem bclean_imm (K : List Nat) (t : Ty) (xs : List (El t)) : ABlk.clean K (.imm t xs) = .imm t xs := rfl

theorem fr_nil (i : Nat) : fr [] i = .un := rfl
theorem fr_cons (j : Nat) (v : AVal) (r : List (Nat × AVal)) (i : Nat) : fr ((j, v) :: r) i = if i = j then v else fr r i := rfl
theorem hp_nil (b : Nat) : hpGet [] b = none := rfl
theorem hp_cons (c : Nat) (B : ABlk) (r : List (Nat × ABlk)) (b : Nat) : hpGet ((c, B) :: r) b = if b = c then some B else hpGet r b := rfl

section
variable {P : Program} {T : Tab} {ro : Option Nat} {n : Nat} {Q : Exit → ASt → Prop} {s : ASt} {σ : Nat → AVal} {H : AHeap} {g : Gh}

theorem aops_mono {ops : List Oper} {K K' : ASt → Prop} (hk : ∀ s, K s → K' s) : ∀ (l : List Oper) (s : ASt), aops P T ops l s K → aops P T ops l s K'
  | [], s, h => hk s h
  | o :: r, s, h => by
    unfold aops at *
    exact gstep_mono (fun e he => aops_mono hk r _ he) h

theorem adops_cut {ops l : List Oper} {X F : List (Nat × List Nat)} {K : ASt → Prop} {i : Nat} (k : Nat) (h : ∀ K' : ASt → Prop, (∀ s, adops P T ops X F (i + k) (l.drop k) s K → K' s) → adops P T ops X F i (l.take k) s K') : adops P T ops X F i l s K := by
  have : ∀ (l : List Oper) (k i : Nat) (s : ASt) , adops P T ops X F i (l.take k) s (fun s => adops P T ops X F (i + k) (l.drop k) s K) → adops P T ops X F i l s K := by
    intro l
    induction l with
    | nil => intro k i s h; simpa [adops] using h
    | cons o l ih =>
      intro k i s h
      cases k with
      | zero => simpa [adops] using h
      | succ k =>
        rw [List.take_succ_cons, List.drop_succ_cons] at h
        unfold adops at h ⊢
        refine ⟨h.1, gstep_mono (fun e he => ⟨he.1, ih k (i + 1) _ ?_⟩) h.2⟩
        have := he.2
        rwa [show i + 1 + k = i + (k + 1) by omega]
  exact this l k i s (h _ fun _ h => h)

/-- The first k operations lead to a state that is written; from there the others go on. -/
theorem AO.segF (hT : TabOK P T) (k : Nat) {ops l : List Oper} (hd : dstOK n (l.take k) = true) (l' : List (Nat × AVal)) (h' : List (Nat × ABlk)) (h : aops P T ops (l.take k) ⟨σ, H, g⟩ (fits l' h' g)) (h2 : AO P ro n ops (l.drop k) Q ⟨fr l', hpGet h', g⟩) : AO P ro n ops l Q ⟨σ, H, g⟩ :=
  AO.seg hT k hd _ (aops_mono (fun _ hs => Wk.to hs) _ _ h) h2

/-- All of them. -/
theorem AO.allF (hT : TabOK P T) {ops l : List Oper} (hd : dstOK n l = true) (l' : List (Nat × AVal)) (h' : List (Nat × ABlk)) (h : aops P T ops l ⟨σ, H, g⟩ (fits l' h' g)) (h2 : Q .normal ⟨fr l', hpGet h', g⟩) : AO P ro n ops l Q ⟨σ, H, g⟩ := by
  refine AO.segF hT l.length (by rwa [List.take_length]) l' h' (by rwa [List.take_length]) ?_
  rw [List.drop_length]
  exact AO.nil h2

/-- A region that draws its order, to a state that is written. -/
theorem AW.drawF (hT : TabOK P T) (hm : P.follows .mixedOrders = true) {id : Nat} {ops : List Oper} (X F : List (Nat × List Nat)) (hd : dstOK n ops = true) (hB : lexE ops X F = true) (l' : List (Nat × AVal)) (h' : List (Nat × ABlk)) (hq : ∀ s', AW P ro n .skip Q s' → Q .normal s') (h : adops P T ops X F 0 ops ⟨σ, H, g⟩ (fits l' h' g)) (h2 : AW P ro n .skip Q ⟨fr l', hpGet h', g⟩) : AW P ro n (.region id ops.toArray true) Q ⟨σ, H, g⟩ := by
  refine AW.draw hT hm X F hd hB ?_
  have : ∀ (l : List Oper) (i : Nat) (s : ASt) {K K' : ASt → Prop}, (∀ s, K s → K' s) → adops P T ops X F i l s K → adops P T ops X F i l s K' := by
    intro l
    induction l with
    | nil => intro i s K K' hk h; exact hk s h
    | cons o l ih =>
      intro i s K K' hk h
      unfold adops at h ⊢
      exact ⟨h.1, gstep_mono (fun e he => ⟨he.1, ih _ _ hk he.2⟩) h.2⟩
  exact this ops 0 _ (fun s'' hs => hq _ (AW.weaken (Wk.to hs) h2)) h

end
/-! ### What a walk reckons by itself -/

theorem getD_lit0 {α : Type} (x : α) (d : α) : (some x).getD d = x := rfl
theorem headD_cons {α : Type} (x : α) (l : List α) (d : α) : (x :: l).headD d = x := rfl
theorem bind_some' {α β : Type} (x : α) (f : α → Option β) : (some x).bind f = f x := rfl
theorem fresh_eq (d c : Nat) : fresh d c = 10000 + 1000 * d + (c - 2000) := by unfold fresh; rfl
theorem notBool_undef : notBool undef = true := rfl
theorem hasKey_nil (b : Nat) : hasKey [] b = false := rfl
theorem hasKey_cons (c : Nat) (B : ABlk) (r : List (Nat × ABlk)) (b : Nat) : hasKey ((c, B) :: r) b = (c == b || hasKey r b) := rfl

attribute [go_sem] aops adops gstep stepOp stLoad stStore stBin stEq stUn stConv stFieldAddr stField
attribute [go_sem] stIndexAddr stSlice fillA stBuild toEls stBuildSlice stMakeSlice castL_rfl castE_rfl stAppend stLen stExtract
attribute [go_sem] stNil stBuiltin ASt.ev ofConst cellsOf cellsV pack TDesc.agg toInt toBool toSl
theorem splice_eq (l : List AVal) (off : Nat) (us : List AVal) : splice l off us = l.take off ++ us ++ l.drop (off + us.length) := rfl
attribute [go_sem low] splice_eq
attribute [go_sem] isNilV toEl AVal.ids AVal.idsL rest listOf AVal.cell Ty.size Ty.dflt enumF fr_nil
attribute [go_sem] fr_cons hp_nil hp_cons app_some app_none cleanF_nil cleanH_nil cleanF cleanH clean_un clean_int clean_bool
attribute [go_sem] clean_sl clean_dp clean_cv clean_own clean_bp clean_ap clean_agg clean_tup clean_fn List.isEmpty_nil bclean_box bclean_arr bclean_imm bclean_map castM_rfl AVal.has
attribute [go_sem] AVal.hasL fits fitsF fitsH athen ablock aresK one noUn noUnL subl goodBlk lookL seesB effB blindB bl bpB keysH idsH isFnCall zcells
attribute [go_sem] LeV LeL LeB LeH leF look hasKey_nil hasKey_cons AVal.ren AVal.renL ABlk.ren renH
attribute [go_sem] AVal.dry AVal.dryL ABlk.dry dryH Ty.dry fresh_eq back lostH newH notBool_undef List.length_cons List.length_nil
attribute [go_sem] List.all_cons List.all_nil List.any_cons List.any_nil List.contains_nil List.contains_cons List.append_nil List.nil_append List.cons_append List.take_succ_cons List.take_zero List.take_nil
attribute [go_sem] List.drop_succ_cons List.drop_zero List.drop_nil List.map_cons List.map_nil List.getElem?_cons_zero List.getElem?_cons_succ List.getElem?_nil headD_cons getD_lit0 bind_some' Option.map_some
attribute [go_sem] Option.map_none Option.bind_none List.range_succ List.range_zero Bool.and_self Bool.and_true Bool.true_and Bool.and_false Bool.false_and Bool.or_false Bool.or_true Bool.false_or
attribute [go_sem] Bool.true_or Bool.not_true Bool.not_false true_and and_true false_and and_false true_or or_true false_or or_false not_true_eq_false
attribute [go_sem] not_false_eq_true implies_true forall_const Bool.false_eq_true ne_eq eq_self beq_self_eq_true Option.isSome_some Option.isSome_none if_true if_false Op.operands
attribute [go_sem] Call.operands Array.toList Int.toNat_natCast Int.toNat_zero decide_true decide_false Int.cast_ofNat_Int
attribute [go_sem] Bool.true_eq_false false_implies true_implies reduceDIte reduceIte Int.reduceToNat Int.reduceLE Int.reduceLT
attribute [go_sem] Nat.reduceAdd Nat.reduceSub Nat.reduceEqDiff Nat.reduceLeDiff Nat.reduceLT Nat.reduceMul Nat.reduceBEq

end Go.Proofs.Ytcijihofjcfpoab
