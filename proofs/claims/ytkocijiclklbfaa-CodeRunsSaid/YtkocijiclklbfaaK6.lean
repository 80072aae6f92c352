import Derived.Test.YtkocijiclklbfaaK5
namespace Go.Proofs.Ytkocijiclklbfaa
open Go.RowKit
set_option linter.unusedVariables false
set_option linter.unusedSimpArgs false
def hasL (u:Us) (W:El T60) (t:Nat):Bool:=decide (intAt T60 W (t*8)<((u.getD t []).length:Int))
theorem hasLine_eq {p:Cd} {u:Us} (hu:u.length≤2) (s:List Int) (D:El T55) (v:C3) (W:El T60) (K:El T61) (bg:Int) {t:Nat} (ht:t<u.length):code_run_hasLine ((p,u),s,D,v,W,K,bg) (t:Int)=some (hasL u W t):=by
  have ht2:t<2:=by omega
  unfold code_run_hasLine
  dsimp only
  rw [isBelow_eq,Option.bind_some,if_pos (rB_iff.2 (by omega)),Int.toNat_natCast,ck_pos (by omega),ck_pos (by omega),ck_pos (kW_all t ht2).2.2.1,ck_pos (by omega),ck_pos (by omega)]
  rfl
theorem hasLine_no {p:Cd} {u:Us} (s:List Int) (D:El T55) (v:C3) (W:El T60) (K:El T61) (bg:Int) {x:Int} (hx:rB x (u.length:Int)=false):code_run_hasLine ((p,u),s,D,v,W,K,bg) x=some false:=by
  unfold code_run_hasLine
  dsimp only
  rw [isBelow_eq,Option.bind_some,hx,if_neg (by simp)]
theorem rHasLine_eq {p:Cd} {u:Us} {W:El T60} {K:El T61} {bg:Int} {v:C3} {hs:List Hd} {hist:ZH} {mk:List Int} (I:Inv p u W K bg v hs hist mk) {t:Nat} (ht:t<u.length) (m:List Int) (n a b c:Int):linealref08_Play_HasLine_2 (t:Int) p u m n a b c hs hist mk=some (hasL u W t):=by
  have r:=I.rh t ht
  have hl:=I.hl
  unfold linealref08_Play_HasLine_2 hasL
  rw [Int.toNat_natCast,ck_pos (by omega),ck_pos (by omega)]
  cases hin:(hs.getD t (0,0,false,0,0,0,0,0)).2.2.1 with
  | true=>rw [if_pos rfl,decide_eq_true (r.op hin).r1]
  | false=>rw [if_neg (by simp),ck_pos (by omega),ck_pos (by omega),ck_pos (by omega),ck_pos (by omega),r.no hin]
theorem step_both {p:Cd} {u:Us} (hp:vldC p=true) (hu:vldU p u=true) {W:El T60} {K:El T61} {bg:Int} {v:C3} {hs:List Hd} {hist:ZH} {mk:List Int} (I:Inv p u W K bg v hs hist mk) {t:Nat} (ht:t<u.length) (hL:hasL u W t=true)
    (s:List Int) (hs12:s.length<12) (D:El T55) :
    ∃ D' W' K' bg' v' hs' hist' mk',code_run_step ((p,u),s,D,v,W,K,bg) (t:Int)=some (D',v'.1,v'.2.1,v'.2.2,W',K',bg')∧linealref08_Play_Step_2 (t:Int) p u [] (s.length:Int) v.1 v.2.1 v.2.2 hs hist mk=some (hs',v'.1,v'.2.1,v'.2.2,hist',mk')∧Inv p u W' K' bg' v' hs' hist' mk':=by
  have hul:=vldU_len hu
  have ht2:t<2:=by omega
  have r:=I.rh t ht
  have hl:=I.hl
  have h6:=inv_len hu I
  have hL:=of_decide_eq_true hL
  have h3:=(hul.2.2 t).1
  have hbg:=I.bg
  have hml:=I.ml
  obtain ⟨k0,k1,k2,k3,k4,k5⟩:=kW_all t ht2
  cases hin:(hs.getD t (0,0,false,0,0,0,0,0)).2.2.1 with
  | true =>
    obtain ⟨D',W',K',v',hs',hist',a,b,c⟩:=k1_inv hp hu I ht hin s hs12 D W K bg
    refine ⟨D',W',K',bg,v',hs',hist',mk,?_,?_,c⟩
    · unfold code_run_step
      dsimp only
      rw [Int.toNat_natCast,List.take_length,ck_pos (by omega),ck_pos (by omega),ck_pos (by omega),ck_pos k1,r.bo,hin,if_neg (by simp)]
      exact a
    · unfold linealref08_Play_Step_2
      rw [Int.toNat_natCast,ck_pos (by omega),ck_pos (by omega),ck_pos (by rw [inK_i64]; omega),hin,if_neg (by simp)]
      exact b
  | false =>
    have B:=begin_inv hp hu I ht hin hL (n:=(s.length:Int)) (by omega)
    have r0:=r.r0
    have no:=r.no hin
    have eg:(hs.set t ((hs.getD t (0,0,false,0,0,0,0,0)).1+1,0,true,(hist.length:Int),0,1,0,0)).getD t (0,0,false,0,0,0,0,0)=((hs.getD t (0,0,false,0,0,0,0,0)).1+1,0,true,(hist.length:Int),0,1,0,0):=get_set (by omega)
    obtain ⟨D',W',K',v',hs',hist',a,b,c⟩:=k1_inv hp hu B.2 ht (by rw [eg]) s hs12 D W K bg
    refine ⟨D',W',K',bg+1,v',hs',hist',mk++[-1],?_,?_,c⟩
    · unfold code_run_step
      dsimp only
      rw [Int.toNat_natCast,List.take_length,ck_pos (by omega),ck_pos (by omega),ck_pos (by omega),ck_pos k1,r.bo,hin,if_pos (show (!false)=true from rfl),ck_pos (by omega),ck_pos (by omega),ck_pos k2,ck_pos r0,ck_pos hL,ck_pos (by rw [inK_i64]; omega),ck_pos (by rw [inK_i64]; omega),ck_pos (by omega),ck_pos (by have:=B.1; omega)]
      first
        | rw [ck_pos (pW_all t ht2),ck_pos (by rw [inK_i64]; omega)]
        | rw [ck_pos k2,ck_pos (pW_all t ht2),ck_pos (by rw [inK_i64]; omega)]
      exact a
    · unfold linealref08_Play_Step_2
      rw [Int.toNat_natCast,ck_pos (by omega),ck_pos (by omega),ck_pos (by rw [inK_i64]; omega),hin,if_pos (show (!false)=true from rfl),eg]
      simp only [Int.add_sub_cancel]
      rw [no] at b ⊢
      rw [ck_pos (by rw [inK_i64]; omega),ck_pos (by omega),ck_pos (by omega),ck_pos (by rw [inK_i64]; omega),ck_pos r0,ck_pos hL,ck_pos (by rw [inK_i64]; omega),ck_pos (by rw [inK_i64]; omega),ck_pos (by omega),ck_pos (by omega)]
      exact b
abbrev PS:Type:=(List Int)×(El T55)×Int×Int×Int×(El T60)×(El T61)×Int
abbrev RS:Type:=(List Hd)×Int×Int×Int×Int×ZH×(List Int)
theorem play_both {p:Cd} {u:Us} (hp:vldC p=true) (hu:vldU p u=true) (sc:List Int) (h12:sc.length≤12):∀ (d k:Nat),sc.length - k=d→k≤sc.length→∀ (D:El T55) (W:El T60) (K:El T61) (bg:Int) (v:C3) (hs:List Hd) (hist:ZH) (mk:List Int),Inv p u W K bg v hs hist mk →
    (whileO (code_program_play_b1 (p,u) sc) (sc.take k,D,v.1,v.2.1,v.2.2,W,K,bg,(k:Int))=some (.inl ())∧whileO (linealref08_played_b1 p u sc []) (hs,(k:Int),v.1,v.2.1,v.2.2,hist,mk,(k:Int))=some (.inl ())) ∨
    ∃ D' W' K' bg' v' hs' hist' mk',Inv p u W' K' bg' v' hs' hist' mk'∧whileO (code_program_play_b1 (p,u) sc) (sc.take k,D,v.1,v.2.1,v.2.2,W,K,bg,(k:Int))=some (.inr (sc,D',v'.1,v'.2.1,v'.2.2,W',K',bg'))∧whileO (linealref08_played_b1 p u sc []) (hs,(k:Int),v.1,v.2.1,v.2.2,hist,mk,(k:Int))=some (.inr (hs',(sc.length:Int),v'.1,v'.2.1,v'.2.2,hist',mk'))
  | 0,k,hd,hk,D,W,K,bg,v,hs,hist,mk,I=>by
    have e:k=sc.length:=by omega
    subst e
    refine .inr ⟨D,W,K,bg,v,hs,hist,mk,I,?_,?_⟩
    · refine whileO_end ?_
      unfold code_program_play_b1
      rw [if_neg (by simp),List.take_length]
    · refine whileO_end ?_
      unfold linealref08_played_b1
      rw [if_neg (by simp)]
  | d+1,k,hd,hk,D,W,K,bg,v,hs,hist,mk,I=>by
    have hul:=vldU_len hu
    have hlt:k<sc.length:=by omega
    have hg:=List.getElem?_eq_getElem hlt
    generalize sc[k]=x at hg
    have hlk:(sc.take k).length=k:=by rw [List.length_take]; omega
    cases hx:rB x (u.length:Int) with
    | false =>
      refine .inl ⟨whileO_end ?_,whileO_end ?_⟩
      · unfold code_program_play_b1
        dsimp only
        rw [Int.toNat_natCast,getD_of hg,if_pos (decide_eq_true (by omega)),ck_pos (by omega),ck_pos (by omega)]
        have:=hasLine_no (p:=p) (sc.take k) D v W K bg hx
        rw [show (((p,u),sc.take k,D,(v.1,v.2.1,v.2.2),W,K,bg):Rn)=((p,u),sc.take k,D,v,W,K,bg) from rfl,this,Option.bind_some,if_pos (show (!false)=true from rfl)]
      · unfold linealref08_played_b1
        dsimp only
        rw [Int.toNat_natCast,getD_of hg,if_pos (decide_eq_true (by omega)),ck_pos (by omega),ck_pos (by omega),ck_pos (by rw [inK_i64]; omega),within_rB,hx,Option.bind_some,if_pos (show (!false)=true from rfl)]
    | true =>
      obtain ⟨x0,x1⟩:=rB_iff.1 hx
      obtain ⟨t,rfl⟩:∃ t:Nat,x=(t:Int):=⟨x.toNat,by omega⟩
      have ht:t<u.length:=by omega
      cases hL:hasL u W t with
      | false =>
        refine .inl ⟨whileO_end ?_,whileO_end ?_⟩
        · unfold code_program_play_b1
          dsimp only
          rw [Int.toNat_natCast,getD_of hg,if_pos (decide_eq_true (by omega)),ck_pos (by omega),ck_pos (by omega)]
          have:=hasLine_eq (p:=p) hul.2.1 (sc.take k) D v W K bg ht
          rw [show (((p,u),sc.take k,D,(v.1,v.2.1,v.2.2),W,K,bg):Rn)=((p,u),sc.take k,D,v,W,K,bg) from rfl,this,Option.bind_some,hL,if_pos (show (!false)=true from rfl)]
        · unfold linealref08_played_b1
          dsimp only
          rw [Int.toNat_natCast,getD_of hg,if_pos (decide_eq_true (by omega)),ck_pos (by omega),ck_pos (by omega),ck_pos (by rw [inK_i64]; omega),within_rB,hx,Option.bind_some,if_neg (by simp),ck_pos (by omega),ck_pos (by omega),rHasLine_eq I ht,Option.bind_some,hL,if_pos (show (!false)=true from rfl)]
      | true =>
        obtain ⟨D',W',K',bg',v',hs',hist',mk',a,b,c⟩:=step_both hp hu I ht hL (sc.take k) (by omega) D
        rw [hlk] at b
        have nx1:code_program_play_b1 (p,u) sc (sc.take k,D,v.1,v.2.1,v.2.2,W,K,bg,(k:Int))=some (.next (sc.take (k+1),D',v'.1,v'.2.1,v'.2.2,W',K',bg',((k+1:Nat):Int))):=by
          unfold code_program_play_b1
          dsimp only
          rw [Int.toNat_natCast,getD_of hg,if_pos (decide_eq_true (by omega)),ck_pos (by omega),ck_pos (by omega)]
          have:=hasLine_eq (p:=p) hul.2.1 (sc.take k) D v W K bg ht
          rw [show (((p,u),sc.take k,D,(v.1,v.2.1,v.2.2),W,K,bg):Rn)=((p,u),sc.take k,D,v,W,K,bg) from rfl,this,Option.bind_some,hL,if_neg (by simp),a,Option.bind_some,ck_pos (by rw [inK_i64]; omega),List.take_length,take_one hg]
          rfl
        have nx2:linealref08_played_b1 p u sc [] (hs,(k:Int),v.1,v.2.1,v.2.2,hist,mk,(k:Int))=some (.next (hs',((k+1:Nat):Int),v'.1,v'.2.1,v'.2.2,hist',mk',((k+1:Nat):Int))):=by
          unfold linealref08_played_b1
          dsimp only
          rw [Int.toNat_natCast,getD_of hg,if_pos (decide_eq_true (by omega)),ck_pos (by omega),ck_pos (by omega),ck_pos (by rw [inK_i64]; omega),within_rB,hx,Option.bind_some,if_neg (by simp),ck_pos (by omega),ck_pos (by omega),rHasLine_eq I ht,Option.bind_some,hL,if_neg (by simp),ck_pos (by omega),ck_pos (by omega),b,Option.bind_some,ck_pos (by rw [inK_i64]; omega)]
          rfl
        rcases play_both hp hu sc h12 d (k+1) (by omega) (by omega) D' W' K' bg' v' hs' hist' mk' c with ⟨h1,h2⟩|⟨D2,W2,K2,bg2,v2,hs2,hist2,mk2,hI,h1,h2⟩
        · exact .inl ⟨whileO_on nx1 h1,whileO_on nx2 h2⟩
        · exact .inr ⟨D2,W2,K2,bg2,v2,hs2,hist2,mk2,hI,whileO_on nx1 h1,whileO_on nx2 h2⟩
theorem dflt_inv {p:Cd} {u:Us} (hu:vldU p u=true):Inv p u (Ty.dflt T60) (Ty.dflt T61) 0 (0,0,0) (List.replicate u.length (0,0,false,0,0,0,0,0)) [] []:=by
  have hul:=vldU_len hu
  have z:∀ t,t<2→intAt T60 (Ty.dflt T60) (t*8)=0∧boolAt T60 (Ty.dflt T60) (t*8+1)=false:=fun t ht=>by
    have:t=0∨t=1:=by omega
    rcases this with rfl|rfl<;>exact ⟨rfl,rfl⟩
  have zc:∀ t,t<2→cnt (Ty.dflt T60) t=0:=fun t ht=>by unfold cnt; rw [(z t ht).1,(z t ht).2]; rfl
  refine ⟨by simp,fun t ht=>?_,rfl,?_,fun k hk=>by simp at hk,⟨⟨by decide,by decide⟩,⟨by decide,by decide⟩,by decide,by decide⟩,rfl,fun k hk=>by simp at hk⟩
  · have ht2:t<2:=by omega
    have e:(List.replicate u.length ((0,0,false,0,0,0,0,0):Hd)).getD t (0,0,false,0,0,0,0,0)=(0,0,false,0,0,0,0,0):=by
      rw [List.getD_eq_getElem?_getD,List.getElem?_replicate]; split<;>rfl
    rw [e]
    exact ⟨(z t ht2).2,by rw [(z t ht2).1]; omega,by rw [(z t ht2).1]; omega,fun _=>by rw [(z t ht2).1],fun c=>by cases c⟩
  · rw [zc 0 (by omega),zc 1 (by omega)]
    split<;>rfl
theorem hist_take {p:Cd} {u:Us} (hu:vldU p u=true) {W:El T60} {K:El T61} {bg:Int} {v:C3} {hs:List Hd} {hist:ZH} {mk:List Int} (I:Inv p u W K bg v hs hist mk):(listT (Ty.pair (Ty.int IntKind.i64) (Ty.pair (Ty.int IntKind.i64) (Ty.pair (Ty.int IntKind.i64) (Ty.pair (Ty.int IntKind.i64) (Ty.pair (Ty.int IntKind.i64) (Ty.int IntKind.i64)))))) 6 K).take bg.toNat=hist:=by
  have h6:=inv_len hu I
  have hb:bg.toNat=hist.length:=by have:=I.bg; omega
  rw [list_subC,hb]
  refine List.ext_getElem? fun k=>?_
  by_cases hk:k<hist.length
  · rw [List.getElem?_take,if_pos hk,List.getElem?_map,List.getElem?_range (by omega),Option.map_some,I.cc k hk,List.getElem?_eq_getElem hk,getD_of (List.getElem?_eq_getElem hk)]
  · rw [List.getElem?_eq_none (by rw [List.length_take]; omega),List.getElem?_eq_none (by omega)]
end Go.Proofs.Ytkocijiclklbfaa
