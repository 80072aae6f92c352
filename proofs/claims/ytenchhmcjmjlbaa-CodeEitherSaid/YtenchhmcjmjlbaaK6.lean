import Derived.Test.YtenchhmcjmjlbaaK5
namespace Go.Proofs.Ytenchhmcjmjlbaa
open Go.RowKit
set_option linter.unusedVariables false
set_option linter.unusedSimpArgs false
def hasL (u:Us) (W:El T85) (t:Nat):Bool:=decide (b7 T85 W (t*8)<((u.getD t []).length:Int))
theorem a4x {p:Cd} {u:Us} (hu:u.length≤2) (s:List Int) (D:El T80) (v:C3) (W:El T85) (K:El T86) (bg:Int) {t:Nat} (ht:t<u.length):B6 ((p,u),s,D,v,W,K,bg) (t:Int)=some (hasL u W t):=by
  have ht2:t<2:=by omega
  unfold B6
  dsimp only
  rw [W9,Option.bind_some,if_pos (m5.2 (by omega)),Int.toNat_natCast,b4 (by omega),b4 (by omega),b4 (a1a t ht2).2.2.1,b4 (by omega),b4 (by omega)]
  rfl
theorem b1p {p:Cd} {u:Us} (s:List Int) (D:El T80) (v:C3) (W:El T85) (K:El T86) (bg:Int) {x:Int} (hx:rB x (u.length:Int)=false):B6 ((p,u),s,D,v,W,K,bg) x=some false:=by
  unfold B6
  dsimp only
  rw [W9,Option.bind_some,hx,if_neg (by simp)]
theorem a6j {p:Cd} {u:Us} {W:El T85} {K:El T86} {bg:Int} {v:C3} {hs:List Hd} {hist:ZH} {mk:List Int} (I:Inv p u W K bg v hs hist mk) {t:Nat} (ht:t<u.length) (m:List Int) (n a b c:Int):K4 (t:Int) p u m n a b c hs hist mk=some (hasL u W t):=by
  have r:=I.rh t ht
  have hl:=I.hl
  unfold K4 hasL
  rw [Int.toNat_natCast,b4 (by omega),b4 (by omega)]
  cases hin:(hs.getD t (0,0,false,0,0,0,0,0)).2.2.1 with
  | true=>rw [if_pos rfl,decide_eq_true (r.op hin).r1]
  | false=>rw [if_neg (by simp),b4 (by omega),b4 (by omega),b4 (by omega),b4 (by omega),r.no hin]
structure St where
  hs:List Hd
  v:C3
  hist:ZH
  sc:List Int
  dl:List (Int×Int)
def st0 (u:Us):St:=⟨List.replicate u.length (0,0,false,0,0,0,0,0),(0,0,0),[],[],[]⟩
def a1V (u:Us) (st:St) (t:Nat):Bool:=(st.hs.getD t (0,0,false,0,0,0,0,0)).2.2.1 || decide ((st.hs.getD t (0,0,false,0,0,0,0,0)).1<((u.getD t []).length:Int))
def a4A (u:Us) (hs:List Hd) (hist:ZH) (t:Nat) (n:Int):List Hd×ZH :=
  if (hs.getD t (0,0,false,0,0,0,0,0)).2.2.1=true then (hs,hist)
  else (hs.set t ((hs.getD t (0,0,false,0,0,0,0,0)).1+1,0,true,(hist.length:Int),0,1,0,0),hist++[((t:Int),0,(u.getD t []).getD (hs.getD t (0,0,false,0,0,0,0,0)).1.toNat 0,0,2*n+1,0)])
def M2 (p:Cd) (u:Us) (st:St) (t:Nat):St :=
  let b:=a4A u st.hs st.hist t (st.sc.length:Int)
  let f:=a2r p t b.1 st.v b.2 (st.sc.length:Int)
  ⟨f.1,f.2.1,f.2.2,st.sc++[(t:Int)],st.dl++[((b.1.getD t (0,0,false,0,0,0,0,0)).2.2.2.1,(b.1.getD t (0,0,false,0,0,0,0,0)).2.1)]⟩
def mkS (u:Us) (o9:List Int) (st:St) (t:Nat) (mk:List Int):List Int :=
  let b:=a4A u st.hs st.hist t (st.sc.length:Int)
  mkL o9 (opC b.2 (b.1.getD t (0,0,false,0,0,0,0,0))) (b.1.getD t (0,0,false,0,0,0,0,0)).2.1 (b.1.getD t (0,0,false,0,0,0,0,0)).2.2.2.1 (st.sc.length:Int) (if (st.hs.getD t (0,0,false,0,0,0,0,0)).2.2.1=true then mk else mk++[-1])
/-! ### The program's deeds -/
def b34 (D:El T80) (k:Nat):Int×Int:=(b7 T80 D (k*2),b7 T80 D (k*2+1))
theorem b74:∀ q<24,kAt T80 q=some (some .i64):=by decide +kernel
theorem b7U:∀ k<12,P2 T80 (.pair .i .i) (k*2)=true:=by decide +kernel
theorem b33 (D:El T80) {k j:Nat} (hk:k<12) (hj:j<12) (x:Int×Int):b34 (b2G D k x) j=if j=k then x else b34 D j:=by
  have es:Ty.size (.pair .i .i)=2:=rfl
  unfold b34 b2G
  have hi:∀ q,q<24→b7 T80 (E5 T80 (.pair .i .i) D (k*2) x) q=if k*2≤q∧q<k*2+2 then b7 (.pair .i .i) x (q - k*2) else b7 T80 D q:=fun q hq=>by
    rw [a1b _ D _ (b7U k hk) (b74 q hq),es]
  rw [hi _ (by omega),hi _ (by omega)]
  by_cases c:j=k
  · subst c
    rw [if_pos (by omega),if_pos (by omega),if_pos rfl,Nat.sub_self,Nat.add_sub_cancel_left]
    rfl
  · rw [if_neg (by omega),if_neg (by omega),if_neg c]
structure Rl (p:Cd) (u:Us) (st:St) (D:El T80) (W:El T85) (K:El T86) (bg:Int) (mk:List Int):Prop where
  inv:Inv p u W K bg st.v st.hs st.hist mk
  dr:∀ k,k<st.dl.length→b34 D k=st.dl.getD k (0,0)
  le:st.dl.length=st.sc.length
theorem a6N {p:Cd} {u:Us} {st:St} {D:El T80} {W:El T85} {K:El T86} {bg:Int} {mk:List Int} (R:Rl p u st D W K bg mk) {t:Nat} (ht:t<u.length):hasL u W t=a1V u st t:=by
  have r:=R.inv.rh t ht
  unfold hasL a1V
  cases hin:(st.hs.getD t (0,0,false,0,0,0,0,0)).2.2.1 with
  | true=>rw [decide_eq_true (r.op hin).r1]; rfl
  | false=>rw [r.no hin]; rfl
theorem a5u {p:Cd} {u:Us} (hp:L5 p=true) (hu:I9 p u=true) {st:St} {D:El T80} {W:El T85} {K:El T86} {bg:Int} {mk:List Int} (R:Rl p u st D W K bg mk) {t:Nat} (ht:t<u.length) (hL:a1V u st t=true) (hs12:st.sc.length<12) (o9:List Int) :
    ∃ D' W' K' bg',O0 ((p,u),st.sc,D,st.v,W,K,bg) (t:Int)=some (D',(M2 p u st t).v.1,(M2 p u st t).v.2.1,(M2 p u st t).v.2.2,W',K',bg')∧G3 (t:Int) p u o9 (st.sc.length:Int) st.v.1 st.v.2.1 st.v.2.2 st.hs st.hist mk=some ((M2 p u st t).hs,(M2 p u st t).v.1,(M2 p u st t).v.2.1,(M2 p u st t).v.2.2,(M2 p u st t).hist,mkS u o9 st t mk)∧Rl p u (M2 p u st t) D' W' K' bg' (mkS u o9 st t mk):=by
  have I:=R.inv
  have hul:=O5 hu
  have ht2:t<2:=by omega
  have r:=I.rh t ht
  have hl:=I.hl
  have h6:=a3R hu I
  rw [← a6N R ht] at hL
  have hL:=of_decide_eq_true hL
  have h3:=(hul.2.2 t).1
  have hbg:=I.bg
  have hml:=I.ml
  have hdl:=R.le
  obtain ⟨k0,k1,k2,k3,k4,k5⟩:=a1a t ht2
  have drs:∀ x,∀ k,k<(st.dl++[x]).length→b34 (b2G D st.sc.length x) k=(st.dl++[x]).getD k (0,0):=fun x k hk=>by
    rw [List.length_append,List.length_singleton] at hk
    rw [b33 D hs12 (by omega)]
    by_cases c:k=st.sc.length
    · rw [if_pos c,List.getD_eq_getElem?_getD,List.getElem?_append_right (by omega),show k - st.dl.length=0 by omega]; rfl
    · rw [if_neg c,R.dr k (by omega),List.getD_eq_getElem?_getD,List.getD_eq_getElem?_getD,List.getElem?_append_left (by omega)]
  cases hin:(st.hs.getD t (0,0,false,0,0,0,0,0)).2.2.1 with
  | true =>
    obtain ⟨W',K',a,b,c⟩:=b4u hp hu I ht hin st.sc hs12 D W K bg o9
    have eb:a4A u st.hs st.hist t (st.sc.length:Int)=(st.hs,st.hist):=by unfold a4A; rw [if_pos hin]
    unfold mkS M2
    simp only [eb]
    rw [if_pos hin]
    refine ⟨_,W',K',bg,?_,?_,c,drs _,by simp only [List.length_append,hdl,List.length_singleton]⟩
    · unfold O0
      dsimp only
      rw [Int.toNat_natCast,List.take_length,b4 (by omega),b4 (by omega),b4 (by omega),b4 k1,r.bo,hin,if_neg (by simp)]
      exact a
    · unfold G3
      rw [Int.toNat_natCast,b4 (by omega),b4 (by omega),b4 (by rw [l4]; omega),hin,if_neg (by simp)]
      exact b
  | false =>
    have B:=a8C hp hu I ht hin hL (n:=(st.sc.length:Int)) (by omega)
    have r0:=r.r0
    have no:=r.no hin
    have eg:(st.hs.set t ((st.hs.getD t (0,0,false,0,0,0,0,0)).1+1,0,true,(st.hist.length:Int),0,1,0,0)).getD t (0,0,false,0,0,0,0,0)=((st.hs.getD t (0,0,false,0,0,0,0,0)).1+1,0,true,(st.hist.length:Int),0,1,0,0):=a3X (by omega)
    obtain ⟨W',K',a,b,c⟩:=b4u hp hu B.2 ht (by rw [eg]) st.sc hs12 D W K bg o9
    have eb:a4A u st.hs st.hist t (st.sc.length:Int)=(st.hs.set t ((st.hs.getD t (0,0,false,0,0,0,0,0)).1+1,0,true,(st.hist.length:Int),0,1,0,0),st.hist++[((t:Int),0,(u.getD t []).getD (st.hs.getD t (0,0,false,0,0,0,0,0)).1.toNat 0,0,2*(st.sc.length:Int)+1,0)]):=by unfold a4A; rw [if_neg (by rw [hin]; simp)]
    rw [no] at eb
    rw [no] at a b c
    unfold mkS M2
    simp only [eb]
    rw [if_neg (by rw [hin]; simp)]
    refine ⟨_,W',K',bg+1,?_,?_,c,drs _,by simp only [List.length_append,hdl,List.length_singleton]⟩
    · unfold O0
      dsimp only
      rw [Int.toNat_natCast,List.take_length,b4 (by omega),b4 (by omega),b4 (by omega),b4 k1,r.bo,hin,if_pos (show (!false)=true from rfl),b4 (by omega),b4 (by omega),b4 k2,b4 r0,b4 hL,b4 (by rw [l4]; omega),b4 (by rw [l4]; omega),b4 (by omega),b4 (by have:=B.1; omega)]
      first
        | rw [b4 (b1c t ht2),b4 (by rw [l4]; omega)]
        | rw [b4 k2,b4 (b1c t ht2),b4 (by rw [l4]; omega)]
      exact a
    · unfold G3
      rw [Int.toNat_natCast,b4 (by omega),b4 (by omega),b4 (by rw [l4]; omega),hin,if_pos (show (!false)=true from rfl),eg]
      simp only [Int.add_sub_cancel]
      rw [no] at ⊢
      rw [b4 (by rw [l4]; omega),b4 (by omega),b4 (by omega),b4 (by rw [l4]; omega),b4 r0,b4 hL,b4 (by rw [l4]; omega),b4 (by rw [l4]; omega),b4 (by omega),b4 (by omega)]
      exact b
def goA (p:Cd) (u:Us):St→List Int→Option St
  | st,[]=>some st
  | st,x::r=>if rB x (u.length:Int)=true∧a1V u st x.toNat=true then goA p u (M2 p u st x.toNat) r else none
theorem a2B (p:Cd) (u:Us) (st:St) (t:Nat):(M2 p u st t).sc=st.sc++[(t:Int)]:=rfl
theorem a9a {p:Cd} {u:Us}:∀ {st:St} {l:List Int} {st':St},goA p u st l=some st'→st'.sc=st.sc++l
  | st,[],st',h=>by injection h with h; subst h; simp
  | st,x::r,st',h=>by
    unfold goA at h
    split at h
    · rename_i c
      rw [a9a h,a2B,List.append_assoc]
      have:=m5.1 c.1
      rw [show (x.toNat:Int)=x by omega]; rfl
    · cases h
abbrev PS:Type:=(List Int)×(El T80)×Int×Int×Int×(El T85)×(El T86)×Int
abbrev RS:Type:=(List Hd)×Int×Int×Int×Int×ZH×(List Int)
theorem a8e {p:Cd} {u:Us} (hp:L5 p=true) (hu:I9 p u=true) (sc:List Int) (h12:sc.length≤12) (o9:List Int):∀ (d:Nat) (st:St),sc.length - st.sc.length=d→st.sc.length≤sc.length→st.sc=sc.take st.sc.length→∀ (D:El T80) (W:El T85) (K:El T86) (bg:Int) (mk:List Int),Rl p u st D W K bg mk →
    (goA p u st (sc.drop st.sc.length)=none∧j7 (l8 (p,u) sc) (st.sc,D,st.v.1,st.v.2.1,st.v.2.2,W,K,bg,(st.sc.length:Int))=some (.inl ())∧j7 (m8 p u sc o9) (st.hs,(st.sc.length:Int),st.v.1,st.v.2.1,st.v.2.2,st.hist,mk,(st.sc.length:Int))=some (.inl ())) ∨
    ∃ st' D' W' K' bg' mk',goA p u st (sc.drop st.sc.length)=some st'∧Rl p u st' D' W' K' bg' mk'∧j7 (l8 (p,u) sc) (st.sc,D,st.v.1,st.v.2.1,st.v.2.2,W,K,bg,(st.sc.length:Int))=some (.inr (st'.sc,D',st'.v.1,st'.v.2.1,st'.v.2.2,W',K',bg'))∧j7 (m8 p u sc o9) (st.hs,(st.sc.length:Int),st.v.1,st.v.2.1,st.v.2.2,st.hist,mk,(st.sc.length:Int))=some (.inr (st'.hs,(st'.sc.length:Int),st'.v.1,st'.v.2.1,st'.v.2.2,st'.hist,mk'))
  | 0,st,hd,hk,hsc,D,W,K,bg,mk,R=>by
    have e:st.sc.length=sc.length:=by omega
    have ed:sc.drop st.sc.length=[]:=by rw [e,List.drop_length]
    refine .inr ⟨st,D,W,K,bg,mk,by rw [ed]; rfl,R,?_,?_⟩
    · refine J4 ?_
      unfold l8
      rw [if_neg (by rw [decide_eq_true_eq]; show ¬ (st.sc.length:Int)<(sc.length:Int); omega)]
    · refine J4 ?_
      unfold m8
      rw [if_neg (by rw [decide_eq_true_eq]; show ¬ (st.sc.length:Int)<(sc.length:Int); omega)]
  | d+1,st,hd,hk,hsc,D,W,K,bg,mk,R=>by
    have hul:=O5 hu
    have hlt:st.sc.length<sc.length:=by omega
    have hg:=List.getElem?_eq_getElem hlt
    have ed:=List.drop_eq_getElem_cons hlt
    generalize sc[st.sc.length]=x at hg ed
    rw [ed]
    cases hx:rB x (u.length:Int) with
    | false =>
      refine .inl ⟨by unfold goA; rw [if_neg (by rw [hx]; simp)],J4 ?_,J4 ?_⟩
      · unfold l8
        dsimp only
        rw [Int.toNat_natCast,r8 hg,if_pos (decide_eq_true (by omega)),b4 (by omega),b4 (by omega)]
        have:=b1p (p:=p) st.sc D st.v W K bg hx
        rw [show (((p,u),st.sc,D,(st.v.1,st.v.2.1,st.v.2.2),W,K,bg):Rn)=((p,u),st.sc,D,st.v,W,K,bg) from rfl,this,Option.bind_some,if_pos (show (!false)=true from rfl)]
      · unfold m8
        dsimp only
        rw [Int.toNat_natCast,r8 hg,if_pos (decide_eq_true (by omega)),b4 (by omega),b4 (by omega),b4 (by rw [l4]; omega),X1,hx,Option.bind_some,if_pos (show (!false)=true from rfl)]
    | true =>
      obtain ⟨x0,x1⟩:=m5.1 hx
      obtain ⟨t,rfl⟩:∃ t:Nat,x=(t:Int):=⟨x.toNat,by omega⟩
      have ht:t<u.length:=by omega
      have hE:=a6N R ht
      cases hL:a1V u st t with
      | false =>
        rw [hL] at hE
        refine .inl ⟨by unfold goA; rw [if_neg (by rw [Int.toNat_natCast,hL]; simp)],J4 ?_,J4 ?_⟩
        · unfold l8
          dsimp only
          rw [Int.toNat_natCast,r8 hg,if_pos (decide_eq_true (by omega)),b4 (by omega),b4 (by omega)]
          have:=a4x (p:=p) hul.2.1 st.sc D st.v W K bg ht
          rw [show (((p,u),st.sc,D,(st.v.1,st.v.2.1,st.v.2.2),W,K,bg):Rn)=((p,u),st.sc,D,st.v,W,K,bg) from rfl,this,Option.bind_some,hE,if_pos (show (!false)=true from rfl)]
        · unfold m8
          dsimp only
          rw [Int.toNat_natCast,r8 hg,if_pos (decide_eq_true (by omega)),b4 (by omega),b4 (by omega),b4 (by rw [l4]; omega),X1,hx,Option.bind_some,if_neg (by simp),b4 (by omega),b4 (by omega),a6j R.inv ht,Option.bind_some,hE,if_pos (show (!false)=true from rfl)]
      | true =>
        rw [hL] at hE
        obtain ⟨D',W',K',bg',a,b,c⟩:=a5u hp hu R ht hL (by omega) o9
        have es:(M2 p u st t).sc=sc.take (st.sc.length+1):=by rw [a2B,take_one hg,← hsc]
        have el:(M2 p u st t).sc.length=st.sc.length+1:=by rw [a2B]; simp
        have eg:goA p u st ((t:Int)::sc.drop (st.sc.length+1))=goA p u (M2 p u st t) (sc.drop (M2 p u st t).sc.length):=by
          rw [el]
          show (if rB (t:Int) (u.length:Int)=true∧a1V u st (t:Int).toNat=true then goA p u (M2 p u st (t:Int).toNat) (sc.drop (st.sc.length+1)) else none)=_
          rw [Int.toNat_natCast,if_pos ⟨hx,hL⟩]
        have nx1:l8 (p,u) sc (st.sc,D,st.v.1,st.v.2.1,st.v.2.2,W,K,bg,(st.sc.length:Int))=some (.next ((M2 p u st t).sc,D',(M2 p u st t).v.1,(M2 p u st t).v.2.1,(M2 p u st t).v.2.2,W',K',bg',((M2 p u st t).sc.length:Int))):=by
          rw [el]
          unfold l8
          dsimp only
          rw [Int.toNat_natCast,r8 hg,if_pos (decide_eq_true (by omega)),b4 (by omega),b4 (by omega)]
          have:=a4x (p:=p) hul.2.1 st.sc D st.v W K bg ht
          rw [show (((p,u),st.sc,D,(st.v.1,st.v.2.1,st.v.2.2),W,K,bg):Rn)=((p,u),st.sc,D,st.v,W,K,bg) from rfl,this,Option.bind_some,hE,if_neg (by simp),a,Option.bind_some,b4 (by rw [l4]; omega),List.take_length]
          rfl
        have nx2:m8 p u sc o9 (st.hs,(st.sc.length:Int),st.v.1,st.v.2.1,st.v.2.2,st.hist,mk,(st.sc.length:Int))=some (.next ((M2 p u st t).hs,((M2 p u st t).sc.length:Int),(M2 p u st t).v.1,(M2 p u st t).v.2.1,(M2 p u st t).v.2.2,(M2 p u st t).hist,mkS u o9 st t mk,((M2 p u st t).sc.length:Int))):=by
          rw [el]
          unfold m8
          dsimp only
          rw [Int.toNat_natCast,r8 hg,if_pos (decide_eq_true (by omega)),b4 (by omega),b4 (by omega),b4 (by rw [l4]; omega),X1,hx,Option.bind_some,if_neg (by simp),b4 (by omega),b4 (by omega),a6j R.inv ht,Option.bind_some,hE,if_neg (by simp),b4 (by omega),b4 (by omega),b,Option.bind_some,b4 (by rw [l4]; omega)]
          rfl
        rw [eg]
        rcases a8e hp hu sc h12 o9 d (M2 p u st t) (by omega) (by omega) (by rw [es,List.length_take]; congr 1; omega) D' W' K' bg' _ c with ⟨h0,h1,h2⟩|⟨st2,D2,W2,K2,bg2,mk2,h0,hI,h1,h2⟩
        · exact .inl ⟨h0,E1 nx1 h1,E1 nx2 h2⟩
        · exact .inr ⟨st2,D2,W2,K2,bg2,mk2,h0,hI,E1 nx1 h1,E1 nx2 h2⟩
theorem b4F {p:Cd} {u:Us} (hu:I9 p u=true):Inv p u (Ty.dflt T85) (Ty.dflt T86) 0 (0,0,0) (List.replicate u.length (0,0,false,0,0,0,0,0)) [] []:=by
  have hul:=O5 hu
  have z:∀ t,t<2→b7 T85 (Ty.dflt T85) (t*8)=0∧n6 T85 (Ty.dflt T85) (t*8+1)=false:=fun t ht=>by
    have:t=0∨t=1:=by omega
    rcases this with rfl|rfl<;>exact ⟨rfl,rfl⟩
  have zc:∀ t,t<2→cnt (Ty.dflt T85) t=0:=fun t ht=>by unfold cnt; rw [(z t ht).1,(z t ht).2]; rfl
  refine ⟨by simp,fun t ht=>?_,rfl,?_,fun k hk=>by simp at hk,⟨⟨by decide,by decide⟩,⟨by decide,by decide⟩,by decide,by decide⟩,rfl,fun k hk=>by simp at hk⟩
  · have ht2:t<2:=by omega
    have e:(List.replicate u.length ((0,0,false,0,0,0,0,0):Hd)).getD t (0,0,false,0,0,0,0,0)=(0,0,false,0,0,0,0,0):=by
      rw [List.getD_eq_getElem?_getD,List.getElem?_replicate]; split<;>rfl
    rw [e]
    exact ⟨(z t ht2).2,by rw [(z t ht2).1]; omega,by rw [(z t ht2).1]; omega,fun _=>by rw [(z t ht2).1],fun c=>by cases c⟩
  · rw [zc 0 (by omega),zc 1 (by omega)]
    split<;>rfl
theorem a9h {p:Cd} {u:Us} (hu:I9 p u=true):Rl p u (st0 u) (Ty.dflt T80) (Ty.dflt T85) (Ty.dflt T86) 0 [] :=
  ⟨b4F hu,fun k hk=>by simp [st0] at hk,rfl⟩
theorem b2W {p:Cd} {u:Us} (hu:I9 p u=true) {W:El T85} {K:El T86} {bg:Int} {v:C3} {hs:List Hd} {hist:ZH} {mk:List Int} (I:Inv p u W K bg v hs hist mk):(a2Y Y0 6 K).take bg.toNat=hist:=by
  have h6:=a3R hu I
  have hb:bg.toNat=hist.length:=by have:=I.bg; omega
  rw [b2P,hb]
  refine List.ext_getElem? fun k=>?_
  by_cases hk:k<hist.length
  · rw [List.getElem?_take,if_pos hk,List.getElem?_map,List.getElem?_range (by omega),Option.map_some,I.cc k hk,List.getElem?_eq_getElem hk,r8 (List.getElem?_eq_getElem hk)]
  · rw [List.getElem?_eq_none (by rw [List.length_take]; omega),List.getElem?_eq_none (by omega)]
end Go.Proofs.Ytenchhmcjmjlbaa
