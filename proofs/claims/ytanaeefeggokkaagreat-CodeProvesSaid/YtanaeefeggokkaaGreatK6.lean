import Derived.Test.YtanaeefeggokkaaGreatK5
namespace Go.Proofs.YtanaeefeggokkaaGreat
open Go.RowKit
set_option linter.unusedVariables false
set_option linter.unusedSimpArgs false
def hasL (u:Us) (W:El T77) (t:Nat):Bool:=decide (b7 T77 W (t*8)<((u.getD t []).length:Int))
theorem a8q {p:Cd} {u:Us} (hu:u.length≤2) (s:List Int) (D:El T72) (v:C3) (W:El T77) (K:El T78) (bg:Int) {t:Nat} (ht:t<u.length):C4 ((p,u),s,D,v,W,K,bg) (t:Int)=some (hasL u W t):=by
  have ht2:t<2:=by omega
  unfold C4;dsimp only;rw [U8,Option.bind_some,if_pos (r7.2 (by omega)),Int.toNat_natCast,b5 (by omega),b5 (by omega),b5 (a1O t ht2).2.2.1,b5 (by omega),b5 (by omega)];rfl
theorem b2z {p:Cd} {u:Us} (s:List Int) (D:El T72) (v:C3) (W:El T77) (K:El T78) (bg:Int) {x:Int} (hx:rB x (u.length:Int)=false):C4 ((p,u),s,D,v,W,K,bg) x=some false:=by
  unfold C4;dsimp only;rw [U8,Option.bind_some,hx,if_neg (by simp)]
structure St where
  hs:List Hd
  v:C3
  hist:ZH
  sc:List Int
  dl:List (Int×Int)
def st0 (u:Us):St:=⟨List.replicate u.length (0,0,false,0,0,0,0,0),(0,0,0),[],[],[]⟩
def a2J (u:Us) (st:St) (t:Nat):Bool:=(st.hs.getD t (0,0,false,0,0,0,0,0)).2.2.1 || decide ((st.hs.getD t (0,0,false,0,0,0,0,0)).1<((u.getD t []).length:Int))
def V8 (u:Us) (hs:List Hd) (hist:ZH) (t:Nat) (n:Int):List Hd×ZH :=
  if (hs.getD t (0,0,false,0,0,0,0,0)).2.2.1=true then (hs,hist)
  else (hs.set t ((hs.getD t (0,0,false,0,0,0,0,0)).1+1,0,true,(hist.length:Int),0,1,0,0),hist++[((t:Int),0,(u.getD t []).getD (hs.getD t (0,0,false,0,0,0,0,0)).1.toNat 0,0,2*n+1,0)])
def N5 (p:Cd) (u:Us) (st:St) (t:Nat):St :=
  let b:=V8 u st.hs st.hist t (st.sc.length:Int)
  let f:=a2d p t b.1 st.v b.2 (st.sc.length:Int)
  ⟨f.1,f.2.1,f.2.2,st.sc++[(t:Int)],st.dl++[((b.1.getD t (0,0,false,0,0,0,0,0)).2.2.2.1,(b.1.getD t (0,0,false,0,0,0,0,0)).2.1)]⟩
def mkS (u:Us) (b8:List Int) (st:St) (t:Nat) (mk:List Int):List Int :=
  let b:=V8 u st.hs st.hist t (st.sc.length:Int)
  mkL b8 (opC b.2 (b.1.getD t (0,0,false,0,0,0,0,0))) (b.1.getD t (0,0,false,0,0,0,0,0)).2.1 (b.1.getD t (0,0,false,0,0,0,0,0)).2.2.2.1 (st.sc.length:Int) (if (st.hs.getD t (0,0,false,0,0,0,0,0)).2.2.1=true then mk else mk++[-1])
/-! ### The program's deeds -/
def b3J (D:El T72) (k:Nat):Int×Int:=(b7 T72 D (k*2),b7 T72 D (k*2+1))
theorem b9i:∀ q<24,kAt T72 q=some (some .i64):=by decide +kernel
theorem b89:∀ k<12,Q8 T72 (.pair .i .i) (k*2)=true:=by decide +kernel
theorem b5o (D:El T72) {k j:Nat} (hk:k<12) (hj:j<12) (x:Int×Int):b3J (b32 D k x) j=if j=k then x else b3J D j:=by
  have es:Ty.size (.pair .i .i)=2:=rfl;unfold b3J b32;have hi:∀ q,q<24→b7 T72 (F5 T72 (.pair .i .i) D (k*2) x) q=if k*2≤q∧q<k*2+2 then b7 (.pair .i .i) x (q - k*2) else b7 T72 D q:=fun q hq=>by
    rw [a1P _ D _ (b89 k hk) (b9i q hq),es]
  rw [hi _ (by omega),hi _ (by omega)]
  by_cases c:j=k
  · subst c;rw [if_pos (by omega),if_pos (by omega),if_pos rfl,Nat.sub_self,Nat.add_sub_cancel_left];rfl
  · rw [if_neg (by omega),if_neg (by omega),if_neg c]
structure Rl (p:Cd) (u:Us) (st:St) (D:El T72) (W:El T77) (K:El T78) (bg:Int) (mk:List Int):Prop where
  inv:Inv p u W K bg st.v st.hs st.hist mk
  dr:∀ k,k<st.dl.length→b3J D k=st.dl.getD k (0,0)
  le:st.dl.length=st.sc.length
theorem a7C {p:Cd} {u:Us} {st:St} {D:El T72} {W:El T77} {K:El T78} {bg:Int} {mk:List Int} (R:Rl p u st D W K bg mk) {t:Nat} (ht:t<u.length):hasL u W t=a2J u st t:=by
  have r:=R.inv.rh t ht;unfold hasL a2J
  cases hin:(st.hs.getD t (0,0,false,0,0,0,0,0)).2.2.1 with
  | true=>rw [decide_eq_true (r.op hin).r1]; rfl
  | false=>rw [r.no hin]; rfl
theorem b10 {p:Cd} {u:Us} (hp:K1 p=true) (hu:J9 p u=true) {st:St} {D:El T72} {W:El T77} {K:El T78} {bg:Int} {mk:List Int} (R:Rl p u st D W K bg mk) {t:Nat} (ht:t<u.length) (hL:a2J u st t=true) (hs12:st.sc.length<12) (b8:List Int) :
    ∃ D' W' K' bg',P8 ((p,u),st.sc,D,st.v,W,K,bg) (t:Int)=some (D',(N5 p u st t).v.1,(N5 p u st t).v.2.1,(N5 p u st t).v.2.2,W',K',bg')∧Rl p u (N5 p u st t) D' W' K' bg' (mkS u b8 st t mk):=by
  have I:=R.inv;have hul:=Q2 hu;have ht2:t<2:=by omega
  have r:=I.rh t ht;have hl:=I.hl;have h6:=a2p hu I;rw [← a7C R ht] at hL;have hL:=of_decide_eq_true hL;have h3:=(hul.2.2 t).1;have hbg:=I.bg;have hml:=I.ml;have hdl:=R.le;obtain ⟨k0,k1,k2,k3,k4,k5⟩:=a1O t ht2;have drs:∀ x,∀ k,k<(st.dl++[x]).length→b3J (b32 D st.sc.length x) k=(st.dl++[x]).getD k (0,0):=fun x k hk=>by
    rw [List.length_append,List.length_singleton] at hk;rw [b5o D hs12 (by omega)]
    by_cases c:k=st.sc.length
    · rw [if_pos c,List.getD_eq_getElem?_getD,List.getElem?_append_right (by omega),show k - st.dl.length=0 by omega]; rfl
    · rw [if_neg c,R.dr k (by omega),List.getD_eq_getElem?_getD,List.getD_eq_getElem?_getD,List.getElem?_append_left (by omega)]
  cases hin:(st.hs.getD t (0,0,false,0,0,0,0,0)).2.2.1 with
  | true =>
    obtain ⟨W',K',a,c⟩:=b3b hp hu I ht hin st.sc hs12 D W K bg b8;have eb:V8 u st.hs st.hist t (st.sc.length:Int)=(st.hs,st.hist):=by unfold V8; rw [if_pos hin]
    unfold mkS N5;simp only [eb];rw [if_pos hin];refine ⟨_,W',K',bg,?_,c,drs _,by simp only [List.length_append,hdl,List.length_singleton]⟩
    · unfold P8;dsimp only;rw [Int.toNat_natCast,List.take_length,b5 (by omega),b5 (by omega),b5 (by omega),b5 k1,r.bo,hin,if_neg (by simp)];exact a
  | false =>
    have B:=a9y hp hu I ht hin hL (n:=(st.sc.length:Int)) (by omega);have r0:=r.r0;have no:=r.no hin;have eg:(st.hs.set t ((st.hs.getD t (0,0,false,0,0,0,0,0)).1+1,0,true,(st.hist.length:Int),0,1,0,0)).getD t (0,0,false,0,0,0,0,0)=((st.hs.getD t (0,0,false,0,0,0,0,0)).1+1,0,true,(st.hist.length:Int),0,1,0,0):=b3h (by omega);obtain ⟨W',K',a,c⟩:=b3b hp hu B.2 ht (by rw [eg]) st.sc hs12 D W K bg b8;have eb:V8 u st.hs st.hist t (st.sc.length:Int)=(st.hs.set t ((st.hs.getD t (0,0,false,0,0,0,0,0)).1+1,0,true,(st.hist.length:Int),0,1,0,0),st.hist++[((t:Int),0,(u.getD t []).getD (st.hs.getD t (0,0,false,0,0,0,0,0)).1.toNat 0,0,2*(st.sc.length:Int)+1,0)]):=by unfold V8; rw [if_neg (by rw [hin]; simp)]
    rw [no] at eb;rw [no] at a c;unfold mkS N5;simp only [eb];rw [if_neg (by rw [hin]; simp)];refine ⟨_,W',K',bg+1,?_,c,drs _,by simp only [List.length_append,hdl,List.length_singleton]⟩
    · unfold P8;dsimp only;rw [Int.toNat_natCast,List.take_length,b5 (by omega),b5 (by omega),b5 (by omega),b5 k1,r.bo,hin,if_pos (show (!false)=true from rfl),b5 (by omega),b5 (by omega),b5 k2,b5 r0,b5 hL,b5 (by rw [m5]; omega),b5 (by rw [m5]; omega),b5 (by omega),b5 (by have:=B.1; omega)]
      first
        | rw [b5 (b2l t ht2),b5 (by rw [m5]; omega)]
        | rw [b5 k2,b5 (b2l t ht2),b5 (by rw [m5]; omega)]
      exact a
def goA (p:Cd) (u:Us):St→List Int→Option St
  | st,[]=>some st
  | st,x::r=>if rB x (u.length:Int)=true∧a2J u st x.toNat=true then goA p u (N5 p u st x.toNat) r else none
theorem a2e (p:Cd) (u:Us) (st:St) (t:Nat):(N5 p u st t).sc=st.sc++[(t:Int)]:=rfl
theorem b5Y {p:Cd} {u:Us}:∀ {st:St} {l:List Int} {st':St},goA p u st l=some st'→st'.sc=st.sc++l
  | st,[],st',h=>by injection h with h; subst h; simp
  | st,x::r,st',h=>by
    unfold goA at h
    split at h
    · rename_i c;rw [b5Y h,a2e,List.append_assoc];have:=r7.1 c.1;rw [show (x.toNat:Int)=x by omega]; rfl
    · cases h
abbrev PS:Type:=(List Int)×(El T72)×Int×Int×Int×(El T77)×(El T78)×Int
abbrev RS:Type:=(List Hd)×Int×Int×Int×Int×ZH×(List Int)
/-! The loops,from a place of the schedule on. -/
theorem b5C {p:Cd} {u:Us} (hp:K1 p=true) (hu:J9 p u=true) (sc:List Int) (h12:sc.length≤12):∀ (d:Nat) (st:St),sc.length - st.sc.length=d→st.sc.length≤sc.length→st.sc=sc.take st.sc.length→∀ (D:El T72) (W:El T77) (K:El T78) (bg:Int) (mk:List Int),Rl p u st D W K bg mk →
    (goA p u st (sc.drop st.sc.length)=none∧g9 (l4 (p,u) sc) (st.sc,D,st.v.1,st.v.2.1,st.v.2.2,W,K,bg,(st.sc.length:Int))=some (.inl ())) ∨
    ∃ st' D' W' K' bg' mk',goA p u st (sc.drop st.sc.length)=some st'∧Rl p u st' D' W' K' bg' mk'∧g9 (l4 (p,u) sc) (st.sc,D,st.v.1,st.v.2.1,st.v.2.2,W,K,bg,(st.sc.length:Int))=some (.inr (st'.sc,D',st'.v.1,st'.v.2.1,st'.v.2.2,W',K',bg'))
  | 0,st,hd,hk,hsc,D,W,K,bg,mk,R=>by
    have e:st.sc.length=sc.length:=by omega
    have ed:sc.drop st.sc.length=[]:=by rw [e,List.drop_length]
    refine .inr ⟨st,D,W,K,bg,mk,by rw [ed]; rfl,R,R9 ?_⟩;unfold l4;rw [if_neg (by rw [decide_eq_true_eq]; show ¬ (st.sc.length:Int)<(sc.length:Int); omega)]
  | d+1,st,hd,hk,hsc,D,W,K,bg,mk,R=>by
    have hul:=Q2 hu;have hlt:st.sc.length<sc.length:=by omega
    have hg:=List.getElem?_eq_getElem hlt;have ed:=List.drop_eq_getElem_cons hlt;generalize sc[st.sc.length]=x at hg ed;rw [ed]
    cases hx:rB x (u.length:Int) with
    | false =>
      refine .inl ⟨by unfold goA; rw [if_neg (by rw [hx]; simp)],R9 ?_⟩;unfold l4;dsimp only;rw [Int.toNat_natCast,m9 hg,if_pos (decide_eq_true (by omega)),b5 (by omega),b5 (by omega)];have:=b2z (p:=p) st.sc D st.v W K bg hx;rw [show (((p,u),st.sc,D,(st.v.1,st.v.2.1,st.v.2.2),W,K,bg):Rn)=((p,u),st.sc,D,st.v,W,K,bg) from rfl,this,Option.bind_some,if_pos (show (!false)=true from rfl)]
    | true =>
      obtain ⟨x0,x1⟩:=r7.1 hx;obtain ⟨t,rfl⟩:∃ t:Nat,x=(t:Int):=⟨x.toNat,by omega⟩;have ht:t<u.length:=by omega
      have hE:=a7C R ht;have hasl:=a8q (p:=p) hul.2.1 st.sc D st.v W K bg ht
      cases hL:a2J u st t with
      | false =>
        rw [hL] at hE;refine .inl ⟨by unfold goA; rw [if_neg (by rw [Int.toNat_natCast,hL]; simp)],R9 ?_⟩;unfold l4;dsimp only;rw [Int.toNat_natCast,m9 hg,if_pos (decide_eq_true (by omega)),b5 (by omega),b5 (by omega),show (((p,u),st.sc,D,(st.v.1,st.v.2.1,st.v.2.2),W,K,bg):Rn)=((p,u),st.sc,D,st.v,W,K,bg) from rfl,hasl,Option.bind_some,hE,if_pos (show (!false)=true from rfl)]
      | true =>
        rw [hL] at hE;obtain ⟨D',W',K',bg',a,c⟩:=b10 hp hu R ht hL (by omega) [];have es:(N5 p u st t).sc=sc.take (st.sc.length+1):=by rw [a2e,take_one hg,← hsc]
        have el:(N5 p u st t).sc.length=st.sc.length+1:=by rw [a2e]; simp
        have eg:goA p u st ((t:Int)::sc.drop (st.sc.length+1))=goA p u (N5 p u st t) (sc.drop (N5 p u st t).sc.length):=by
          rw [el];show (if rB (t:Int) (u.length:Int)=true∧a2J u st (t:Int).toNat=true then goA p u (N5 p u st (t:Int).toNat) (sc.drop (st.sc.length+1)) else none)=_;rw [Int.toNat_natCast,if_pos ⟨hx,hL⟩]
        have nx1:l4 (p,u) sc (st.sc,D,st.v.1,st.v.2.1,st.v.2.2,W,K,bg,(st.sc.length:Int))=some (.next ((N5 p u st t).sc,D',(N5 p u st t).v.1,(N5 p u st t).v.2.1,(N5 p u st t).v.2.2,W',K',bg',((N5 p u st t).sc.length:Int))):=by
          rw [el];unfold l4;dsimp only;rw [Int.toNat_natCast,m9 hg,if_pos (decide_eq_true (by omega)),b5 (by omega),b5 (by omega),show (((p,u),st.sc,D,(st.v.1,st.v.2.1,st.v.2.2),W,K,bg):Rn)=((p,u),st.sc,D,st.v,W,K,bg) from rfl,hasl,Option.bind_some,hE,if_neg (by simp),a,Option.bind_some,b5 (by rw [m5]; omega),List.take_length];rfl
        rw [eg];rcases b5C hp hu sc h12 d (N5 p u st t) (by omega) (by omega) (by rw [es,List.length_take]; congr 1; omega) D' W' K' bg' _ c with ⟨h0,h1⟩|⟨st2,D2,W2,K2,bg2,mk2,h0,hI,h1⟩
        · exact .inl ⟨h0,E9 nx1 h1⟩
        · exact .inr ⟨st2,D2,W2,K2,bg2,mk2,h0,hI,E9 nx1 h1⟩
theorem b53 {p:Cd} {u:Us} (hu:J9 p u=true):Inv p u (Ty.dflt T77) (Ty.dflt T78) 0 (0,0,0) (List.replicate u.length (0,0,false,0,0,0,0,0)) [] []:=by
  have hul:=Q2 hu;have z:∀ t,t<2→b7 T77 (Ty.dflt T77) (t*8)=0∧m6 T77 (Ty.dflt T77) (t*8+1)=false:=fun t ht=>by
    have:t=0∨t=1:=by omega
    rcases this with rfl|rfl<;>exact ⟨rfl,rfl⟩
  have zc:∀ t,t<2→cnt (Ty.dflt T77) t=0:=fun t ht=>by unfold cnt; rw [(z t ht).1,(z t ht).2]; rfl
  refine ⟨by simp,fun t ht=>?_,rfl,?_,fun k hk=>by simp at hk,⟨⟨by decide,by decide⟩,⟨by decide,by decide⟩,by decide,by decide⟩,rfl,fun k hk=>by simp at hk⟩
  · have ht2:t<2:=by omega
    have e:(List.replicate u.length ((0,0,false,0,0,0,0,0):Hd)).getD t (0,0,false,0,0,0,0,0)=(0,0,false,0,0,0,0,0):=by
      rw [List.getD_eq_getElem?_getD,List.getElem?_replicate]; split<;>rfl
    rw [e];exact ⟨(z t ht2).2,by rw [(z t ht2).1]; omega,by rw [(z t ht2).1]; omega,fun _=>by rw [(z t ht2).1],fun c=>by cases c⟩
  · rw [zc 0 (by omega),zc 1 (by omega)]
    split<;>rfl
theorem b0h {p:Cd} {u:Us} (hu:J9 p u=true):Rl p u (st0 u) (Ty.dflt T72) (Ty.dflt T77) (Ty.dflt T78) 0 [] :=
  ⟨b53 hu,fun k hk=>by simp [st0] at hk,rfl⟩
theorem b4h {p:Cd} {u:Us} (hu:J9 p u=true) {W:El T77} {K:El T78} {bg:Int} {v:C3} {hs:List Hd} {hist:ZH} {mk:List Int} (I:Inv p u W K bg v hs hist mk):(T8 Y0 6 K).take bg.toNat=hist:=by
  have h6:=a2p hu I;have hb:bg.toNat=hist.length:=by have:=I.bg; omega
  rw [b4a,hb];refine List.ext_getElem? fun k=>?_
  by_cases hk:k<hist.length
  · rw [List.getElem?_take,if_pos hk,List.getElem?_map,List.getElem?_range (by omega),Option.map_some,I.cc k hk,List.getElem?_eq_getElem hk,m9 (List.getElem?_eq_getElem hk)]
  · rw [List.getElem?_eq_none (by rw [List.length_take]; omega),List.getElem?_eq_none (by omega)]
end Go.Proofs.YtanaeefeggokkaaGreat
