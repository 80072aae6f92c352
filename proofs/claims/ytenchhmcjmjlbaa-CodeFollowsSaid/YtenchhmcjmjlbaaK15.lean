import Derived.Test.YtenchhmcjmjlbaaK14
namespace Go.Proofs.Ytenchhmcjmjlbaa
open Go.RowKit
set_option linter.unusedVariables false
set_option linter.unusedSimpArgs false
set_option maxRecDepth 10000
theorem b03 (c:Cd) (hc:c.length≤1000) (w:List Int):N6 c w=some (okW c w):=by
  unfold N6 okW
  by_cases h3:w.length≤3
  · rw [if_pos (decide_eq_true (by omega)),decide_eq_true h3]
    have:=a85 w (fun o=>!rB o (c.length:Int)) (G4 (n:=3) h3) (body:=o8 w c) (fun k o hk=>by
      obtain ⟨hlt,hik⟩:=O9 (G4 (n:=3) h3) hk
      unfold o8 T0
      rw [Int.toNat_natCast,j7 hk,if_pos (decide_eq_true (by omega)),b6 (by omega),b6 (by omega),U5,Option.bind_some,Option.bind_some]
      cases rB o (c.length:Int)<;>simp [b6 hik]) (by unfold o8; rw [if_neg (by simp)])
    have e:C2 w c=some (w.any fun o=>!rB o (c.length:Int)):=this
    rw [e,Option.bind_some,List.not_any_eq_all_not]
    simp
  · rw [if_neg (by rw [decide_eq_true_eq]; omega),decide_eq_false h3]; simp
theorem b4c (l m:List Int) (hl:l.length≤1000):V4 l m=some (decide (l=m)):=by
  unfold V4
  by_cases h:l.length=m.length
  · rw [if_neg (by rw [decide_eq_true (by omega)]; simp)]
    rw [b4X (body:=J0 l m) l.length (fun k=>decide (l.getD k 0=m.getD k 0)) (fun k hk=>by
      unfold J0
      rw [if_pos (decide_eq_true (by omega)),b6 (by omega),b6 (by omega),b6 (by omega),b6 (by omega),Int.toNat_natCast]
      by_cases q:l.getD k 0=m.getD k 0
      · rw [if_neg (by rw [decide_eq_true q]; simp),b6 (b07 (by omega)),if_pos (decide_eq_true q)]
      · rw [if_pos (by rw [decide_eq_false q]; rfl),if_neg (by rw [decide_eq_true_eq]; exact q)]) (by unfold J0; rw [if_neg (by simp)]),Option.bind_some]
    by_cases e:l=m
    · have:a6u l.length (fun k=>decide (l.getD k 0=m.getD k 0))=true:=a4i.2 fun k hk=>by rw [e]; simp
      rw [this,if_pos rfl,decide_eq_true e]; rfl
    · have:a6u l.length (fun k=>decide (l.getD k 0=m.getD k 0))=false:=by
        cases hb:a6u l.length (fun k=>decide (l.getD k 0=m.getD k 0)) with
        | false=>rfl
        | true =>
          exfalso
          refine e (List.ext_getElem h fun k h1 h2=>?_)
          have:=of_decide_eq_true (a4i.1 hb k h1)
          rw [j7 (List.getElem?_eq_getElem h1),j7 (List.getElem?_eq_getElem h2)] at this
          exact this
      rw [this,if_neg (by simp),decide_eq_false e]
  · rw [if_pos (by rw [decide_eq_false (by omega)]; rfl),decide_eq_false (fun e=>h (by rw [e]))]
def wlk (s:SpT):Int→ZH→Bool
  | _,[]=>true
  | q,c::r=>!decide (c.2.2.2.2.2=0)&&(decide (syS s q c.2.2.1=c.2.2.2.1)&&wlk s (nxS s q c.2.2.1) r)
theorem a78 {s:SpT} (h:SpOk s) (b1:(List Hd)×Int×Int×Int×Int×ZH×(List Int)) (h6:b1.2.2.2.2.2.1.length≤6) (ho:∀ c∈b1.2.2.2.2.2.1,0≤c.2.2.1∧c.2.2.1<s.2.1):∀ (d k:Nat) (q:Int),b1.2.2.2.2.2.1.length - k=d→k≤b1.2.2.2.2.2.1.length→(0≤q∧q<s.1) →
    i7 (m6 s b1) (q,(k:Int))=some (if wlk s q (b1.2.2.2.2.2.1.drop k)=true then .inr () else .inl ())
  | 0,k,q,hd,hk,hq=>by
    have e:k=b1.2.2.2.2.2.1.length:=by omega
    subst e
    rw [List.drop_length]
    refine v9 ?_
    unfold m6
    rw [if_neg (by simp)]
    rfl
  | d+1,k,q,hd,hk,hq=>by
    have hlt:k<b1.2.2.2.2.2.1.length:=by omega
    have hg:=List.getElem?_eq_getElem hlt
    have hoc:=ho _ (List.getElem_mem hlt)
    have ed:=List.drop_eq_getElem_cons hlt
    generalize b1.2.2.2.2.2.1[k]=c at hg hoc ed
    have t1:=a5Q h.nx hq
    have t2:=a5Q h.sy hq
    rw [ed]
    unfold wlk
    by_cases z:c.2.2.2.2.2=0
    · rw [decide_eq_true z,if_neg (by simp)]
      refine v9 ?_
      unfold m6
      dsimp only
      rw [Int.toNat_natCast,j7 hg,if_pos (decide_eq_true (by omega)),b6 (by omega),b6 (by omega),b6 hlt,if_pos (decide_eq_true z)]
    · rw [decide_eq_false z]
      by_cases y:syS s q c.2.2.1=c.2.2.2.1
      · rw [decide_eq_true y]
        have nx:m6 s b1 (q,(k:Int))=some (.next (nxS s q c.2.2.1,((k+1:Nat):Int))):=by
          unfold syS at y
          unfold m6
          dsimp only
          rw [Int.toNat_natCast,j7 hg,if_pos (decide_eq_true (by omega)),b6 (by omega),b6 (by omega),b6 hlt,if_neg (by rw [decide_eq_true_eq]; exact z),b6 hq.1,b6 t2.1,b6 hoc.1,b6 (by omega),if_neg (by rw [decide_eq_true y]; simp),b6 hq.1,b6 t1.1,b6 hoc.1,b6 (by omega),b6 (by rw [l3]; omega)]
          rfl
        rw [A8 nx (a78 h b1 h6 ho d (k+1) _ (by omega) (by omega) (b2l h hq hoc))]
        simp
      · rw [decide_eq_false y,if_neg (by simp)]
        refine v9 ?_
        unfold syS at y
        unfold m6
        dsimp only
        rw [Int.toNat_natCast,j7 hg,if_pos (decide_eq_true (by omega)),b6 (by omega),b6 (by omega),b6 hlt,if_neg (by rw [decide_eq_true_eq]; exact z),b6 hq.1,b6 t2.1,b6 hoc.1,b6 (by omega),if_pos (by rw [decide_eq_false y]; rfl)]
theorem b0c (s:SpT):∀ (q:Int) (l:ZH),(∀ c∈l,c.2.2.2.2.2≠0)→wlk s q l=decide (l.map (fun c=>c.2.2.2.1)=a2b s q (l.map (fun c=>c.2.2.1)))
  | q,[],_=>by simp [wlk,a2b]
  | q,c::r,h=>by
    unfold wlk
    rw [List.map_cons,List.map_cons]
    unfold a2b
    rw [b0c s _ r (fun d hd=>h d (List.mem_cons_of_mem _ hd)),decide_eq_false (h c (List.mem_cons_self))]
    by_cases y:syS s q c.2.2.1=c.2.2.2.1
    · rw [decide_eq_true y]
      simp [y]
    · rw [decide_eq_false y]
      have:¬ c.2.2.2.1=syS s q c.2.2.1:=fun e=>y e.symm
      simp [this]
theorem b1W {p:Cd} {w:List Int}:M4 p [w]=okW p w:=by
  unfold M4
  simp
theorem a8z {p:Cd} {w:List Int} (hp:J7 p=true) (hu:M4 p [w]=true):∀ (d:Nat) (st:St) (D:El T80) (W:El T85) (K:El T86) (bg:Int) (mk:List Int),Rl p [w] st D W K bg mk→st.sc.length+d=12 →
    ∃ D' W' K' bg' mk',Rl p [w] (J8 p w d st) D' W' K' bg' mk'∧i7 (n9 p w) (st.hs,(st.sc.length:Int),st.v.1,st.v.2.1,st.v.2.2,st.hist,mk,(st.sc.length:Int))=some ((J8 p w d st).hs,((J8 p w d st).sc.length:Int),(J8 p w d st).v.1,(J8 p w d st).v.2.1,(J8 p w d st).v.2.2,(J8 p w d st).hist,mk')
  | 0,st,D,W,K,bg,mk,R,h12=>by
    refine ⟨D,W,K,bg,mk,R,v9 ?_⟩
    unfold n9
    rw [if_neg (by rw [decide_eq_true_eq]; show ¬ (st.sc.length:Int)<12; omega)]
    rfl
  | d+1,st,D,W,K,bg,mk,R,h12=>by
    have eo:=a8F hu R [] (st.sc.length:Int) st.v.1 st.v.2.1 st.v.2.2
    rw [b4Y] at eo
    unfold J8
    cases h:S2 [w] st 0 with
    | false =>
      rw [h] at eo
      rw [if_neg (by simp)]
      refine ⟨D,W,K,bg,mk,R,v9 ?_⟩
      unfold n9
      dsimp only
      rw [if_pos (decide_eq_true (by omega)),eo,Option.bind_some,if_neg (by simp)]
    | true =>
      rw [h] at eo
      rw [if_pos rfl]
      obtain ⟨D',W',K',bg',a,b,c⟩:=a2Z hp hu R (t:=0) (by simp) h (by omega) []
      have b':o9 0 p [w] [] (st.sc.length:Int) st.v.1 st.v.2.1 st.v.2.2 st.hs st.hist mk=some ((D1 p [w] st 0).hs,(D1 p [w] st 0).v.1,(D1 p [w] st 0).v.2.1,(D1 p [w] st 0).v.2.2,(D1 p [w] st 0).hist,mkS [w] [] st 0 mk):=b
      have el:((D1 p [w] st 0).sc.length:Int)=(st.sc.length:Int)+1:=by rw [a1K]; simp
      have nx:n9 p w (st.hs,(st.sc.length:Int),st.v.1,st.v.2.1,st.v.2.2,st.hist,mk,(st.sc.length:Int))=some (.next ((D1 p [w] st 0).hs,((D1 p [w] st 0).sc.length:Int),(D1 p [w] st 0).v.1,(D1 p [w] st 0).v.2.1,(D1 p [w] st 0).v.2.2,(D1 p [w] st 0).hist,mkS [w] [] st 0 mk,((D1 p [w] st 0).sc.length:Int))):=by
        rw [el]
        unfold n9
        dsimp only
        rw [if_pos (decide_eq_true (by omega)),eo,Option.bind_some,if_pos (by simp),b',Option.bind_some,b6 (by rw [l3]; omega)]
      obtain ⟨D2,W2,K2,bg2,mk2,R2,e2⟩:=a8z hp hu d _ D' W' K' bg' _ c (by omega)
      exact ⟨D2,W2,K2,bg2,mk2,R2,A8 nx e2⟩
def b4r (s:SpT) (p:Cd) (w:List Int):Bool×Int :=
  if J7 p=true then (if (a3O s).ok=true∧s.2.1=(p.length:Int) then (if okW p w=true then
    (decide (E9 [w] (J8 p w 12 (st0 [w]))=[])&&decide ((J8 p w 12 (st0 [w])).hist.map (fun c=>c.2.2.2.1)=a2b s 0 w),0) else (false,2)) else (false,10)) else (false,80)
theorem b0R {p:Cd} {w:List Int} (hp:J7 p=true) (hu:M4 p [w]=true) (ho:E9 [w] (J8 p w 12 (st0 [w]))=[]) :
    (J8 p w 12 (st0 [w])).hist.map (fun c=>c.2.2.1)=w∧∀ c∈(J8 p w 12 (st0 [w])).hist,c.2.2.2.2.2≠0:=by
  obtain ⟨G,_⟩:=a4w hp hu 12 (st0 [w]) (b2y hu) (by simp [st0])
  have H:=G.hi
  generalize J8 p w 12 (st0 [w])=st at ho H
  have hn:=a65 ho (t:=0) (by simp)
  have ow:=H.ow 0 (by simp)
  have h0:=H.h0 0 (by simp)
  unfold S2 at hn
  simp only [Bool.or_eq_false_iff,decide_eq_false_iff_not] at hn
  have ef:st.hist.filter (a69 ((0:Nat):Int))=st.hist:=List.filter_eq_self.2 fun c hc=>by
    obtain ⟨k,hk,e⟩:=List.getElem_of_mem hc
    have:=(H.ok k hk).th
    rw [j7 (List.getElem?_eq_getElem hk),e] at this
    have h1:([w]:Us).length=1:=rfl
    rw [h1] at this
    exact decide_eq_true (by omega)
  rw [ef] at ow
  have e0:(([w]:Us).getD 0 [])=w:=rfl
  rw [e0] at ow hn h0
  refine ⟨by rw [ow,List.take_of_length_le (by omega)],fun c hc z=>?_⟩
  obtain ⟨k,hk,e⟩:=List.getElem_of_mem hc
  have th:=(H.ok k hk).th
  have h1:([w]:Us).length=1:=rfl
  rw [h1] at th
  have:=H.nt 0 (by simp) k hk (by omega) (by rw [j7 (List.getElem?_eq_getElem hk),e]; exact z)
  rw [hn.1] at this
  cases this.1
theorem a8C {s:SpT} (hs:okS s) (p:Cd) (w:List Int):F2 s p w=some (b4r s p w):=by
  unfold F2 b4r
  rw [a4A,Option.bind_some]
  cases hc:J7 p with
  | false=>rfl
  | true =>
    have hcl:=Y8 hc
    rw [if_neg (by simp),if_pos rfl,b04 hs,Option.bind_some]
    by_cases hsp:(a3O s).ok=true∧s.2.1=(p.length:Int)
    · rw [if_neg (by rw [decide_eq_true hsp]; simp),if_pos hsp,a60 p (by omega),Option.bind_some,b1W]
      cases hw:okW p w with
      | false=>rfl
      | true =>
        have hu:M4 p [w]=true:=by rw [b1W]; exact hw
        rw [if_neg (by simp),if_pos rfl]
        unfold E7
        rw [b6 (by simp)]
        simp only [Option.bind_some]
        obtain ⟨D,W,K,bg,mk,R,e⟩:=a8z hc hu 12 (st0 [w]) _ _ _ _ _ (a5H hu) (by simp [st0])
        have e':i7 (n9 p w) (List.replicate 1 ((0,0,false,0,0,0,0,0):Int×Int×Bool×Int×Int×Int×Int×Int),0,0,0,0,[],[],0)=some ((J8 p w 12 (st0 [w])).hs,((J8 p w 12 (st0 [w])).sc.length:Int),(J8 p w 12 (st0 [w])).v.1,(J8 p w 12 (st0 [w])).v.2.1,(J8 p w 12 (st0 [w])).v.2.2,(J8 p w 12 (st0 [w])).hist,mk):=e
        rw [e',Option.bind_some]
        have hso:=b0R hc hu
        obtain ⟨G,_⟩:=a4w hc hu 12 (st0 [w]) (b2y hu) (by simp [st0])
        generalize J8 p w 12 (st0 [w])=st at R hso G
        have hk:=b57 hsp.1
        have hops:∀ c∈st.hist,0≤c.2.2.1∧c.2.2.1<s.2.1:=fun c hm=>by
          obtain ⟨k,hk,e⟩:=List.getElem_of_mem hm
          have:=(G.hi.ok k hk).op
          rw [j7 (List.getElem?_eq_getElem hk),e] at this
          rw [hsp.2]; exact this
        unfold F8
        have wl:=a78 hk (st.hs,(st.sc.length:Int),st.v.1,st.v.2.1,st.v.2.2,st.hist,mk) (a1W hu R.inv) hops st.hist.length 0 0 (by simp) (by simp) (by have:=hk.st; omega)
        have wl':i7 (m6 s (st.hs,(st.sc.length:Int),st.v.1,st.v.2.1,st.v.2.2,st.hist,mk)) (0,0)=some (if wlk s 0 st.hist=true then .inr () else .inl ()):=by
          have e0:((0:Int),(0:Int))=(0,((0:Nat):Int)):=rfl
          rw [e0,wl]; rfl
        rw [wl',Option.bind_some]
        unfold F7
        rw [a8F hu R,Option.bind_some]
        by_cases ho:E9 [w] st=[]
        · obtain ⟨h1,h2⟩:=hso ho
          rw [b0c s 0 st.hist h2,h1,decide_eq_true ho]
          by_cases q:st.hist.map (fun c=>c.2.2.2.1)=a2b s 0 w
          · rw [decide_eq_true q,if_pos rfl]; rfl
          · rw [decide_eq_false q,if_neg (by simp)]; rfl
        · rw [decide_eq_false ho]
          cases wlk s 0 st.hist<;>rfl
    · rw [if_pos (by rw [decide_eq_false hsp]; rfl),if_neg hsp]
theorem b0b {s:SpT} (hs:okS s) {p:Cd} (hf:a1y p) (w:List Int):W4 s p w=some (b4r s p w):=by
  unfold W4 b4r
  rw [a73 hs hf,Option.bind_some]
  cases hc:J7 p with
  | false=>rfl
  | true =>
    have hcl:=Y8 hc
    rw [if_pos rfl,if_pos rfl]
    by_cases hsp:(a3O s).ok=true∧s.2.1=(p.length:Int)
    · rw [if_pos hsp,if_pos hsp,if_neg (by simp),b03 p (by omega),Option.bind_some]
      cases hw:okW p w with
      | false=>rfl
      | true =>
        have hu:M4 p [w]=true:=by rw [b1W]; exact hw
        have hul:=J6 hu
        have hw3:=(hul.2.2 0).1
        have hwo:=(hul.2.2 0).2
        have e0:(([w]:Us).getD 0 [])=w:=rfl
        rw [e0] at hw3 hwo
        rw [if_neg (by simp),if_pos rfl,a9E hs hsp.1 (by omega) (fun o ho=>by rw [hsp.2]; exact hwo o ho),Option.bind_some]
        unfold P1
        rw [Option.bind_some]
        have hlen:=a9b s 0 w
        have R:=fun (x:Sum Unit Unit)=>b4e (x:=x) hc hu (S:=Unit) (R:=Unit) (v8 (a2b s 0 w,a7W s 0 w,0)) (fun st _=>some (if (decide (E9 [w] st=[])&&decide (st.hist.map (fun c=>c.2.2.2.1)=a2b s 0 w))=true then .next () else .done ())) 12 (Nat.le_refl _) (fun y st u0 hy G _ _=>by
          obtain ⟨D,W,K,bg,mk,rfl,Rr⟩:=hy
          have h6:=a1W hu Rr.inv
          unfold v8
          rw [a7l hu Rr,Option.bind_some,a4J (fun c:Cl=>c.2.2.2.1) st.hist (G4 (n:=6) h6) (body:=J5 st.hist) (fun k c l hk hl hin=>by
            have hlt:=(List.getElem?_eq_some_iff.1 hk).1
            unfold J5
            dsimp only
            rw [Int.toNat_natCast,j7 hk,if_pos (decide_eq_true (by omega)),b6 (by omega),b6 (by omega),b6 (by omega),b6 hin]) (fun l=>by unfold J5; rw [if_neg (by simp)]),Option.bind_some]
          unfold T7 T4
          rw [a3b hu Rr,Option.bind_some,Option.bind_some]
          by_cases ho:E9 [w] st=[]
          · rw [ho,if_neg (by simp),b4c _ _ (by rw [List.length_map]; omega),Option.bind_some]
            dsimp only
            by_cases q:st.hist.map (fun c=>c.2.2.2.1)=a2b s 0 w
            · rw [decide_eq_true q,if_neg (by simp),if_pos (by simp)]
            · rw [decide_eq_false q,if_pos (by simp),if_neg (by simp)]
          · have:(E9 [w] st).length≠0:=fun q=>ho (List.length_eq_zero_iff.1 q)
            rw [if_pos (by rw [decide_eq_false (by omega)]; rfl),decide_eq_false ho,if_neg (by simp)]) ()
        simp only [b40] at R
        cases hq:(decide (E9 [w] (J8 p w 12 (st0 [w]))=[])&&decide ((J8 p w 12 (st0 [w])).hist.map (fun c=>c.2.2.2.1)=a2b s 0 w)) with
        | true =>
          have e:=R (.inl ()) (by unfold a2h; rw [hq]; rfl)
          have e':t6 Unit Unit (p,[w]) 12 (v8 (a2b s 0 w,a7W s 0 w,0)) ()=some (.inl ()):=e
          rw [e']; rfl
        | false =>
          have e:=R (.inr ()) (by unfold a2h; rw [hq]; rfl)
          have e':t6 Unit Unit (p,[w]) 12 (v8 (a2b s 0 w,a7W s 0 w,0)) ()=some (.inr ()):=e
          rw [e']; rfl
    · rw [if_neg hsp,if_neg hsp,if_pos (by simp)]
theorem b2C {a b:Int} (ha:rB a 3=true) (hb:rB b 3=true) {l:Ln} (h:a7h l):a7h (a3G a b l):=by
  have ha:=n8.1 ha
  have hb:=n8.1 hb
  have o:∀ n,InK .i64 n→InK .i64 (oth a b n):=fun n hn=>by
    unfold oth
    split
    · rw [l3]; omega
    · split
      · rw [l3]; omega
      · exact hn
  unfold a3G
  split
  · exact ⟨h.1,h.2.1,o _ h.2.2.1,h.2.2.2⟩
  · split
    · exact ⟨h.1,o _ h.2.1,h.2.2.1,h.2.2.2⟩
    · exact h
theorem b13 {a b:Int} (ha:rB a 3=true) (hb:rB b 3=true) {c:Cd} (hf:a1y c):a1y (a8c a b c):=fun ls hls l hl=>by
  obtain ⟨ls0,h0,rfl⟩:=List.mem_map.1 hls
  obtain ⟨l0,h1,rfl⟩:=List.mem_map.1 hl
  exact b2C ha hb (hf ls0 h0 l0 h1)
theorem a6C (x:Sp×Cd×Us) (hx:a5m KTy x) (w:List Int) (cells:Int×Int):E8 x w cells=some true:=by
  obtain ⟨fc,fu,hf,hs⟩:=b2S hx
  unfold E8
  obtain ⟨b,eb⟩:=b2q x fc fu
  rw [eb,Option.bind_some,a2C]
  cases b with
  | true=>rw [if_pos rfl]; rfl
  | false =>
    rw [if_neg (by simp)]
    by_cases h60:60<(w.length:Int)
    · rw [if_pos (decide_eq_true h60)]; rfl
    · rw [if_neg (by rw [decide_eq_true_eq]; exact h60),b0b hs hf,Option.bind_some,a8C hs,Option.bind_some,a97 hf,Option.bind_some,a8B,Option.bind_some,if_pos (by simp),if_pos (by simp)]
      have hsc:s4 (if J7 x.2.1=true then (if rB cells.1 3=true∧rB cells.2 3=true then ((a8c cells.1 cells.2 x.2.1,0):Cd×Int) else ([],2)) else ([],80)).1 (if J7 x.2.1=true then (if rB cells.1 3=true∧rB cells.2 3=true then ((a8c cells.1 cells.2 x.2.1,0):Cd×Int) else ([],2)) else ([],80)).1=some true:=by
        have h0:s4 [] []=some true:=a5e (fun ls h=>by cases h) (by simp) (fun ls h=>by cases h)
        cases hc:J7 x.2.1 with
        | false=>exact h0
        | true =>
          rw [if_pos rfl]
          by_cases hab:rB cells.1 3=true∧rB cells.2 3=true
          · rw [if_pos hab]
            have hcl:=Y8 hc
            exact a5e (b13 hab.1 hab.2 hf) (by unfold a8c; rw [List.length_map]; exact hcl.2) (fun ls hls=>by
              obtain ⟨ls0,h1,rfl⟩:=List.mem_map.1 hls
              rw [List.length_map]; exact (a4k hc h1).2)
          · rw [if_neg hab]; exact h0
      rw [hsc,Option.bind_some,if_pos rfl,if_pos (by simp)]
      rfl
end Go.Proofs.Ytenchhmcjmjlbaa
