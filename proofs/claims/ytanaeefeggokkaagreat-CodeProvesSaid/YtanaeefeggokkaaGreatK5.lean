import Derived.Test.YtanaeefeggokkaaGreatK4
namespace Go.Proofs.YtanaeefeggokkaaGreat
open Go.RowKit
set_option linter.unusedVariables false
set_option linter.unusedSimpArgs false
theorem a8E {p:Cd} {w:Nat} {W W':El T77} {hist hist':ZH} {ul:List Int} {h:Hd} (hi:∀ q,w≤q→q<w+8→b7 T77 W' q=b7 T77 W q) (hb:m6 T77 W' (w+1)=m6 T77 W (w+1))
    (hl:hist.length≤hist'.length) (ho:∀ k,k<hist.length→(hist'.getD k (0,0,0,0,0,0)).2.2.1=(hist.getD k (0,0,0,0,0,0)).2.2.1) (r:RH p w W hist ul h):RH p w W' hist' ul h:=by
  have h0:=hi w (by omega) (by omega);refine ⟨by rw [hb]; exact r.bo,by rw [h0]; exact r.r0,by rw [h0]; exact r.r1,fun c=>by rw [h0]; exact r.no c,fun c=>?_⟩;obtain ⟨r1,cs,cl,ln,rg,r9,c0,c1,o0,o1,l0,l1⟩:=r.op c;have e:opC hist' h=opC hist h:=ho _ (by omega);refine ⟨by rw [h0]; exact r1,by rw [h0]; exact cs,by rw [hi _ (by omega) (by omega)]; exact cl,by rw [hi _ (by omega) (by omega)]; exact ln,fun a ha=>?_,r9,c0,by omega,by rw [e]; exact o0,by rw [e]; exact o1,l0,by rw [e]; exact l1⟩;have:=r7.1 ha;rw [← rg a ha];unfold rgW;exact hi _ (by omega) (by omega)
theorem a6Q {W W':El T77} {t:Nat} (h0:b7 T77 W' (t*8)=b7 T77 W (t*8)) (hb:m6 T77 W' (t*8+1)=m6 T77 W (t*8+1)):cnt W' t=cnt W t:=by
  unfold cnt; rw [h0,hb]
theorem a82 {W W':El T77} {u:Us} (hu2:u.length≤2) (h:∀ t,t<u.length∨t=0→cnt W' t=cnt W t):cnt W' 0+(if 1<u.length then cnt W' 1 else 0)=cnt W 0+(if 1<u.length then cnt W 1 else 0):=by
  rw [h 0 (.inr rfl)]
  by_cases c:1<u.length
  · rw [if_pos c,if_pos c,h 1 (.inl c)]
  · rw [if_neg c,if_neg c]
theorem b5M {ls:List Ln} (hc:a4a ls=true) {k:Nat} (hk:k<ls.length) (h7:(ls.getD k (0,0,0,0)).1≠7):k+1<ls.length:=by
  unfold a4a a9i at hc;simp only [Bool.and_eq_true,decide_eq_true_eq] at hc
  by_cases c:k=ls.length - 1
  · subst c; exact absurd hc.2.1 h7
  · omega
def lnA (p:Cd) (hist:ZH) (h:Hd):Ln:=(p.getD (opC hist h).toNat []).getD h.2.1.toNat (0,0,0,0)
def a2d (p:Cd) (t:Nat) (hs:List Hd) (v:C3) (hist:ZH) (n:Int):List Hd×C3×ZH :=
  if (lnA p hist (hs.getD t (0,0,false,0,0,0,0,0))).1=7 then
    (hs.set t ((hs.getD t (0,0,false,0,0,0,0,0)).1,(hs.getD t (0,0,false,0,0,0,0,0)).2.1+1,false,(hs.getD t (0,0,false,0,0,0,0,0)).2.2.2),v,hist.set (hs.getD t (0,0,false,0,0,0,0,0)).2.2.2.1.toNat (a2w (hist.getD (hs.getD t (0,0,false,0,0,0,0,0)).2.2.2.1.toNat (0,0,0,0,0,0)) (rgU (hs.getD t (0,0,false,0,0,0,0,0)) (lnA p hist (hs.getD t (0,0,false,0,0,0,0,0))).2.1) n))
  else (hs.set t (doU (lnA p hist (hs.getD t (0,0,false,0,0,0,0,0))) ((hs.getD t (0,0,false,0,0,0,0,0)).1,(hs.getD t (0,0,false,0,0,0,0,0)).2.1+1,(hs.getD t (0,0,false,0,0,0,0,0)).2.2) v).1,(doU (lnA p hist (hs.getD t (0,0,false,0,0,0,0,0))) ((hs.getD t (0,0,false,0,0,0,0,0)).1,(hs.getD t (0,0,false,0,0,0,0,0)).2.1+1,(hs.getD t (0,0,false,0,0,0,0,0)).2.2) v).2,hist)
theorem b3b {p:Cd} {u:Us} (hp:K1 p=true) (hu:J9 p u=true) {W:El T77} {K:El T78} {bg:Int} {v:C3} {hs:List Hd} {hist:ZH} {mk:List Int} (I:Inv p u W K bg v hs hist mk) {t:Nat} (ht:t<u.length) (hin:(hs.getD t (0,0,false,0,0,0,0,0)).2.2.1=true)
    (s:List Int) (hs12:s.length<12) (D:El T72) (W0:El T77) (K0:El T78) (bg0:Int) (b8:List Int) :
    ∃ W' K',F3 ((p,u),s,D,v,W0,K0,bg0) (t:Int) (W,K,bg)=some (b32 D s.length ((hs.getD t (0,0,false,0,0,0,0,0)).2.2.2.1,(hs.getD t (0,0,false,0,0,0,0,0)).2.1),(a2d p t hs v hist (s.length:Int)).2.1.1,(a2d p t hs v hist (s.length:Int)).2.1.2.1,(a2d p t hs v hist (s.length:Int)).2.1.2.2,W',K',bg) ∧
      Inv p u W' K' bg (a2d p t hs v hist (s.length:Int)).2.1 (a2d p t hs v hist (s.length:Int)).1 (a2d p t hs v hist (s.length:Int)).2.2 (mkL b8 (opC hist (hs.getD t (0,0,false,0,0,0,0,0))) (hs.getD t (0,0,false,0,0,0,0,0)).2.1 (hs.getD t (0,0,false,0,0,0,0,0)).2.2.2.1 (s.length:Int) mk):=by
  have hul:=Q2 hu;have ht2:t<2:=by omega
  have h6:=a2p hu I;have r:=(I.rh t ht).op hin;have rr:=I.rh t ht;obtain ⟨k0,k1,k2,k3,k4,k5⟩:=a1O t ht2;generalize hh:hs.getD t (0,0,false,0,0,0,0,0)=h at r rr hin ⊢;have hkl:h.2.2.2.1.toNat<hist.length:=by have:=r.c0; have:=r.c1; omega
  have hcall:=a6e hp (o:=(opC hist h).toNat) (by have:=r.o0; have:=r.o1; omega);have hlen8:(p.getD (opC hist h).toNat []).length≤8:=by
    unfold a4a at hcall; simp only [Bool.and_eq_true,decide_eq_true_eq] at hcall; exact hcall.1.2
  have hln:h.2.1.toNat<(p.getD (opC hist h).toNat []).length:=by have:=r.l0; have:=r.l1; omega
  have hlA:lnA p hist h=(p.getD (opC hist h).toNat []).getD h.2.1.toNat (0,0,0,0):=rfl;generalize hl:(p.getD (opC hist h).toNat []).getD h.2.1.toNat (0,0,0,0)=l at hlA;have ok:okL l ((p.getD (opC hist h).toNat []).length:Int)=true:=by
    unfold a4a at hcall;simp only [Bool.and_eq_true,List.all_eq_true] at hcall;rw [← hl]; exact hcall.2.2 _ (a0V hln)
  have hP:=b7L (u:=u) ht2 (bg:=bg) r (by have:=r.c1; omega) (I.cc _ hkl) rr.r0 ((hul.2.2 t).1) s hs12 D v W0 K0 bg0 hl ok hlen8
  by_cases h7:l.1=7
  · rw [if_pos h7] at hP;have eF2:a2d p t hs v hist (s.length:Int)=(hs.set t (h.1,h.2.1+1,false,h.2.2.2),v,hist.set h.2.2.2.1.toNat (a2w (hist.getD h.2.2.2.1.toNat (0,0,0,0,0,0)) (rgU h l.2.1) (s.length:Int))):=by
      unfold a2d; rw [hh,hlA,if_pos h7]
    rw [eF2];refine ⟨_,_,hP,?_⟩;dsimp only;have hi:∀ q,q<16→q≠t*8→q≠t*8+3→b7 T77 (f8 T77 (p5 T77 (f8 T77 W (t*8+3) (h.2.1+1)) (t*8+1) false) (t*8) (b7 T77 W (t*8)+1)) q=b7 T77 W q:=fun q hq n1 n2=>by
      rw [l9 _ k2 (by rw [a5x]; exact hq),if_neg n1,U9 _ k1,l9 W k4 (by rw [a5x]; exact hq),if_neg n2]
    have hi0:b7 T77 (f8 T77 (p5 T77 (f8 T77 W (t*8+3) (h.2.1+1)) (t*8+1) false) (t*8) (b7 T77 W (t*8)+1)) (t*8)=b7 T77 W (t*8)+1:=by
      rw [l9 _ k2 (by rw [a5x]; omega),if_pos rfl]
    have hb:∀ q,q<16→m6 T77 (f8 T77 (p5 T77 (f8 T77 W (t*8+3) (h.2.1+1)) (t*8+1) false) (t*8) (b7 T77 W (t*8)+1)) q=if q=t*8+1 then false else m6 T77 W q:=fun q hq=>by
      rw [M2 _ k2,a0a _ k1 (by rw [a5x]; exact hq),M2 W k4]
    generalize f8 T77 (p5 T77 (f8 T77 W (t*8+3) (h.2.1+1)) (t*8+1) false) (t*8) (b7 T77 W (t*8)+1)=W2 at hi hi0 hb;have hop:∀ k,k<hist.length→((hist.set h.2.2.2.1.toNat (a2w (hist.getD h.2.2.2.1.toNat (0,0,0,0,0,0)) (rgU h l.2.1) (s.length:Int))).getD k (0,0,0,0,0,0)).2.2.1=(hist.getD k (0,0,0,0,0,0)).2.2.1:=fun k hk=>by
      rw [L9]
      by_cases c:h.2.2.2.1.toNat=k
      · rw [if_pos ⟨c,hkl⟩,← c]; rfl
      · rw [if_neg fun q=>c q.1]
    refine ⟨by rw [List.length_set]; exact I.hl,fun t' ht'=>?_,by rw [List.length_set]; exact I.bg,?_,fun k hk=>?_,I.cv,by rw [a95,List.length_set]; exact I.ml,fun k hk=>?_⟩
    · rw [L9]
      by_cases c:t=t'
      · subst c;rw [if_pos ⟨rfl,by rw [I.hl]; exact ht⟩];have h1:=rr.r0;have h2:=r.r1;exact ⟨by rw [hb _ (by omega),if_pos rfl],by omega,by omega,fun _=>by rw [hi0]; exact r.cs,fun q=>by cases q⟩
      · rw [if_neg fun q=>c q.1];have h2':t'<2:=by omega
        exact a8E (fun q q1 q2=>hi q (by omega) (by omega) (by omega)) (by rw [hb _ (by omega),if_neg (by omega)]) (by rw [List.length_set]; exact Nat.le_refl _) hop (I.rh t' ht')
    · rw [List.length_set,a82 (W':=W2) (W:=W) hul.2.1 (fun t' ht'=>by
        have h2':t'<2:=by omega
        by_cases c:t'=t
        · subst c;unfold cnt;rw [hi0,hb _ (by omega),if_pos rfl,rr.bo,hin];simp
        · exact a6Q (hi _ (by omega) (by omega) (by omega)) (by rw [hb _ (by omega),if_neg (by omega)]))]
      exact I.tt
    · rw [List.length_set] at hk;rw [b5p K (by omega) (by omega),L9]
      by_cases c:k=h.2.2.2.1.toNat
      · rw [if_pos c,if_pos ⟨c.symm,hkl⟩,I.cc _ hkl]; rfl
      · rw [if_neg c,if_neg fun q=>c q.1.symm]; exact I.cc k hk
    · rw [List.length_set] at hk;rw [L9]
      by_cases c:h.2.2.2.1.toNat=k
      · rw [if_pos ⟨c,hkl⟩];obtain ⟨f1,f2,f3,f4,f5,f6⟩:=I.ft _ hkl;have a1:rB l.2.1 4=true:=by
          unfold okL at ok;rw [if_neg (by omega),if_neg (by omega),if_neg (by omega),if_neg (by omega),if_neg (by omega),if_neg (by omega),if_pos h7,Bool.and_eq_true] at ok;exact ok.1
        have r9:=r.r9 _ a1;unfold a2w b9r;simp only;exact ⟨f1,f2,f3,by omega,f5,by omega⟩
      · rw [if_neg fun q=>c q.1]; exact I.ft k hk
  · rw [if_neg h7] at hP;have hnl:h.2.1.toNat+1<(p.getD (opC hist h).toNat []).length:=b5M hcall hln (by rw [hl]; exact h7);have sW:=b77 ht2 ok (f8 T77 W (t*8+3) (h.2.1+1)) v;have sU:=b3r ok (h.1,h.2.1+1,h.2.2) v;have eW:∀ a,rB a 4=true→rgW (f8 T77 W (t*8+3) (h.2.1+1)) (t*8) a=rgU (h.1,h.2.1+1,h.2.2) a:=fun a ha=>by
      rw [a74 ht2 W _ ha,r.rg a ha,b0R h (h.2.1+1) a ha]
    have eL:b7 T77 (f8 T77 W (t*8+3) (h.2.1+1)) (t*8+3)=h.2.1+1:=by
      rw [l9 W k4 (by rw [a5x]; omega),if_pos rfl]
    rw [eL] at sW;have cg:=b3U ok eW (h.2.1+1) v;have s9:=b9C ok (r:=rgU (h.1,h.2.1+1,h.2.2)) (fun a ha=>by rw [b0R h (h.2.1+1) a ha]; exact r.r9 a ha) (ln:=h.2.1+1) (by have:=r.l0; omega) I.cv;obtain ⟨w1,w2,w3,w4,w5⟩:=sW;obtain ⟨u1,u2,u3,u4,u5,u6⟩:=sU;have ev:(doW l (t*8) (f8 T77 W (t*8+3) (h.2.1+1)) v).2=(doU l (h.1,h.2.1+1,h.2.2) v).2:=by rw [w3,u3,cg.2]
    have hiO:∀ q,q<16→q≠t*8+3→b7 T77 (f8 T77 W (t*8+3) (h.2.1+1)) q=b7 T77 W q:=fun q hq n=>by
      rw [l9 W k4 (by rw [a5x]; exact hq),if_neg n]
    have hbO:∀ q,m6 T77 (f8 T77 W (t*8+3) (h.2.1+1)) q=m6 T77 W q:=fun q=>M2 W k4;rw [ev] at hP;have eF2:a2d p t hs v hist (s.length:Int)=(hs.set t (doU l (h.1,h.2.1+1,h.2.2) v).1,(doU l (h.1,h.2.1+1,h.2.2) v).2,hist):=by
      unfold a2d; rw [hh,hlA,if_neg h7]
    rw [eF2];refine ⟨_,K,hP,?_⟩;dsimp only;generalize (doW l (t*8) (f8 T77 W (t*8+3) (h.2.1+1)) v).1=W2 at w1 w2 w4 w5;have hi:∀ q,q<16→(q<t*8+3∨t*8+8≤q)→b7 T77 W2 q=b7 T77 W q:=fun q hq c=>by rw [w4 q hq c,hiO q hq (by omega)]
    have hb:∀ q,m6 T77 W2 q=m6 T77 W q:=fun q=>by rw [w5,hbO]
    generalize (doU l (h.1,h.2.1+1,h.2.2) v).1=h2 at u1 u2 u4 u5 u6;rw [u3];have e2:spc l (rgW (f8 T77 W (t*8+3) (h.2.1+1)) (t*8)) (h.2.1+1) v=spc l (rgW (f8 T77 W (t*8+3) (h.2.1+1)) (t*8)) (h.2.1+1) v:=rfl;simp only at u2 u4 u5 u6;have eo:opC hist h2=opC hist h:=by unfold opC; rw [u6]
    refine ⟨by rw [List.length_set]; exact I.hl,fun t' ht'=>?_,I.bg,?_,I.cc,s9.2.2,by rw [a95]; exact I.ml,I.ft⟩
    · rw [L9]
      by_cases c:t=t'
      · subst c;rw [if_pos ⟨rfl,by rw [I.hl]; exact ht⟩];have i0:=hi (t*8) (by omega) (by omega);refine ⟨by rw [hb,rr.bo,u5],by rw [i0]; exact rr.r0,by rw [i0]; exact rr.r1,fun q=>(by rw [u5,hin] at q; cases q),fun _=>?_⟩;refine ⟨by rw [i0]; exact r.r1,by rw [i0,u4]; exact r.cs,by rw [hi _ (by omega) (by omega),u6]; exact r.cl,by rw [w2,u2,cg.2],fun a ha=>by rw [w1 a ha,u1 a ha,cg.1 a ha],fun a ha=>by rw [u1 a ha]; exact s9.1 a ha,by rw [u6]; exact r.c0,by rw [u6]; exact r.c1,by rw [eo]; exact r.o0,by rw [eo]; exact r.o1,by rw [u2]; exact s9.2.1.1,by rw [u2,eo]; exact s9.2.1.2⟩
      · rw [if_neg fun q=>c q.1];have h2':t'<2:=by omega
        exact a8E (fun q q1 q2=>hi q (by omega) (by omega)) (hb _) (Nat.le_refl _) (fun _ _=>rfl) (I.rh t' ht')
    · rw [a82 (W':=W2) (W:=W) hul.2.1 (fun t' ht'=>by
        have h2':t'<2:=by omega
        exact a6Q (hi _ (by omega) (by omega)) (hb _))]
      exact I.tt
theorem a9y {p:Cd} {u:Us} (hp:K1 p=true) (hu:J9 p u=true) {W:El T77} {K:El T78} {bg:Int} {v:C3} {hs:List Hd} {hist:ZH} {mk:List Int} (I:Inv p u W K bg v hs hist mk) {t:Nat} (ht:t<u.length) (hin:(hs.getD t (0,0,false,0,0,0,0,0)).2.2.1=false) (hr:b7 T77 W (t*8)<(u.getD t []).length) {n:Int} (hn:0≤n∧n≤100) :
    hist.length<6∧Inv p u (F5 T77 Y1 W (t*8) (b7 T77 W (t*8),true,bg,0,0,1,0,0)) (F5 T78 Y0 K (bg.toNat*6) ((t:Int),0,(u.getD t []).getD (b7 T77 W (t*8)).toNat 0,0,2*n+1,0)) (bg+1) v
      (hs.set t ((hs.getD t (0,0,false,0,0,0,0,0)).1+1,0,true,(hist.length:Int),0,1,0,0)) (hist++[((t:Int),0,(u.getD t []).getD (b7 T77 W (t*8)).toNat 0,0,2*n+1,0)]) (mk++[-1]):=by
  have hul:=Q2 hu;have ht2:t<2:=by omega
  have h6:=a2p hu I;have rr:=I.rh t ht;obtain ⟨k0,k1,k2,k3,k4,k5⟩:=a1O t ht2;have h3:=(hul.2.2 t).1;have hbf:m6 T77 W (t*8+1)=false:=by rw [rr.bo]; exact hin
  have hlt:hist.length<6:=by
    have h0:=b0m hu (I.rh 0 (by omega));have ct:cnt W t≤2:=by unfold cnt; rw [hbf,if_neg (by simp)]; omega
    have ht':=I.tt
    split at ht'
    · rename_i c;have h1:=b0m hu (I.rh 1 c);have:t=0∨t=1:=by omega
      rcases this with rfl|rfl<;>omega
    · have:t=0:=by omega
      subst this; omega
  refine ⟨hlt,?_⟩;have hbg:=I.bg;have hbn:bg.toNat=hist.length:=by omega
  have hpw:=b2l t ht2;have es:Ty.size Y1=8:=rfl;have hi:∀ {q:Nat} {i:IntKind},kAt T77 q=some (some i)→b7 T77 (F5 T77 Y1 W (t*8) (b7 T77 W (t*8),true,bg,0,0,1,0,0)) q=if t*8≤q∧q<t*8+8 then b7 Y1 (b7 T77 W (t*8),true,bg,0,0,1,0,0) (q - t*8) else b7 T77 W q:=fun hq=>by
    rw [a1P Y1 W _ hpw hq,es]
  have hb:∀ {q:Nat},kAt T77 q=some none→m6 T77 (F5 T77 Y1 W (t*8) (b7 T77 W (t*8),true,bg,0,0,1,0,0)) q=if t*8≤q∧q<t*8+8 then m6 Y1 (b7 T77 W (t*8),true,bg,0,0,1,0,0) (q - t*8) else m6 T77 W q:=fun hq=>by
    rw [a4u Y1 W _ hpw hq,es]
  generalize F5 T77 Y1 W (t*8) (b7 T77 W (t*8),true,bg,0,0,1,0,0)=W2 at hi hb;have i0:b7 T77 W2 (t*8)=b7 T77 W (t*8):=by rw [hi k2,if_pos (by omega),Nat.sub_self]; rfl
  have b1:m6 T77 W2 (t*8+1)=true:=by rw [hb k1,if_pos (by omega),show t*8+1 - t*8=1 by omega]; rfl
  have i2:b7 T77 W2 (t*8+2)=bg:=by rw [hi k3,if_pos (by omega),show t*8+2 - t*8=2 by omega]; rfl
  have i3:b7 T77 W2 (t*8+3)=0:=by rw [hi k4,if_pos (by omega),show t*8+3 - t*8=3 by omega]; rfl
  have ir:∀ a,rB a 4=true→rgW W2 (t*8) a=rgU ((hs.getD t (0,0,false,0,0,0,0,0)).1+1,0,true,(hist.length:Int),0,1,0,0) a:=fun a ha=>by
    unfold rgW;have ha':=r7.1 ha;rw [hi (Q9 ht2 ha),if_pos (by omega),show t*8+4+a.toNat*1 - t*8=4+a.toNat*1 by omega];rcases a1I ha with rfl|rfl|rfl|rfl<;>rfl
  have r9:∀ a,rB a 4=true→0≤rgU ((hs.getD t (0,0,false,0,0,0,0,0)).1+1,0,true,(hist.length:Int),0,1,0,0) a∧rgU ((hs.getD t (0,0,false,0,0,0,0,0)).1+1,0,true,(hist.length:Int),0,1,0,0) a≤9:=fun a ha=>by
    have z0:(0:Int)≤0∧(0:Int)≤9:=by decide
    have z1:(0:Int)≤1∧(1:Int)≤9:=by decide
    rcases a1I ha with rfl|rfl|rfl|rfl
    · exact z0
    · exact z1
    · exact z0
    · exact z0
  have oth:∀ t',t'<2→t'≠t→(∀ q,t'*8≤q→q<t'*8+8→b7 T77 W2 q=b7 T77 W q)∧m6 T77 W2 (t'*8+1)=m6 T77 W (t'*8+1):=fun t' h2' c=>by
    refine ⟨fun q q1 q2=>?_,by rw [hb (a1O t' h2').2.1,if_neg (by omega)]⟩
    by_cases cb:q=t'*8+1
    · subst cb;have z:∀ X:El T77,b7 T77 X (t'*8+1)=0:=fun X=>by
        have:t'=0∨t'=1:=by omega
        rcases this with rfl|rfl<;>rfl
      rw [z,z]
    · have hk:kAt T77 q=some (some .i64):=by
        have hk8:∀ q<16,q % 8≠1→kAt T77 q=some (some .i64):=by decide +kernel
        exact hk8 q (by omega) (by omega)
      rw [hi hk,if_neg (by omega)]
  have hop:=(hul.2.2 t).2 _ (a0V (d:=0) (show (b7 T77 W (t*8)).toNat<(u.getD t []).length by have:=rr.r0; omega));generalize (u.getD t []).getD (b7 T77 W (t*8)).toNat 0=op at hop ⊢;have hget:(hist++[((t:Int),(0:Int),op,(0:Int),2*n+1,(0:Int))]).getD hist.length (0,0,0,0,0,0)=((t:Int),0,op,0,2*n+1,0):=by
    rw [List.getD_eq_getElem?_getD,List.getElem?_append_right (Nat.le_refl _),Nat.sub_self]; rfl
  have hgo:∀ k,k<hist.length→(hist++[((t:Int),(0:Int),op,(0:Int),2*n+1,(0:Int))]).getD k (0,0,0,0,0,0)=hist.getD k (0,0,0,0,0,0):=fun k hk=>by
    rw [List.getD_eq_getElem?_getD,List.getElem?_append_left hk,← List.getD_eq_getElem?_getD]
  have hlen':(hist++[((t:Int),(0:Int),op,(0:Int),2*n+1,(0:Int))]).length=hist.length+1:=by simp
  refine ⟨by rw [List.length_set]; exact I.hl,fun t' ht'=>?_,by rw [hlen']; omega,?_,fun k hk=>?_,I.cv,by rw [hlen',List.length_append,I.ml]; rfl,fun k hk=>?_⟩
  · rw [L9]
    by_cases c:t=t'
    · subst c;rw [if_pos ⟨rfl,by rw [I.hl]; exact ht⟩];have hcl:=a6e hp (o:=op.toNat) (by omega);have hl1:1≤(p.getD op.toNat []).length:=by
        unfold a4a at hcl; simp only [Bool.and_eq_true,decide_eq_true_eq] at hcl; exact hcl.1.1
      have eop:opC (hist++[((t:Int),(0:Int),op,(0:Int),2*n+1,(0:Int))]) ((hs.getD t (0,0,false,0,0,0,0,0)).1+1,0,true,(hist.length:Int),0,1,0,0)=op:=by
        unfold opC;simp only [Int.toNat_natCast];rw [hget]
      refine ⟨b1,by rw [i0]; exact rr.r0,by rw [i0]; exact rr.r1,fun q=>(by cases q),fun _=>?_⟩;exact ⟨by rw [i0]; exact hr,by rw [i0]; simp only; rw [rr.no hin],by rw [i2]; exact hbg,i3,ir,r9,by simp only; omega,by rw [hlen']; simp only; omega,by rw [eop]; exact hop.1,by rw [eop]; exact hop.2,Int.le_refl 0,by rw [eop]; simp only; omega⟩
    · rw [if_neg fun q=>c q.1];have o:=oth t' (by omega) (fun q=>c q.symm);exact a8E o.1 o.2 (by rw [hlen']; omega) (fun k hk=>by rw [hgo k hk]) (I.rh t' ht')
  · rw [hlen'];have tt:=I.tt;have ct:cnt W2 t=cnt W t+1:=by unfold cnt; rw [i0,b1,hbf]; simp
    have co:∀ t',t'<2→t'≠t→cnt W2 t'=cnt W t':=fun t' h2' c=>by
      have o:=oth t' h2' c;exact a6Q (o.1 _ (by omega) (by omega)) o.2
    by_cases c1:1<u.length
    · rw [if_pos c1] at tt ⊢;have:t=0∨t=1:=by omega
      rcases this with rfl|rfl
      · rw [ct,co 1 (by omega) (by omega)]; omega
      · rw [ct,co 0 (by omega) (by omega)]; omega
    · rw [if_neg c1] at tt ⊢;have:t=0:=by omega
      subst this;rw [ct]; omega
  · rw [hlen'] at hk;rw [hbn,b5q K hlt (by omega)]
    by_cases c:k=hist.length
    · subst c; rw [if_pos rfl,hget]
    · rw [if_neg c,hgo k (by omega)]; exact I.cc k (by omega)
  · rw [hlen'] at hk
    by_cases c:k=hist.length
    · subst c;rw [hget];have:=(a1F hp).2;unfold b9r;simp only;omega
    · rw [hgo k (by omega)]; exact I.ft k (by omega)
end Go.Proofs.YtanaeefeggokkaaGreat
