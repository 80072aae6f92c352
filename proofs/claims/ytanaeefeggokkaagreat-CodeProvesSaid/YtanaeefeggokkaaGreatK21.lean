import Derived.Test.YtanaeefeggokkaaGreatK14
import Derived.Test.YtanaeefeggokkaaGreatK16
namespace Go.Proofs.YtanaeefeggokkaaGreat
open Go.RowKit
set_option linter.unusedVariables false
set_option linter.unusedSimpArgs false
set_option maxRecDepth 10000
def opD (hist:ZH) (i:Int):Int:=(hist.getD i.toNat (0,0,0,0,0,0)).2.2.1
def mkd (hist:ZH) (b8:List Int) (d:Int×Int):Bool:=decide (d.2=b8.getD (opD hist d.1).toNat 0)
def a2R (hist:ZH) (b8:List Int):List (Int×Int)→List Int→List Int
  | [],acc=>acc
  | d::r,acc=>if mkd hist b8 d=true∧acc.contains d.1=false then a2R hist b8 r (acc++[d.1]) else a2R hist b8 r acc
structure MkOk (hist:ZH) (b8:List Int) (dl:List (Int×Int)) (mk:List Int):Prop where
  ln:mk.length=hist.length
  rg:∀ k,k<dl.length→0≤(dl.getD k (0,0)).1∧(dl.getD k (0,0)).1<(hist.length:Int)
  p1:∀ i,i<hist.length→mk.getD i 0=-1∨∃ k,k<dl.length∧mk.getD i 0=(k:Int)∧(dl.getD k (0,0)).1=(i:Int)∧mkd hist b8 (dl.getD k (0,0))=true
  p2:∀ k,k<dl.length→mkd hist b8 (dl.getD k (0,0))=true→(k:Int)≤mk.getD (dl.getD k (0,0)).1.toNat 0
theorem b9H (u:Us) (b8:List Int):MkOk (st0 u).hist b8 (st0 u).dl [] :=
  ⟨rfl,fun k hk=>absurd hk (by simp [st0]),fun i hi=>absurd hi (by simp [st0]),fun k hk=>absurd hk (by simp [st0])⟩
def a2a (mk:List Int) (dl:List (Int×Int)):List Int:=(List.range dl.length).flatMap fun k=>if mk.getD (dl.getD k (0,0)).1.toNat 0=(k:Int) then [(dl.getD k (0,0)).1] else []
theorem a70 {hist:ZH} {b8:List Int} {dl:List (Int×Int)} {mk:List Int} (M:MkOk hist b8 dl mk):∀ (m:Nat),m≤dl.length→∀ (acc:List Int),(∀ i:Int,0≤i→i<(hist.length:Int)→(acc.contains i=true↔(m:Int)≤mk.getD i.toNat 0)) →
    a2R hist b8 (dl.take m).reverse acc=acc++((List.range m).reverse.flatMap fun k=>if mk.getD (dl.getD k (0,0)).1.toNat 0=(k:Int) then [(dl.getD k (0,0)).1] else [])
  | 0,_,acc,_=>by simp [a2R]
  | m+1,hm,acc,ha=>by
    have hg:=List.getElem?_eq_getElem (show m<dl.length by omega);have hd:=m9 (d:=((0:Int),(0:Int))) hg;have rg:=M.rg m (by omega);have p2:=M.p2 m (by omega);rw [take_one hg,List.reverse_append,List.reverse_singleton,List.singleton_append];rw [hd] at rg p2;rw [List.range_succ,List.reverse_append,List.reverse_singleton,List.singleton_append,List.flatMap_cons,hd];generalize dl[m]=d at hg hd rg p2 ⊢;have ha0:=ha d.1 rg.1 rg.2;have p1:=M.p1 d.1.toNat (by omega);have key:(mkd hist b8 d=true∧acc.contains d.1=false)↔mk.getD d.1.toNat 0=(m:Int):=by
      constructor
      · rintro ⟨a,b⟩
        have h1:=p2 a;have h2:¬ ((m+1:Nat):Int)≤mk.getD d.1.toNat 0:=fun q=>by rw [ha0.2 q] at b; cases b
        omega
      · intro e;refine ⟨?_,?_⟩
        · rcases p1 with q|⟨k,hk,q1,q2,q3⟩
          · omega
          · have:k=m:=by omega
            subst this;rw [hd] at q3;exact q3
        · cases hc:acc.contains d.1 with
          | false=>rfl
          | true=>have:=ha0.1 hc; omega
    unfold a2R
    by_cases c:mk.getD d.1.toNat 0=(m:Int)
    · rw [if_pos (key.2 c),if_pos c,a70 M m (by omega) (acc++[d.1]) (fun i h0 h1=>?_)]
      · simp
      · have hi:=ha i h0 h1;have e:(acc++[d.1]).contains i=(acc.contains i || decide (i=d.1)):=by
          rw [Bool.eq_iff_iff]; simp
        rw [e,Bool.or_eq_true,hi,decide_eq_true_eq]
        constructor
        · rintro (q|q)
          · omega
          · subst q; omega
        · intro q
          by_cases z:mk.getD i.toNat 0=(m:Int)
          · right
            rcases M.p1 i.toNat (by omega) with y|⟨k,hk,y1,y2,y3⟩
            · omega
            · have:k=m:=by omega
              subst this;rw [hd] at y2;omega
          · left; omega
    · rw [if_neg (fun q=>c (key.1 q)),if_neg c,a70 M m (by omega) acc (fun i h0 h1=>?_)]
      · simp
      · rw [ha i h0 h1]
        constructor
        · intro q; omega
        · intro q
          by_cases z:mk.getD i.toNat 0=(m:Int)
          · exfalso;rcases M.p1 i.toNat (by omega) with y|⟨k,hk,y1,y2,y3⟩
            · omega
            · have:k=m:=by omega
              subst this;rw [hd] at y2;rw [y2] at c;exact c (by rw [Int.toNat_natCast]; exact z)
          · omega
theorem a7a {α:Type} (f:Nat→List α) (hf:∀ k,(f k).length≤1):∀ n,((List.range n).reverse.flatMap f).reverse=(List.range n).flatMap f
  | 0=>rfl
  | n+1=>by
    rw [List.range_succ,List.reverse_append,List.reverse_singleton,List.singleton_append,List.flatMap_cons,List.reverse_append,a7a f hf n,List.flatMap_append];congr 1;rw [List.flatMap_cons,List.flatMap_nil,List.append_nil];have:=hf n
    match h:f n with
    | []=>rfl
    | [a]=>rfl
    | a::b::r=>rw [h] at this; simp at this
theorem b7D {hist:ZH} {b8:List Int} {dl:List (Int×Int)} {mk:List Int} (M:MkOk hist b8 dl mk):(a2R hist b8 dl.reverse []).reverse=a2a mk dl:=by
  have h:=a70 M dl.length (Nat.le_refl _) [] (fun i h0 h1=>?_)
  · rw [List.take_length] at h;rw [h,List.nil_append,a7a]
    · rfl
    · intro k; split<;>simp
  · constructor
    · intro q; simp at q
    · intro q;exfalso;rcases M.p1 i.toNat (by omega) with y|⟨k,hk,y1,_,_⟩<;>omega
theorem b36 {p:Cd} {u:Us} (hp:K1 p=true) (hu:J9 p u=true) {st:St} (G:Good p u st) {t:Nat} (ht:t<u.length) (hL:a2J u st t=true) (h12:st.sc.length<12) {b8:List Int} (hm:b8.length=p.length) {mk:List Int} (M:MkOk st.hist b8 st.dl mk) (hdl:st.dl.length=st.sc.length) :
    MkOk (N5 p u st t).hist b8 (N5 p u st t).dl (mkS u b8 st t mk):=by
  obtain ⟨D,W,K,bg,mk0,R⟩:=G.rl;obtain ⟨W2,K2,bg2,mk2,I2,hin⟩:=b2J hp hu R ht hL (n:=(st.sc.length:Int)) (by omega);have r:=(I2.rh t ht).op hin
  -- the history behind the beginning
  have hb:∃ e,(V8 u st.hs st.hist t (st.sc.length:Int)).2=st.hist++e∧((st.hs.getD t (0,0,false,0,0,0,0,0)).2.2.1=true∧e=[]∨¬ (st.hs.getD t (0,0,false,0,0,0,0,0)).2.2.1=true∧e.length=1 ):=by
    unfold V8
    split
    · rename_i c; exact ⟨[],by simp,.inl ⟨c,rfl⟩⟩
    · rename_i c; exact ⟨_,rfl,.inr ⟨c,rfl⟩⟩
  obtain ⟨e,he,hcase⟩:=hb;have hf:(N5 p u st t).hist.length=(V8 u st.hs st.hist t (st.sc.length:Int)).2.length∧∀ i,opD (N5 p u st t).hist i=opD (V8 u st.hs st.hist t (st.sc.length:Int)).2 i:=by
    show (a2d p t _ st.v _ (st.sc.length:Int)).2.2.length=_∧∀ i,opD (a2d p t _ st.v _ (st.sc.length:Int)).2.2 i=_;unfold a2d
    split
    · refine ⟨by rw [List.length_set],fun i=>?_⟩;unfold opD;rw [L9]
      split
      · rename_i c; rw [← c.1]; rfl
      · rfl
    · exact ⟨rfl,fun i=>rfl⟩
  have hdl2:(N5 p u st t).dl=st.dl++[(((V8 u st.hs st.hist t (st.sc.length:Int)).1.getD t (0,0,false,0,0,0,0,0)).2.2.2.1,((V8 u st.hs st.hist t (st.sc.length:Int)).1.getD t (0,0,false,0,0,0,0,0)).2.1)]:=rfl;have hmk:mkS u b8 st t mk=mkL b8 (opC (V8 u st.hs st.hist t (st.sc.length:Int)).2 ((V8 u st.hs st.hist t (st.sc.length:Int)).1.getD t (0,0,false,0,0,0,0,0))) ((V8 u st.hs st.hist t (st.sc.length:Int)).1.getD t (0,0,false,0,0,0,0,0)).2.1 ((V8 u st.hs st.hist t (st.sc.length:Int)).1.getD t (0,0,false,0,0,0,0,0)).2.2.2.1 (st.sc.length:Int) (if (st.hs.getD t (0,0,false,0,0,0,0,0)).2.2.1=true then mk else mk++[-1]):=rfl;rw [hdl2,hmk];generalize (N5 p u st t).hist=hist2 at hf ⊢;generalize (V8 u st.hs st.hist t (st.sc.length:Int)).1.getD t (0,0,false,0,0,0,0,0)=h at r ⊢;generalize (V8 u st.hs st.hist t (st.sc.length:Int)).2=hist1 at r hf he ⊢;obtain ⟨hl2,hop2⟩:=hf;have c0:=r.c0;have c1:=r.c1;have o0:=r.o0;have o1:=r.o1
  -- the b8 behind the beginning
  obtain ⟨mk1,hmk1⟩:∃ mk1,mk1=(if (st.hs.getD t (0,0,false,0,0,0,0,0)).2.2.1=true then mk else mk++[-1]):=⟨_,rfl⟩;rw [← hmk1];have hl1:hist1.length=st.hist.length+e.length:=by rw [he,List.length_append]
  have m1:mk1.length=hist1.length∧(∀ i,i<st.hist.length→mk1.getD i 0=mk.getD i 0)∧∀ i,st.hist.length≤i→i<hist1.length→mk1.getD i 0=-1:=by
    have ln:=M.ln;rcases hcase with ⟨c,rfl⟩|⟨c,hc⟩
    · rw [if_pos c] at hmk1;rw [hmk1];exact ⟨by rw [hl1]; simp; exact ln,fun i _=>rfl,fun i h1 h2=>by rw [hl1] at h2; simp at h2; omega⟩
    · rw [if_neg c] at hmk1;rw [hmk1];refine ⟨by rw [hl1,List.length_append,hc,ln]; rfl,fun i hi=>a3a (by omega),fun i h1 h2=>?_⟩;have:i=mk.length:=by omega
      subst this;exact a0N
  have hop1:∀ i:Int,0≤i→i<(st.hist.length:Int)→opD hist1 i=opD st.hist i:=fun i h0 h1=>by
    unfold opD;rw [he,List.getD_eq_getElem?_getD,List.getElem?_append_left (by omega),← List.getD_eq_getElem?_getD]
  have hmd:∀ k,k<st.dl.length→mkd hist2 b8 (st.dl.getD k (0,0))=mkd st.hist b8 (st.dl.getD k (0,0)):=fun k hk=>by
    have:=M.rg k hk;unfold mkd;rw [hop2,hop1 _ this.1 this.2]
  have gd1:∀ k,k<st.dl.length→(st.dl++[(h.2.2.2.1,h.2.1)]).getD k (0,0)=st.dl.getD k (0,0):=fun k hk=>a3a hk;have gd2:(st.dl++[(h.2.2.2.1,h.2.1)]).getD st.dl.length (0,0)=(h.2.2.2.1,h.2.1):=a0N;have hmn:mkd hist2 b8 (h.2.2.2.1,h.2.1)=decide (h.2.1=b8.getD (opC hist1 h).toNat 0):=by
    unfold mkd;rw [hop2];rfl
  have hmL:∀ i,i<hist2.length→(mkL b8 (opC hist1 h) h.2.1 h.2.2.2.1 (st.sc.length:Int) mk1).getD i 0=if mkd hist2 b8 (h.2.2.2.1,h.2.1)=true∧h.2.2.2.1.toNat=i then (st.dl.length:Int) else mk1.getD i 0:=fun i hi=>by
    unfold mkL
    by_cases c:h.2.1=b8.getD (opC hist1 h).toNat 0
    · have ct:mkd hist2 b8 (h.2.2.2.1,h.2.1)=true:=by rw [hmn]; exact decide_eq_true c
      rw [if_pos ⟨by omega,c.symm⟩,L9]
      by_cases c2:h.2.2.2.1.toNat=i
      · rw [if_pos ⟨c2,by omega⟩,if_pos ⟨ct,c2⟩,hdl]
      · rw [if_neg fun q=>c2 q.1,if_neg fun q=>c2 q.2]
    · have ct:¬ mkd hist2 b8 (h.2.2.2.1,h.2.1)=true:=by rw [hmn,decide_eq_true_eq]; exact c
      rw [if_neg fun q=>c q.2.symm,if_neg fun q=>ct q.1]
  refine ⟨by rw [a95,m1.1,hl2],fun k hk=>?_,fun i hi=>?_,fun k hk hmd2=>?_⟩
  · rw [List.length_append,List.length_singleton] at hk
    by_cases c:k=st.dl.length
    · subst c; rw [gd2]; exact ⟨c0,by rw [hl2]; exact c1⟩
    · rw [gd1 k (by omega)];have:=M.rg k (by omega);exact ⟨this.1,by omega⟩
  · rw [hmL i hi]
    by_cases c:mkd hist2 b8 (h.2.2.2.1,h.2.1)=true∧h.2.2.2.1.toNat=i
    · rw [if_pos c];exact .inr ⟨st.dl.length,by rw [List.length_append,List.length_singleton]; omega,rfl,by rw [gd2]; simp only; omega,by rw [gd2]; exact c.1⟩
    · rw [if_neg c]
      by_cases c2:i<st.hist.length
      · rw [m1.2.1 i c2];rcases M.p1 i c2 with q|⟨k,q1,q2,q3,q4⟩
        · exact .inl q
        · exact .inr ⟨k,by rw [List.length_append,List.length_singleton]; omega,q2,by rw [gd1 k q1]; exact q3,by rw [gd1 k q1,hmd k q1]; exact q4⟩
      · exact .inl (m1.2.2 i (by omega) (by omega))
  · rw [List.length_append,List.length_singleton] at hk
    by_cases c:k=st.dl.length
    · subst c;rw [gd2] at hmd2 ⊢;dsimp only;rw [hmL _ (by omega),if_pos ⟨hmd2,rfl⟩];omega
    · have hk':k<st.dl.length:=by omega
      rw [gd1 k hk'] at hmd2 ⊢;have rg:=M.rg k hk';rw [hmL _ (by omega)]
      split
      · omega
      · rw [m1.2.1 _ (by omega)];rw [hmd k hk'] at hmd2;exact M.p2 k hk' hmd2
theorem a9r (t:List Int) (a k:Nat) (x:Int):(t.set a x).getD k 0=if a=k∧a<t.length then x else t.getD k 0:=by
  rw [List.getD_eq_getElem?_getD,List.getD_eq_getElem?_getD,List.getElem?_set]
  by_cases e:a=k
  · subst e
    by_cases h:a<t.length
    · simp [h]
    · simp [h]
  · simp [e]
theorem b4m {s t:List Int} (hl:s.length=t.length) (h:∀ k,k<s.length→s.getD k 0=t.getD k 0):s=t:=by
  refine List.ext_getElem hl fun k h1 h2=>?_;have:=h k h1;rw [List.getD_eq_getElem?_getD,List.getD_eq_getElem?_getD,List.getElem?_eq_getElem h1,List.getElem?_eq_getElem h2] at this;exact this
theorem b2U (s:List Int) (hs:s.length≤1000):U3 s=some s.reverse:=by
  unfold U3;rw [b5 (by rw [m5]; omega)];have hs:=a1E (S:=List Int×Int×Int) (R:=List Int) (body:=N6)
    (fun st=>0≤st.2.1∧st.2.1+st.2.2=(s.length:Int) - 1∧st.2.1≤st.2.2+1∧st.1.length=s.length∧∀ k:Nat,k<s.length→st.1.getD k 0=if (k:Int)<st.2.1∨st.2.2<(k:Int) then s.getD (s.length - 1 - k) 0 else s.getD k 0)
    (fun st=>(st.2.2 - st.2.1+1).toNat) (fun r=>r=s.reverse) ?_ (s,0,(s.length:Int) - 1) ⟨by simp,by simp,by simp,rfl,fun k hk=>by
      simp only
      rw [if_neg (by omega)]⟩
  · obtain ⟨r,er,hr⟩:=hs;rw [er,Option.bind_some,hr]
  · rintro ⟨t,i,j⟩ ⟨h1,h2,h3,h4,h5⟩
    simp only at h1 h2 h3 h4 h5;unfold N6;simp only
    by_cases hij:i<j
    · rw [if_pos (by simpa using hij)];rw [b5 (by omega),b5 (by omega),b5 (by omega),b5 (by omega),b5 (by omega),b5 (by omega),b5 (by omega),b5 (by rw [List.length_set]; omega),b5 (by rw [m5]; omega),b5 (by rw [m5]; omega)];refine .inl ⟨_,rfl,⟨by simp only; omega,by simp only; omega,by simp only; omega,by simp only [List.length_set]; exact h4,fun k hk=>?_⟩,by simp only; omega⟩;simp only;rw [a9r,a9r,List.length_set,h4]
      by_cases e1:j.toNat=k
      · rw [if_pos ⟨e1,by omega⟩,if_pos (by omega),h5 i.toNat (by omega),if_neg (by omega)];congr 1; omega
      · rw [if_neg (fun h=>e1 h.1)]
        by_cases e2:i.toNat=k
        · rw [if_pos ⟨e2,by omega⟩,if_pos (by omega),h5 j.toNat (by omega),if_neg (by omega)];congr 1; omega
        · rw [if_neg (fun h=>e2 h.1),h5 k hk]
          by_cases e3:(k:Int)<i∨j<(k:Int)
          · rw [if_pos e3,if_pos (by omega)]
          · rw [if_neg e3,if_neg (by omega)]
    · rw [if_neg (by simpa using hij)];refine .inr ⟨_,rfl,?_⟩;refine b4m (by simp [h4]) fun k hk=>?_;have hk':k<s.length:=by omega
      rw [h5 k hk'];have er:s.reverse.getD k 0=s.getD (s.length - 1 - k) 0:=by
        rw [List.getD_eq_getElem?_getD,List.getD_eq_getElem?_getD,List.getElem?_reverse hk']
      rw [er]
      split
      · rfl
      · congr 1; omega
theorem b1m (h:List HC6) (i:Int):S6 h i=some (decide (0≤i)&&decide (i<(h.length:Int))):=by
  unfold S6
  by_cases h0:0≤i<;>simp [h0]
def a03:List Bool→List Int→Option (List Bool)
  | s,[]=>some s
  | s,x::r=>if (decide (0≤x)&&decide (x<(s.length:Int)))=true then (if s.getD x.toNat false=true then none else a03 (s.set x.toNat true) r) else none
def b2F:List Bool→Nat
  | []=>0
  | b::r=>(if b=true then 1 else 0)+b2F r
theorem b1B:∀ (s:List Bool) (i:Nat),i<s.length→s.getD i false=false→b2F (s.set i true)=b2F s+1
  | [],i,h,_=>by simp at h
  | b::r,0,_,hf=>by
    have:b=false:=hf;subst this;simp [b2F]; omega
  | b::r,i+1,h,hf=>by
    have:=b1B r i (by simpa using h) hf;simp only [List.set_cons_succ,b2F,this]; omega
theorem a9e:∀ (l:List Int) (s s':List Bool),a03 s l=some s'→b2F s+l.length=b2F s'∧s'.length=s.length
  | [],s,s',h=>by simp [a03] at h; subst h; simp
  | x::r,s,s',h=>by
    unfold a03 at h
    split at h
    · rename_i hx;simp only [Bool.and_eq_true,decide_eq_true_eq] at hx
      split at h
      · cases h
      · rename_i hs;have:=a9e r _ _ h;rw [b1B s x.toNat (by omega) (by simpa using hs),List.length_set] at this;rw [List.length_cons]; omega
    · cases h
theorem b09:∀ (l:List Int) (s s':List Bool),a03 s l=some s'→∀ x∈l,0≤x∧x<(s.length:Int)
  | [],s,s',h,x,hx=>by cases hx
  | y::r,s,s',h,x,hx=>by
    unfold a03 at h
    split at h
    · rename_i hy;simp only [Bool.and_eq_true,decide_eq_true_eq] at hy
      split at h
      · cases h
      · rcases List.mem_cons.1 hx with rfl|hx
        · exact hy
        · have:=b09 r _ _ h x hx
          rwa [List.length_set] at this
    · cases h
def b9G (o:Option (List Bool)):Sum Unit (List Bool):=match o with
  | none=>.inl ()
  | some s=>.inr s
theorem b2p {l:List Int} {k:Nat} {x:Int} (hk:l[k]?=some x) (s:List Bool):a03 s (l.drop k)=if (decide (0≤x)&&decide (x<(s.length:Int)))=true then (if s.getD x.toNat false=true then none else a03 (s.set x.toNat true) (l.drop (k+1))) else none:=by
  obtain ⟨hlt,e⟩:=List.getElem?_eq_some_iff.1 hk;rw [List.drop_eq_getElem_cons hlt,e];rfl
theorem b2m (h:List HC6) (l:List Int) (hl:l.length≤1000):g9 (z8 h l) (List.replicate h.length (false:Bool),0)=some (b9G (a03 (List.replicate h.length (false:Bool)) l)):=by
  obtain ⟨r,er,hr⟩:=b5v (R:=Sum Unit (List Bool)) l (fun k (s:List Bool)=>s.length=h.length∧a03 (List.replicate h.length (false:Bool)) l=a03 s (l.drop k)) (fun r=>r=b9G (a03 (List.replicate h.length (false:Bool)) l)) (body:=z8 h l) (s0:=List.replicate h.length (false:Bool)) ⟨by simp,rfl⟩ (fun k x s hk ⟨hsl,hI⟩=>by
    obtain ⟨hlt,hin⟩:=a0j (V3 hl) hk;rw [b2p hk,hsl] at hI;unfold z8;simp only [Int.toNat_natCast,m9 hk];rw [if_pos (by simpa using hlt),b5 (by omega),b5 (by omega),b1m,Option.bind_some]
    cases h1:(decide (0≤x)&&decide (x<(h.length:Int))) with
    | false =>
      rw [h1] at hI;rw [if_pos (by rfl)];exact .inr ⟨_,rfl,by rw [hI]; rfl⟩
    | true =>
      rw [h1] at hI;simp only [Bool.and_eq_true,decide_eq_true_eq] at h1;rw [if_neg (by simp),b5 h1.1,b5 (by rw [hsl]; exact h1.2)]
      cases h2:s.getD x.toNat false with
      | true =>
        rw [h2] at hI;rw [if_pos rfl];exact .inr ⟨_,rfl,by rw [hI]; rfl⟩
      | false =>
        rw [h2] at hI;rw [if_neg (by simp),b5 h1.1,b5 (by rw [hsl]; exact h1.2),b5 hin];exact .inl ⟨_,rfl,by rw [List.length_set]; exact hsl,by simpa using hI⟩) (fun s ⟨hsl,hI⟩=>by
    rw [List.drop_length] at hI;unfold z8;rw [if_neg (by simp)]
    exact ⟨_,rfl,by rw [hI]; rfl⟩)
  rw [er,hr]
def b3q (h:List HC6) (s:List Bool):Bool:=a1g h.length fun k=>decide ((h.getD k (0,0,0,0,0,0)).2.2.2.2.2=0) || s.getD k false
def a7p (h:List HC6) (l:List Int):Bool:=match a03 (List.replicate h.length (false:Bool)) l with
  | none=>false
  | some s=>b3q h s
theorem b5D (h:List HC6) (hh:h.length≤1000) (s:List Bool) (hs:s.length=h.length):F0 h s=some (b3q h s):=by
  unfold F0 b3q;rw [a4Y (body:=F1 h s) h.length (fun k=>decide ((h.getD k (0,0,0,0,0,0)).2.2.2.2.2=0) || s.getD k false) (fun k hk=>?_) (by unfold F1; rw [if_neg (by simp)]),Option.bind_some]
  · cases a1g h.length (fun k=>decide ((h.getD k (0,0,0,0,0,0)).2.2.2.2.2=0) || s.getD k false)<;>rfl
  · unfold F1;simp only [Int.toNat_natCast];rw [if_pos (by simpa using hk),b5 (by omega),b5 (by omega)]
    by_cases h0:(h.getD k (0,0,0,0,0,0)).2.2.2.2.2=0
    · rw [if_neg (by rw [decide_eq_true h0]; simp),decide_eq_true h0,b5 (D6 (by omega))]; rfl
    · rw [if_pos (by rw [decide_eq_false h0]; rfl),decide_eq_false h0,b5 (by omega),b5 (by omega),b5 (show k<s.length by omega),b5 (D6 (by omega))]
      by_cases hb:s.getD k false=true
      · simp only [hb]; rfl
      · have hb':s.getD k false=false:=by simpa using hb
        simp only [hb']; rfl
theorem a8j (h:List HC6) (hh:h.length≤1000) (l:List Int) (hl:l.length≤1000):N1 h l=some (a7p h l):=by
  unfold N1 a7p;rw [b5 (by omega),b2m h l hl,Option.bind_some]
  cases hm:a03 (List.replicate h.length (false:Bool)) l with
  | none=>rfl
  | some s =>
    have:=(a9e _ _ _ hm).2;show F0 h s=_;rw [b5D h hh s (by simpa using this)]
theorem a90 {h:List HC6} {l:List Int} (ho:a7p h l=true) {k:Nat} (hk:k<l.length):0≤l.getD k 0∧l.getD k 0<(h.length:Int):=by
  unfold a7p at ho
  cases hm:a03 (List.replicate h.length (false:Bool)) l with
  | none=>rw [hm] at ho; cases ho
  | some s =>
    have:=b09 _ _ _ hm (l[k]) (List.getElem_mem hk);rw [List.length_replicate] at this;have e:l.getD k 0=l[k]:=by rw [List.getD_eq_getElem?_getD,List.getElem?_eq_getElem hk]; rfl
    rw [e]; exact this
def atL (h:List HC6) (l:List Int) (i:Nat):HC6:=h.getD (l.getD i 0).toNat (0,0,0,0,0,0)
def a9k (q:HC6→HC6→Bool) (h:List HC6) (l:List Int):Bool:=a1g l.length fun i=>a1g i fun k=>!q (atL h l i) (atL h l k)
theorem b4g (a b:HC6):G4 a b=some (bef b a):=by
  unfold G4;rw [a4N]; rfl
theorem b5P (h:List HC6) (l:List Int) (hl:l.length≤1000) (ho:a7p h l=true):Y8 h l=some (a9k bef h l):=by
  unfold Y8 a9k;rw [a4Y (body:=K4 h l) l.length (fun i=>a1g i fun k=>!bef (atL h l i) (atL h l k)) (fun i hi=>?_) (by unfold K4; rw [if_neg (by simp)]),Option.bind_some]
  · cases a1g l.length (fun i=>a1g i fun k=>!bef (atL h l i) (atL h l k))<;>rfl
  · obtain ⟨p1,p2⟩:=a90 ho hi;unfold K4;rw [if_pos (by simpa using hi),b5 (by omega),b5 (by omega),b5 (by omega),b5 (by omega)];have htl:(l.take i).length=i:=by simp; omega
    rw [a4Y (body:=K3 h l (i:Int)) i (fun k=>!bef (atL h l i) (atL h l k)) (fun k hk=>?_) (by unfold K3; rw [if_neg (by rw [Int.toNat_natCast,htl]; simp)]),Option.bind_some]
    · cases a1g i (fun k=>!bef (atL h l i) (atL h l k)) with
      | false=>rfl
      | true=>simp only [if_true]; unfold W7; rw [b5 (D6 (by omega))]
    · obtain ⟨q1,q2⟩:=a90 ho (k:=k) (by omega);unfold K3;simp only [Int.toNat_natCast,htl,a9q hk];rw [if_pos (by simpa using hk),b5 (by omega),b5 (by omega),b5 q1,b5 q2,b5 p1,b5 p2,b4g,Option.bind_some,b5 (D6 (by omega))];unfold atL
      cases bef (h.getD (l.getD i 0).toNat (0,0,0,0,0,0)) (h.getD (l.getD k 0).toNat (0,0,0,0,0,0))<;>rfl
def a6T (specs:List SpT) (h:List HC6):Int×Int→List Int→Bool
  | _,[]=>true
  | s,x::r=>b0o specs s (hAt h x.toNat)&&a6T specs h (a5r specs s (hAt h x.toNat)) r
theorem b4A (specs:List SpT) (h:List HC6) {l:List Int} {k:Nat} {x:Int} (hk:l[k]?=some x) (s:Int×Int):a6T specs h s (l.drop k)=(b0o specs s (hAt h x.toNat)&&a6T specs h (a5r specs s (hAt h x.toNat)) (l.drop (k+1))):=by
  obtain ⟨hlt,e⟩:=List.getElem?_eq_some_iff.1 hk;rw [List.drop_eq_getElem_cons hlt,e]; rfl
theorem b1J {specs:List SpT} (hs:a0D specs=true) {c:HC6} (hc:a3W specs c=true) {s:Int×Int} (h:a91 specs s) :
    y9 specs c s=some (a71 specs s c,a5r specs s c):=by
  obtain ⟨_,ho,hp⟩:=a3F hc;have hl2:=a5J hs;obtain ⟨_,_,_,_,t1,t2⟩:=a39 (a5K hs ho);have hq:=h c.2.1 ho.1 ho.2;obtain ⟨n1,n2,n3⟩:=a4H t1 hq hp;obtain ⟨a1,a2,a3⟩:=a4H t2 hq hp;unfold y9;rw [b5 ho.1,b5 ho.2,b5 ho.1,b5 (by omega)]
  by_cases h0:c.2.1=0
  · rw [if_pos (by rw [decide_eq_true h0])];have e0:a2z specs c.2.1=specs.getD 0 (0,0,[],[]):=by unfold a2z; rw [h0]; rfl
    have e1:a1v s c.2.1=s.1:=by unfold a1v; rw [if_pos h0]
    unfold a71 a5r;rw [e0] at n1 a1 hp;rw [e0,e1] at n2 a2 hq ⊢;unfold p8;simp only;rw [b5 hq.1,b5 (by omega),b5 hp.1,b5 (by omega),b5 (by omega),b5 (by omega),if_pos (by rfl)];unfold p6;simp only;rw [b5 hq.1,b5 (by omega),b5 hp.1,b5 (by omega)];unfold a7R; rw [if_pos h0]; rfl
  · rw [if_neg (by rw [decide_eq_false h0]; simp)];have h1:c.2.1=1:=by omega
    have e0:a2z specs c.2.1=specs.getD 1 (0,0,[],[]):=by unfold a2z; rw [h1]; rfl
    have e1:a1v s c.2.1=s.2:=by unfold a1v; rw [if_neg h0]
    unfold a71 a5r;rw [e0] at n1 a1 hp;rw [e0,e1] at n2 a2 hq ⊢;unfold p8;simp only;rw [b5 hq.1,b5 (by omega),b5 hp.1,b5 (by omega),b5 (by omega),b5 (by omega),if_neg (by simp)];unfold p6;simp only;rw [b5 hq.1,b5 (by omega),b5 hp.1,b5 (by omega)];unfold a7R; rw [if_neg h0]; rfl
theorem b2S {specs:List SpT} (hs:a0D specs=true) {c:HC6} (hc:a3W specs c=true) {s:Int×Int} (hp:a91 specs s) :
    C2 specs c s=some (b0o specs s c,a5r specs s c):=by
  unfold C2 b0o;rw [b1J hs hc hp,Option.bind_some]
  by_cases h0:c.2.2.2.2.2=0
  · rw [if_pos (by rw [decide_eq_true h0]),decide_eq_true h0]; rfl
  · rw [if_neg (by rw [decide_eq_false h0]; simp),decide_eq_false h0]; rfl
theorem b9E {α S T R:Type} (xs:List α) (I:Nat→S→T→Prop) (G:R→Prop) {body:S×T×Int→Option (Step (S×T×Int) R)} {s0:S} {t0:T} (h0:I 0 s0 t0)
    (h:∀ (k:Nat) (x:α) (s:S) (t:T),xs[k]?=some x→I k s t→(∃ s' t',body (s,t,(k:Int))=some (.next (s',t',(k:Int)+1))∧I (k+1) s' t')∨∃ r,body (s,t,(k:Int))=some (.done r)∧G r)
    (hd:∀ s t,I xs.length s t→∃ r,body (s,t,(xs.length:Int))=some (.done r)∧G r):∃ r,g9 body (s0,t0,0)=some r∧G r:=by
  refine a1E (S:=S×T×Int) (fun s:S×T×Int=>∃ k:Nat,s.2.2=(k:Int)∧k≤xs.length∧I k s.1 s.2.1) (fun s:S×T×Int=>xs.length - s.2.2.toNat) G ?_ (s0,t0,0) ⟨0,rfl,Nat.zero_le _,h0⟩
  rintro ⟨s,t,q⟩ ⟨k,hq,hk,hI⟩
  simp only at hq hI;subst hq
  by_cases hlt:k<xs.length
  · rcases h k _ s t (List.getElem?_eq_getElem hlt) hI with ⟨s',t',h1,h2⟩|h1
    · exact .inl ⟨_,h1,⟨k+1,by simp,by omega,h2⟩,by simp; omega⟩
    · exact .inr h1
  · have:k=xs.length:=by omega
    subst this;exact .inr (hd s t hI)
theorem a9A {specs:List SpT} (hs:a0D specs=true) {h:List HC6} (hc:∀ i,i<h.length→a3W specs (hAt h i)=true) {l:List Int} (hl:l.length≤1000) (hin:∀ x∈l,0≤x∧x<(h.length:Int)):R1 specs h l=some (a6T specs h (0,0) l):=by
  obtain ⟨r,er,hr⟩:=b9E (R:=Sum Unit Unit) l (fun k (s t:Int)=>a91 specs (s,t)∧a6T specs h (0,0) l=a6T specs h (s,t) (l.drop k)) (fun r=>r=if a6T specs h (0,0) l=true then .inr () else .inl ()) (body:=H8 specs h l) (s0:=0) (t0:=0) ⟨a89 hs,rfl⟩ (fun k x s t hk ⟨hp,hI⟩=>by
    obtain ⟨hlt,hin1⟩:=a0j (V3 hl) hk;have hx:=hin x (List.mem_of_getElem? hk);rw [b4A specs h hk] at hI;have hcx:=hc x.toNat (by omega);unfold H8;simp only [Int.toNat_natCast,m9 hk];rw [if_pos (by simpa using hlt),b5 (by omega),b5 (by omega),b5 hx.1,b5 hx.2,show h.getD x.toNat (0,0,0,0,0,0)=hAt h x.toNat from rfl,b2S hs hcx hp,Option.bind_some];simp only
    cases ha:b0o specs (s,t) (hAt h x.toNat) with
    | false =>
      rw [ha,Bool.false_and] at hI;rw [if_pos (by rfl)];exact .inr ⟨_,rfl,by rw [hI]; rfl⟩
    | true =>
      rw [ha,Bool.true_and] at hI;rw [if_neg (by simp),b5 hin1];exact .inl ⟨_,_,rfl,b27 hs hcx hp,hI⟩) (fun s t ⟨hp,hI⟩=>by
    rw [List.drop_length] at hI;unfold H8;rw [if_neg (by simp)]
    exact ⟨_,rfl,by rw [hI]; rfl⟩)
  unfold R1;rw [er,hr,Option.bind_some]
  cases a6T specs h (0,0) l<;>rfl
theorem b0X {h:List HC6} {l:List Int} (ho:a7p h l=true):∀ x∈l,0≤x∧x<(h.length:Int):=fun x hx=>by
  obtain ⟨k,hk,e⟩:=List.getElem_of_mem hx;have:=a90 ho hk;have e2:l.getD k 0=x:=by rw [List.getD_eq_getElem?_getD,List.getElem?_eq_getElem hk,e]; rfl
  rwa [e2] at this
def b3c (specs:List SpT) (h:List HC6) (l:List Int):Bool:=a7p h l&&(a9k bef h l&&a6T specs h (0,0) l)
theorem b2Y {specs:List SpT} (hs:∀ s∈specs,okS s) (hl:specs.length≤1000) (hk:a0D specs=true) {h:List HC6} (h1:okH h=true) (h2:a4r specs h=true) {l:List Int} (hl1:l.length≤1000):S7 specs h l=some (b3c specs h l,0):=by
  unfold S7;rw [a3D hs hl hk h1 h2,Option.bind_some,if_pos (by rfl)];unfold Z7 U0 b3c;have h8:=a3q h1;rw [a8j h (by omega) l hl1,Option.bind_some]
  cases ho:a7p h l with
  | false=>rfl
  | true =>
    rw [if_pos rfl,b5P h l hl1 ho,Option.bind_some]
    cases a9k bef h l with
    | false=>rfl
    | true=>rw [if_pos rfl,a9A hk (fun i hi=>b0n h1 h2 hi) hl1 (b0X ho)]; rfl
theorem b39 (D:El T72):T8 (.pair .i .i) 12 D=(List.range 12).map (b3J D):=rfl
theorem b2E {p:Cd} {u:Us} {st:St} {D:El T72} {W:El T77} {K:El T78} {bg:Int} {mk:List Int} (R:Rl p u st D W K bg mk) (h12:st.sc.length≤12):(T8 (.pair .i .i) 12 D).take st.sc.length=st.dl:=by
  have le:=R.le;rw [b39];refine List.ext_getElem? fun k=>?_
  by_cases hk:k<st.dl.length
  · rw [List.getElem?_take,if_pos (by omega),List.getElem?_map,List.getElem?_range (by omega),Option.map_some,R.dr k hk,List.getElem?_eq_getElem hk,m9 (List.getElem?_eq_getElem hk)]
  · rw [List.getElem?_eq_none (by rw [List.length_take]; omega),List.getElem?_eq_none (by omega)]
def a7q (u:Us) (st:St) (mk:List Int):List Int×Bool:=if v5 u st=[]∧st.hist.length≤(a2a mk st.dl).length then (a2a mk st.dl,true) else ([],false)
theorem b1A (s:List Int) (v:Int) (hs:s.length≤1000):S4 s v=some (s.contains v):=by
  unfold S4 a1w
  rw [a5y (body:=M9 s v) s (fun x=>decide (v=x)) (fun k x hk=>by
    obtain ⟨hlt,hik⟩:=a0j (V3 hs) hk;unfold M9;rw [Int.toNat_natCast,m9 hk,if_pos (decide_eq_true (by omega)),b5 (by omega),b5 (by omega)]
    by_cases c:v=x
    · rw [if_pos (decide_eq_true c),if_pos (decide_eq_true c)]
    · rw [if_neg (by rw [decide_eq_true_eq]; exact c),if_neg (by rw [decide_eq_true_eq]; exact c),b5 hik]) (by
    unfold M9
    rw [if_neg (by simp)])]
  have e:s.contains v=(s.findIdx? (fun x=>decide (v=x))).isSome:=by
    rw [List.findIdx?_isSome,Bool.eq_iff_iff];simp
  rw [e]
  cases s.findIdx? (fun x=>decide (v=x)) with
  | none=>simp [Z5]
  | some k=>simp
theorem a6p (hist:ZH) (b8:List Int):∀ (r:List (Int×Int)) (acc:List Int),(a2R hist b8 r acc).length≤acc.length+r.length
  | [],acc=>by simp [a2R]
  | d::r,acc=>by
    unfold a2R
    split
    · have:=a6p hist b8 r (acc++[d.1]); simp at this ⊢; omega
    · have:=a6p hist b8 r acc; simp at this ⊢; omega
theorem a9d {p:Cd} {u:Us} (hp:K1 p=true) (hu:J9 p u=true) {b8:List Int} (hm:b8.length=p.length) {st:St} (G:Good p u st) (h12:st.sc.length≤12) {mk:List Int} (M:MkOk st.hist b8 st.dl mk) {D:El T72} {W:El T77} {K:El T78} {bg:Int} {mk0:List Int} (R:Rl p u st D W K bg mk0):N3 ((p,u),st.sc,D,st.v,W,K,bg) b8=some (a7q u st mk):=by
  have hul:=Q2 hu;have h6:=a2p hu R.inv;have hbg:=R.inv.bg;have dl12:st.dl.length≤12:=by rw [R.le]; exact h12
  -- one line
  have y1:∀ (i:Int) (d:Int×Int) (acc:List Int),(0≤d.1∧d.1<(st.hist.length:Int))→acc.length≤100→s6 ((p,u),st.sc,D,st.v,W,K,bg) b8 (i,d) acc=some (.next (if mkd st.hist b8 d=true∧acc.contains d.1=false then acc++[d.1] else acc)):=fun i d acc hd ha=>by
    have hop:=(G.hi.ok d.1.toNat (by omega)).op;have ec:=R.inv.cc d.1.toNat (by omega);have eo:b7 T78 K (d.1.toNat*6+2)=opD st.hist d.1:=congrArg (fun c:Cl=>c.2.2.1) ec;have ho:0≤opD st.hist d.1∧opD st.hist d.1<(p.length:Int):=hop;have k2:p4 b8 acc (i,d) (d.1,opD st.hist d.1)=some (.next (if mkd st.hist b8 d=true∧acc.contains d.1=false then acc++[d.1] else acc)):=by
      unfold p4 mkd;dsimp only;rw [b5 ho.1,b5 (by omega)]
      by_cases c:d.2=b8.getD (opD st.hist d.1).toNat 0
      · rw [if_pos (decide_eq_true c),b1A acc _ (by omega),Option.bind_some]
        cases hc:acc.contains d.1 with
        | true=>rw [if_neg (by simp),if_neg (fun q=>by cases q.2)]
        | false=>rw [if_pos (by simp),b5 (by omega),if_pos ⟨decide_eq_true c,rfl⟩]
      · rw [if_neg (by rw [decide_eq_true_eq]; exact c),if_neg (fun q=>c (of_decide_eq_true q.1))]
    unfold s6;dsimp only;rw [b5 hd.1,b5 (by omega)];have h5:d.1=0∨d.1=1∨d.1=2∨d.1=3∨d.1=4∨d.1=5:=by omega
    rw [← eo] at k2;rcases h5 with q|q|q|q|q|q<;>rw [q] at k2 ⊢
    · rw [if_pos (by decide)]; exact k2
    · rw [if_neg (by decide),if_pos (by decide)]; exact k2
    · rw [if_neg (by decide),if_neg (by decide),if_pos (by decide)]; exact k2
    · rw [if_neg (by decide),if_neg (by decide),if_neg (by decide),if_pos (by decide)]; exact k2
    · rw [if_neg (by decide),if_neg (by decide),if_neg (by decide),if_neg (by decide),if_pos (by decide)]; exact k2
    · rw [if_neg (by decide),if_neg (by decide),if_neg (by decide),if_neg (by decide),if_neg (by decide)]; exact k2
  -- all lines,from the last one
  have loop:∀ (m:Nat),m≤st.dl.length→∀ (acc:List Int),acc.length+m≤100→g9 (q8 (List Int) Empty st.dl (s6 ((p,u),st.sc,D,st.v,W,K,bg) b8)) ((m:Int) - 1,acc)=some (.inr (a2R st.hist b8 (st.dl.take m).reverse acc)):=by
    intro m
    induction m with
    | zero =>
      intro _ acc _;refine R9 ?_;unfold q8;rw [if_neg (by simp)];rfl
    | succ m ih =>
      intro hmn acc ha;have hg:=List.getElem?_eq_getElem (show m<st.dl.length by omega);have rg:=M.rg m (by omega);have hgd:=m9 (d:=((0:Int),(0:Int))) hg;rw [take_one hg,List.reverse_append,List.reverse_singleton,List.singleton_append];rw [hgd] at rg;generalize st.dl[m]=d at hg rg hgd ⊢;have nx:q8 (List Int) Empty st.dl (s6 ((p,u),st.sc,D,st.v,W,K,bg) b8) (((m+1:Nat):Int) - 1,acc)=some (.next ((m:Int) - 1,if mkd st.hist b8 d=true∧acc.contains d.1=false then acc++[d.1] else acc)):=by
        have e1:((m+1:Nat):Int) - 1=(m:Int):=by omega
        rw [e1];unfold q8;dsimp only;rw [Int.toNat_natCast,hgd,if_pos (decide_eq_true (by omega)),b5 (by omega),b5 (by omega),y1 _ d acc rg (by omega),Option.bind_some];dsimp only;rw [b5 (by rw [m5]; omega)]
      unfold a2R
      by_cases c:mkd st.hist b8 d=true∧acc.contains d.1=false
      · rw [if_pos c] at nx;rw [if_pos c];exact E9 nx (ih (by omega) (acc++[d.1]) (by rw [List.length_append,List.length_singleton]; omega))
      · rw [if_neg c] at nx;rw [if_neg c];exact E9 nx (ih (by omega) acc (by omega))
  have hlen:(a2R st.hist b8 st.dl.reverse []).length≤12:=by have:=a6p st.hist b8 st.dl.reverse []; simp at this; omega
  unfold N3 S0;dsimp only;rw [b5 (by omega),Option.bind_some,b2E R h12];unfold N7;have L:=loop st.dl.length (Nat.le_refl _) [] (by simp; omega);rw [List.take_length] at L;rw [b5 (by rw [m5]; omega),L,Option.bind_some,Option.bind_some];dsimp only;unfold S3 N4 a7q;rw [a3d hu R,Option.bind_some,Option.bind_some];have eo:=b7D M;have el:(a2a mk st.dl).length=(a2R st.hist b8 st.dl.reverse []).length:=by rw [← eo,List.length_reverse]
  dsimp only
  by_cases c:v5 u st=[]
  · rw [c,if_neg (by simp)]
    by_cases c2:st.hist.length≤(a2a mk st.dl).length
    · rw [if_neg (by rw [decide_eq_true_eq]; omega),b2U _ (by omega),Option.bind_some,if_pos ⟨rfl,c2⟩,eo]
    · rw [if_pos (decide_eq_true (by omega)),if_neg (fun q=>c2 q.2)]
  · have:(v5 u st).length≠0:=fun q=>c (List.length_eq_zero_iff.1 q);rw [if_pos (by rw [decide_eq_false (by omega)]; rfl),if_neg (fun q=>c q.1)]
/-! ### Lines and moments -/
def b5a (hist:ZH) (dl:List (Int×Int)):Prop:=∀ k,k<dl.length→(hist.getD (dl.getD k (0,0)).1.toNat (0,0,0,0,0,0)).2.2.2.2.1≤2*(k:Int)+1∧((hist.getD (dl.getD k (0,0)).1.toNat (0,0,0,0,0,0)).2.2.2.2.2=0∨2*(k:Int)+2≤(hist.getD (dl.getD k (0,0)).1.toNat (0,0,0,0,0,0)).2.2.2.2.2)
theorem b73 {p:Cd} {u:Us} (hp:K1 p=true) (hu:J9 p u=true) {st:St} (G:Good p u st) {t:Nat} (ht:t<u.length) (hL:a2J u st t=true) (h12:st.sc.length<12) (hr:∀ k,k<st.dl.length→0≤(st.dl.getD k (0,0)).1∧(st.dl.getD k (0,0)).1<(st.hist.length:Int)) (hd:b5a st.hist st.dl) (hdl:st.dl.length=st.sc.length):b5a (N5 p u st t).hist (N5 p u st t).dl:=by
  obtain ⟨D,W,K,bg,mk0,R⟩:=G.rl;obtain ⟨W2,K2,bg2,mk2,I2,hin⟩:=b2J hp hu R ht hL (n:=(st.sc.length:Int)) (by omega);have hr0:(st.hs.getD t (0,0,false,0,0,0,0,0)).2.2.1=true∨(st.hs.getD t (0,0,false,0,0,0,0,0)).1<((u.getD t []).length:Int):=by
    unfold a2J at hL;simp only [Bool.or_eq_true,decide_eq_true_eq] at hL;exact hL
  obtain ⟨H1,_,_⟩:=b6j hu G.hi (by omega) ht hr0;obtain ⟨c0,c1,ct,cz⟩:=H1.op t ht hin;have hb:∃ e,(V8 u st.hs st.hist t (st.sc.length:Int)).2=st.hist++e:=by
    unfold V8
    split
    · exact ⟨[],by simp⟩
    · exact ⟨_,rfl⟩
  obtain ⟨e,he⟩:=hb;have hdl2:(N5 p u st t).dl=st.dl++[(((V8 u st.hs st.hist t (st.sc.length:Int)).1.getD t (0,0,false,0,0,0,0,0)).2.2.2.1,((V8 u st.hs st.hist t (st.sc.length:Int)).1.getD t (0,0,false,0,0,0,0,0)).2.1)]:=rfl;have hf:∀ i,((N5 p u st t).hist.getD i (0,0,0,0,0,0)).2.2.2.2.1=((V8 u st.hs st.hist t (st.sc.length:Int)).2.getD i (0,0,0,0,0,0)).2.2.2.2.1∧(((N5 p u st t).hist.getD i (0,0,0,0,0,0)).2.2.2.2.2=((V8 u st.hs st.hist t (st.sc.length:Int)).2.getD i (0,0,0,0,0,0)).2.2.2.2.2∨((N5 p u st t).hist.getD i (0,0,0,0,0,0)).2.2.2.2.2=2*(st.sc.length:Int)+2):=fun i=>by
    show ((a2d p t _ st.v _ (st.sc.length:Int)).2.2.getD i (0,0,0,0,0,0)).2.2.2.2.1=_∧(((a2d p t _ st.v _ (st.sc.length:Int)).2.2.getD i (0,0,0,0,0,0)).2.2.2.2.2=_∨((a2d p t _ st.v _ (st.sc.length:Int)).2.2.getD i (0,0,0,0,0,0)).2.2.2.2.2=_);unfold a2d
    split
    · dsimp only;rw [L9]
      split
      · rename_i c; rw [← c.1]; exact ⟨rfl,.inr rfl⟩
      · exact ⟨rfl,.inl rfl⟩
    · exact ⟨rfl,.inl rfl⟩
  rw [hdl2];generalize (N5 p u st t).hist=hist2 at hf ⊢;generalize (V8 u st.hs st.hist t (st.sc.length:Int)).1.getD t (0,0,false,0,0,0,0,0)=h at c0 c1 ct cz ⊢;have o1:=(H1.ok h.2.2.2.1.toNat (by omega)).fr;generalize (V8 u st.hs st.hist t (st.sc.length:Int)).2=hist1 at hf he c1 ct cz o1;intro k hk;rw [List.length_append,List.length_singleton] at hk
  by_cases c:k=st.dl.length
  · subst c;rw [a0N];have f:=hf h.2.2.2.1.toNat;dsimp only;rw [f.1];refine ⟨by omega,?_⟩;rcases f.2 with q|q
    · left; rw [q]; exact cz
    · right; rw [q]; omega
  · rw [a3a (by omega)];have rg:=hr k (by omega);have dk:=hd k (by omega);have f:=hf (st.dl.getD k (0,0)).1.toNat;have e1:hist1.getD (st.dl.getD k (0,0)).1.toNat (0,0,0,0,0,0)=st.hist.getD (st.dl.getD k (0,0)).1.toNat (0,0,0,0,0,0):=by
      rw [he,List.getD_eq_getElem?_getD,List.getElem?_append_left (by omega),← List.getD_eq_getElem?_getD]
    rw [e1] at f;rw [f.1];refine ⟨dk.1,?_⟩;rcases f.2 with q|q
    · rw [q]; exact dk.2
    · right; rw [q]; omega
theorem b3u {p:Cd} {u:Us} (hp:K1 p=true) (hu:J9 p u=true) {b8:List Int} (hm:b8.length=p.length):∀ {l:List Int} {st st':St} {mk:List Int},goA p u st l=some st'→Good p u st→MkOk st.hist b8 st.dl mk→b5a st.hist st.dl→st.sc.length+l.length≤12→(∃ mk',MkOk st'.hist b8 st'.dl mk')∧b5a st'.hist st'.dl
  | [],st,st',mk,h,G,M,Dt,_=>by injection h with h; subst h; exact ⟨⟨mk,M⟩,Dt⟩
  | x::r,st,st',mk,h,G,M,Dt,h12=>by
    rw [a08] at h
    split at h
    · rename_i c;have hx:=r7.1 c.1;rw [List.length_cons] at h12;obtain ⟨_,_,_,_,_,R⟩:=G.rl;exact b3u hp hu hm h (a6I hp hu G (by omega) c.2 (by omega)).1 (b36 hp hu G (by omega) c.2 (by omega) hm M R.le) (b73 hp hu G (by omega) c.2 (by omega) M.rg Dt R.le) (by rw [a2e]; simp; omega)
    · cases h
theorem a8x {p:Cd} {u:Us} (hp:K1 p=true) (hu:J9 p u=true) {b8:List Int} (hm:b8.length=p.length) {st:St} (G:Good p u st) (h12:st.sc.length≤12):(∃ mk,MkOk st.hist b8 st.dl mk)∧b5a st.hist st.dl :=
  b3u hp hu hm G.go (b1r hu) (b9H u b8) (fun k hk=>absurd hk (by simp [st0])) (by show 0+st.sc.length≤12; omega)
/-! ### The marked order of a run that is over -/
theorem b7N {mk:List Int} {dl:List (Int×Int)} {x:Int} (h:x∈a2a mk dl):∃ k,k<dl.length∧mk.getD (dl.getD k (0,0)).1.toNat 0=(k:Int)∧x=(dl.getD k (0,0)).1:=by
  unfold a2a at h;obtain ⟨k,hk,hx⟩:=List.mem_flatMap.1 h
  split at hx
  · rename_i c; exact ⟨k,List.mem_range.1 hk,c,List.mem_singleton.1 hx⟩
  · cases hx
theorem b0d {α:Type} {R:α→α→Prop} (f:Nat→List α) (h1:∀ k,(f k).length≤1):∀ n,(∀ i j x y,i<j→j<n→x∈f i→y∈f j→R x y)→((List.range n).flatMap f).Pairwise R
  | 0,_=>by simp
  | n+1,h=>by
    rw [List.range_succ,List.flatMap_append,List.pairwise_append];refine ⟨b0d f h1 n fun i j x y hij hj=>h i j x y hij (by omega),?_,fun x hx y hy=>?_⟩
    · rw [List.flatMap_cons,List.flatMap_nil,List.append_nil];have:=h1 n
      match h:f n with
      | []=>exact List.Pairwise.nil
      | [a]=>exact List.pairwise_singleton _ _
      | a::b::r=>rw [h] at this; simp at this
    · obtain ⟨i,hi,hxi⟩:=List.mem_flatMap.1 hx;rw [List.flatMap_cons,List.flatMap_nil,List.append_nil] at hy;exact h i n x y (List.mem_range.1 hi) (by omega) hxi hy
theorem a1C {hist:ZH} {b8:List Int} {dl:List (Int×Int)} {mk:List Int} (M:MkOk hist b8 dl mk):(a2a mk dl).Nodup:=by
  refine b0d _ (fun k=>by split<;>simp) _ fun i j x y hij hj hx hy e=>?_
  split at hx
  · split at hy
    · rename_i c1 c2;rw [List.mem_singleton] at hx hy;rw [← hx,e,hy] at c1;omega
    · cases hy
  · cases hx
theorem a6v {hist:ZH} {b8:List Int} {dl:List (Int×Int)} {mk:List Int} (M:MkOk hist b8 dl mk):∀ x∈a2a mk dl,0≤x∧x<(hist.length:Int):=fun x hx=>by
  obtain ⟨k,hk,_,rfl⟩:=b7N hx;exact M.rg k hk
theorem b0W {hist:ZH} {dl:List (Int×Int)} {mk:List Int} (Dt:b5a hist dl):(a2a mk dl).Pairwise fun a b=>bef (hAt hist b.toNat) (hAt hist a.toNat)=false:=by
  refine b0d _ (fun k=>by split<;>simp) _ fun i j x y hij hj hx hy=>?_
  split at hx
  · split at hy
    · rw [List.mem_singleton] at hx hy;have a:=Dt i (by omega);have b:=Dt j hj;rw [hx,hy];unfold bef hAt;rw [Bool.and_eq_false_iff,Bool.not_eq_false',decide_eq_true_eq,decide_eq_false_iff_not];rcases b.2 with q|q
      · exact .inl q
      · right; omega
    · cases hy
  · cases hx
theorem b26 {hist:ZH} {b8:List Int} {dl:List (Int×Int)} {mk:List Int} (M:MkOk hist b8 dl mk) (hl:hist.length≤(a2a mk dl).length) {j:Nat} (hj:j<hist.length):(j:Int)∈a2a mk dl:=by
  apply Classical.byContradiction;intro hn;have nd:((j:Int)::a2a mk dl).Nodup:=List.nodup_cons.2 ⟨hn,a1C M⟩
  have:=a4b nd (ys:=(List.range hist.length).map fun (k:Nat)=>(k:Int)) (fun x hx=>by
    rcases List.mem_cons.1 hx with q|q
    · rw [q]; exact List.mem_map.2 ⟨j,List.mem_range.2 hj,rfl⟩
    · have:=a6v M x q
      exact List.mem_map.2 ⟨x.toNat,List.mem_range.2 (by omega),by omega⟩)
  simp at this
  omega
theorem a8d:∀ (l:List Int) (s:List Bool),(∀ x∈l,0≤x∧x<(s.length:Int))→l.Nodup→(∀ x∈l,s.getD x.toNat false=false)→∃ s',a03 s l=some s'∧∀ j:Nat,s'.getD j false=true↔s.getD j false=true∨(j:Int)∈l
  | [],s,_,_,_=>⟨s,rfl,fun j=>by simp⟩
  | x::r,s,hin,nd,hf=>by
    have hx:=hin x (List.mem_cons_self);have nd':=List.nodup_cons.1 nd
    obtain ⟨s',e,h⟩:=a8d r (s.set x.toNat true) (fun y hy=>by rw [List.length_set]; exact hin y (List.mem_cons_of_mem _ hy)) nd'.2 (fun y hy=>by
      have hy':=hin y (List.mem_cons_of_mem _ hy);rw [L9,if_neg (fun q=>nd'.1 (by rw [show x=y by omega]; exact hy))]
      exact hf y (List.mem_cons_of_mem _ hy))
    refine ⟨s',?_,fun j=>?_⟩
    · unfold a03;rw [if_pos (by simp only [Bool.and_eq_true,decide_eq_true_eq]; exact hx),if_neg (by rw [hf x (List.mem_cons_self)]; simp)];exact e
    · rw [h j,L9]
      by_cases c:x.toNat=j
      · rw [if_pos ⟨c,by omega⟩];have:(j:Int)=x:=by omega
        simp [this]
      · rw [if_neg (fun q=>c q.1)];have:(j:Int)≠x:=by omega
        simp [this]
theorem b5E {hist:ZH} {l:List Int} (hin:∀ x∈l,0≤x∧x<(hist.length:Int)) (nd:l.Nodup) (hall:∀ j,j<hist.length→(j:Int)∈l):a7p hist l=true:=by
  obtain ⟨s',e,h⟩:=a8d l (List.replicate hist.length false) (fun x hx=>by rw [List.length_replicate]; exact hin x hx) nd (fun x hx=>by
    have:=hin x hx
    rw [List.getD_eq_getElem?_getD,List.getElem?_replicate]; split<;>rfl)
  unfold a7p;rw [e];dsimp only;unfold b3q;refine P5.2 fun j hj=>?_;rw [(h j).2 (.inr (hall j hj)),Bool.or_true]
theorem b1X {hist:ZH} {l:List Int} (h:l.Pairwise fun a b=>bef (hAt hist b.toNat) (hAt hist a.toNat)=false):a9k bef hist l=true:=by
  unfold a9k;refine P5.2 fun i hi=>P5.2 fun k hk=>?_;have:=List.pairwise_iff_getElem.1 h k i (by omega) hi hk;unfold atL;rw [m9 (List.getElem?_eq_getElem hi),m9 (List.getElem?_eq_getElem (show k<l.length by omega))];unfold hAt at this;rw [this]; rfl
theorem b25 {specs:List SpT} {h:List HC6} (hs:a0D specs=true) (h1:okH h=true) (h2:a4r specs h=true) {l:List Int} (hin:∀ x∈l,0≤x∧x<(h.length:Int)) (nd:l.Nodup) (hall:∀ j,j<h.length→(j:Int)∈l) (ht:l.Pairwise fun a b=>bef (hAt h b.toNat) (hAt h a.toNat)=false) :
    ∀ (r pre:List Int) (d:Nat) (q:Pl),l=pre++r→a6w specs q→(∀ j:Nat,j<h.length→a3h q.2 j=decide ((j:Int)∈pre))→a6T specs h q.1 r=true→r.length<d→0<CF specs h d q
  | [],pre,0,q,_,_,_,_,hd=>by simp at hd
  | [],pre,d+1,q,e,ok,hb,_,_=>by
    rw [List.append_nil] at e;subst e;rw [b0s];have:a4p h q.2=true:=P5.2 fun j hj=>by rw [hb j hj,decide_eq_true (hall j hj),Bool.or_true]
    rw [if_pos this];omega
  | x::r,pre,0,q,_,_,_,_,hd=>by simp at hd
  | x::r,pre,d+1,q,e,ok,hb,ha,hd=>by
    have hxl:x∈l:=by rw [e]; simp
    have hx:=hin x hxl;have h8:=a3q h1;have hc:∀ i,i<h.length→a3W specs (hAt h i)=true:=fun i hi=>b0n h1 h2 hi;unfold a6T at ha;rw [Bool.and_eq_true] at ha;have hnp:x ∉ pre:=fun q'=>by
      rw [e,List.nodup_append] at nd;exact nd.2.2 x q' x (by simp) rfl
    have hnb:a3h q.2 x.toNat=false:=by rw [hb _ (by omega),show (x.toNat:Int)=x by omega]; exact decide_eq_false hnp
    have hr:a5d h q.2 x.toNat=true:=by
      unfold a5d;rw [hnb,Bool.not_false,Bool.true_and];refine P5.2 fun j hj=>?_
      cases hbf:bef (hAt h j) (hAt h x.toNat) with
      | false=>rfl
      | true =>
        have hjl:=hall j hj;rw [e] at hjl;rcases List.mem_append.1 hjl with q'|q'
        · rw [hb j hj,decide_eq_true q']; rfl
        · exfalso;rcases List.mem_cons.1 q' with y|y
          · have ejx:x.toNat=j:=by omega
            rw [ejx] at hbf;have oc:=a8a (b7R h1 (c:=hAt h j) (a0V hj));unfold bef at hbf;rw [Bool.and_eq_true,Bool.not_eq_true',decide_eq_false_iff_not,decide_eq_true_eq] at hbf;omega
          · rw [e] at ht;have:=(List.pairwise_cons.1 (List.pairwise_append.1 ht).2.1).1 (j:Int) y;rw [Int.toNat_natCast,hbf] at this
            cases this
    have hn:nxt specs h q x.toNat=some (a5r specs q.1 (hAt h x.toNat),a7o q.2 x.toNat):=by
      unfold nxt;rw [if_pos (by rw [hr,ha.1]; rfl)]
    have okq:=a92 hs ok (by omega) (hc x.toNat (by omega)) hn
    have ih:=b25 hs h1 h2 hin nd hall ht r (pre++[x]) d _ (by rw [e]; simp) okq (fun j hj=>by
      rw [b8a,hb j hj,Bool.eq_iff_iff];simp only [Bool.or_eq_true,decide_eq_true_eq,List.mem_append,List.mem_singleton]
      constructor
      · rintro (y|y)
        · exact .inl y
        · right; omega
      · rintro (y|y)
        · exact .inl y
        · right; omega) ha.2 (by simp at hd; omega)
    rw [b0s];have:=b0y (f:=fun i=>J3 (CF specs h d) (nxt specs h q i)) (k:=x.toNat) (n:=h.length) (by omega);have ec:J3 (CF specs h d) (nxt specs h q x.toNat)=CF specs h d (a5r specs q.1 (hAt h x.toNat),a7o q.2 x.toNat):=by rw [hn]; rfl
    simp only [ec] at this;omega
def b1I (c:Cd) (b8:List Int):Bool:=decide (b8.length=c.length)&&a1g b8.length fun i=>rB (b8.getD i 0) ((c.getD i []).length:Int)
theorem a7g (c:Cd) (hc:c.length≤4) (b8:List Int):P9 c b8=some (b1I c b8):=by
  unfold P9 b1I
  by_cases h:b8.length=c.length
  · rw [if_neg (by rw [decide_eq_true (by omega)]; simp),decide_eq_true h,a4Y (body:=K8 c b8) b8.length (fun i=>rB (b8.getD i 0) ((c.getD i []).length:Int)) (fun k hk=>by
      unfold K8;rw [if_pos (decide_eq_true (by omega)),b5 (by omega),b5 (by omega),b5 (by omega),b5 (by omega),Int.toNat_natCast,U8,Option.bind_some]
      cases rB (b8.getD k 0) ((c.getD k []).length:Int) with
      | false=>rfl
      | true=>rw [if_neg (by simp),b5 (D6 (by omega)),if_pos rfl]) (by unfold K8; rw [if_neg (by simp)]),Option.bind_some]
    cases a1g b8.length (fun i=>rB (b8.getD i 0) ((c.getD i []).length:Int))<;>rfl
  · rw [if_pos (by rw [decide_eq_false (by omega)]; rfl),decide_eq_false h]; rfl
theorem a6b {c:Cd} {b8:List Int} (h:b1I c b8=true):b8.length=c.length:=by
  unfold b1I at h; rw [Bool.and_eq_true] at h; exact of_decide_eq_true h.1
noncomputable def a5g (b8:List Int) (st:St):List Int:=by
  classical exact if h:∃ mk,MkOk st.hist b8 st.dl mk then Classical.choose h else []
theorem a94 {b8:List Int} {st:St} (h:∃ mk,MkOk st.hist b8 st.dl mk):MkOk st.hist b8 st.dl (a5g b8 st):=by
  unfold a5g;rw [dif_pos h];exact Classical.choose_spec h
noncomputable def a7h (s:SpT) (u:Us) (b8:List Int) (st:St):Bool:=(a7q u st (a5g b8 st)).2&&a6T [s] st.hist (0,0) (a7q u st (a5g b8 st)).1
theorem b5c {specs:List SpT} (hs:∀ s∈specs,okS s) (hl:specs.length≤1000) (hk:a0D specs=true) {h:List HC6} (h1:okH h=true) (h2:a4r specs h=true) {l:List Int} (hl1:l.length≤1000) (ho:a7p h l=true):V1 specs h l=some (a6T specs h (0,0) l,0):=by
  have h8:=a3q h1;unfold V1;rw [a3D hs hl hk h1 h2,Option.bind_some,if_pos (by rfl),a8j h (by omega) l hl1,ho,Option.bind_some,if_neg (by simp)];unfold H9;rw [if_pos (by rfl)];unfold Z8 X1;rw [a9A hk (fun i hi=>b0n h1 h2 hi) hl1 (b0X ho)];rfl
theorem b03 {u:Us} {st:St} {b8:List Int} {mk:List Int} (M:MkOk st.hist b8 st.dl mk) (h:(a7q u st mk).2=true):v5 u st=[]∧(a7q u st mk).1=a2a mk st.dl∧st.hist.length≤(a2a mk st.dl).length∧a7p st.hist (a2a mk st.dl)=true:=by
  unfold a7q at h ⊢
  split at h
  · rename_i c;rw [if_pos c];exact ⟨c.1,rfl,c.2,b5E (a6v M) (a1C M) (fun j hj=>b26 M c.2 hj)⟩
  · cases h
theorem b5T {p:Cd} {u:Us} (hp:K1 p=true) (hu:J9 p u=true) {s:SpT} (hs:okS s) (hk:(a19 s).ok=true) (ho:s.2.1=(p.length:Int)) {b8:List Int} (hm:b8.length=p.length) {st:St} (G:Good p u st) (h12:st.sc.length≤12) {D:El T72} {W:El T77} {K:El T78} {bg:Int} {mk0:List Int} (R:Rl p u st D W K bg mk0):I5 ((p,u),st.sc,D,st.v,W,K,bg) s b8=some (a7h s u b8 st):=by
  obtain ⟨hM,Dt⟩:=a8x hp hu hm G h12;have M:=a94 hM;unfold I5 a7h;rw [a9d hp hu hm G h12 M R,Option.bind_some]
  cases hb:(a7q u st (a5g b8 st)).2 with
  | false=>rw [if_pos (by simp)]; rfl
  | true =>
    obtain ⟨o1,o2,o3,o4⟩:=b03 M hb;have hlen:(a2a (a5g b8 st) st.dl).length≤1000:=by
      have:=a4b (a1C M) (ys:=(List.range st.hist.length).map fun (k:Nat)=>(k:Int)) (fun x hx=>by
        have:=a6v M x hx
        exact List.mem_map.2 ⟨x.toNat,List.mem_range.2 (by omega),by omega⟩)
      have h6:=a2p hu R.inv;simp at this
      omega
    rw [if_neg (by simp),a6P hu R,Option.bind_some,o2,b5c (fun z hz=>by rw [List.mem_singleton.1 hz]; exact hs) (by simp) (b0Y hk) (b0a hp hu G h12) (a98 ho G.hi) hlen o4,Option.bind_some,Bool.true_and]
noncomputable def a4E (s:SpT) (c:Cd) (u:Us) (b8:List Int):Bool:=(a3N c u 12 (st0 u)).all fun st=>!decide (v5 u st=[]) || a7h s u b8 st
theorem b1u {S:Type} (p:S→Bool):∀ (L:List S),a3M (S:=Unit) (R:=Unit) (fun st _=>some (if p st=true then .next () else .done ())) L ()=some (if L.all p=true then .inl () else .inr ())
  | []=>rfl
  | a::L=>by
    unfold a3M;rw [List.all_cons]
    cases h:p a with
    | false=>rfl
    | true=>simp only [if_true,Option.bind_some,Bool.true_and]; exact b1u p L
theorem b4Z {s:SpT} (hs:okS s) {c:Cd} (hf:a2t c) (hc:K1 c=true) {u:Us} (hu:J9 c u=true) (hk:(a19 s).ok=true) (ho:s.2.1=(c.length:Int)) {b8:List Int} (hm:b1I c b8=true):a1d s c u b8=some (a4E s c u b8,0):=by
  have hml:=a6b hm;have hcl:=a1F hc;have e1:M0 s c=some 0:=by rw [a6a hs hf,if_pos hc,if_pos ⟨hk,ho⟩]
  have e2:R7 c u 12=some (.inr ()):=by rw [b3V hf hc,if_pos hu,if_pos (by decide)]
  unfold a1d;rw [e1,Option.bind_some,if_neg (by simp),e2,Option.bind_some];dsimp only;rw [a7g c hcl.2,hm,Option.bind_some,if_neg (by simp)]
  have R:=fun (x:Sum Unit Unit)=>b7E (x:=x) hc hu (S:=Unit) (R:=Unit) (G5 s b8) (fun st _=>some (if (!decide (v5 u st=[]) || a7h s u b8 st)=true then .next () else .done ())) 12 (Nat.le_refl _) (fun y st z hy G _ hle=>by
    obtain ⟨D,W,K,bg,mk,rfl,Rr⟩:=hy;unfold G5 N4;rw [a3d hu Rr,Option.bind_some,Option.bind_some]
    by_cases c2:v5 u st=[]
    · rw [c2,if_pos (by simp),b5T hc hu hs hk ho hml G hle Rr,Option.bind_some]
      cases a7h s u b8 st with
      | true=>rw [if_neg (by simp),if_pos (by simp)]
      | false=>rw [if_pos (by simp),if_neg (by simp)]
    · have:(v5 u st).length≠0:=fun q=>c2 (List.length_eq_zero_iff.1 q)
      rw [if_neg (by rw [decide_eq_true_eq]; omega),decide_eq_false c2,if_pos (by simp)]) ()
  have e:=R _ (b1u _ _);have e':D7 Unit Unit (c,u) 12 (G5 s b8) ()=some (if a4E s c u b8=true then .inl () else .inr ()):=e;rw [e',Option.bind_some]
  cases a4E s c u b8<;>rfl
theorem b6L {c:Cd} (hf:a2t c) (hc:K1 c=true) {u:Us} (hu:J9 c u=true) {b8:List Int} (hm:b1I c b8=true) {sc:List Int} {st:St} (hg:goA c u (st0 u) sc=some st) (h12:sc.length≤12):a12 c u sc b8=some (if (a7q u st (a5g b8 st)).2=true then ((a7q u st (a5g b8 st)).1,0) else ([],5)):=by
  have hcl:=a1F hc;have hsc:=b0b hg;have G:=(a7E hc hu hg (b1r hu) (by show 0+sc.length≤12; omega)).1;unfold a12;rcases b21 hf u sc with ⟨e,he,o,a⟩|⟨hc',hu',st',D,W,K,bg,mk,o,R,a⟩
  · rw [a4C hc hu hg h12] at o; cases o
  · rw [a4C hc hu hg h12] at o;injection o with o;subst o;have M:=a94 (a8x hc hu (a6b hm) G (by rw [hsc]; exact h12)).1;have hme:=a9d hc hu (a6b hm) G (by rw [hsc]; exact h12) M R;rw [a,Option.bind_some];dsimp only;rw [if_neg (by simp),a7g c hcl.2,hm,Option.bind_some,if_neg (by simp),show (((c,u),st.sc,D,(st.v.1,st.v.2.1,st.v.2.2),W,K,bg):Rn)=((c,u),st.sc,D,st.v,W,K,bg) from rfl,hme,Option.bind_some]
    cases (a7q u st (a5g b8 st)).2 with
    | true=>rw [if_neg (by simp),if_pos rfl]
    | false=>rw [if_pos (by simp),if_neg (by simp)]
theorem a9c {s:SpT} {c:Cd} {u:Us} {b8:List Int} (h:a4E s c u b8=true) {l:List Int} {st:St} (hg:goA c u (st0 u) l=some st) (h12:l.length≤12) (ho:v5 u st=[]):a7h s u b8 st=true:=by
  obtain ⟨st2,h2,r,h3⟩:=b3g l 12 _ _ hg h12;have:r=[]:=by
    cases r with
    | nil=>rfl
    | cons x r =>
      rw [a08] at h3
      split at h3
      · rename_i c2;have:=a9h c2;rw [ho] at this
        cases this
      · cases h3
  subst this;injection h3 with h3;subst h3;have:=List.all_eq_true.1 h st h2;rw [ho] at this;simpa using this
theorem a8X (x:Sp×Cd×Us) (hx:a5L KTy x) (b8:List Int) (hmk:a5L (.sl (.int .u8)) b8) (picks:List Int) (hpk:a5L (.sl (.int .u8)) picks):J1 x b8 picks=some true:=by
  obtain ⟨fc,fu,hf,hs⟩:=b6h hx;have hp:∀ q∈picks,0≤q∧q≤255:=fun q hq=>(b5U q).1 (hpk.2.2 q hq);have hm8:∀ q∈b8,0≤q∧q≤255:=fun q hq=>(b5U q).1 (hmk.2.2 q hq);unfold J1;obtain ⟨b,eb,hb⟩:=b79 fc fu hs;rw [eb,Option.bind_some,a05]
  cases b with
  | false=>rw [if_pos (by simp)]; rfl
  | true =>
    obtain ⟨hc,hu,hk,ho⟩:=hb rfl;have hcl:=a1F hc;rw [if_neg (by simp)]
    by_cases h60:60<(picks.length:Int)
    · rw [if_pos (decide_eq_true h60)]; rfl
    rw [if_neg (by rw [decide_eq_true_eq]; exact h60)]
    by_cases h61:60<(b8.length:Int)
    · rw [if_pos (decide_eq_true h61)]; rfl
    rw [if_neg (by rw [decide_eq_true_eq]; exact h61)]
    -- the b8
    obtain ⟨m,em,hm⟩:=b5v (S:=List Int) (R:=List Int) x.2.1 (fun k l=>l.length=k∧∀ i,i<k→rB (l.getD i 0) ((x.2.1.getD i []).length:Int)=true) (fun l=>b1I x.2.1 l=true) (body:=n9 x b8) (s0:=[]) ⟨rfl,fun i hi=>absurd hi (by omega)⟩ (fun k ls l hk hl=>by
      have hlt:=(List.getElem?_eq_some_iff.1 hk).1;have h8:=b3G hc (b2o hk);have key:∀ y:Int,rB y (ls.length:Int)=true→(l++[y]).length=k+1∧∀ i,i<k+1→rB ((l++[y]).getD i 0) ((x.2.1.getD i []).length:Int)=true:=fun y hy=>by
        refine ⟨by rw [List.length_append,hl.1]; rfl,fun i hi=>?_⟩
        by_cases c:i=k
        · subst c;rw [show i=l.length from hl.1.symm,a0N,hl.1,m9 hk];exact hy
        · rw [a3a (by rw [hl.1]; omega)]; exact hl.2 i (by omega)
      by_cases hq:k<b8.length
      · have hg:=hm8 _ (a0V (d:=(0:Int)) hq);have m0:=Int.emod_nonneg (b8.getD k 0) (show (ls.length:Int)≠0 by omega);have m1:=Int.emod_lt_of_pos (b8.getD k 0) (show 0<(ls.length:Int) by omega);refine .inl ⟨l++[b8.getD k 0 % (ls.length:Int)],?_,key _ (r7.2 ⟨m0,m1⟩)⟩;unfold n9;dsimp only;rw [Int.toNat_natCast,m9 hk,if_pos (decide_eq_true (by omega)),if_pos (decide_eq_true (by omega)),b5 (by omega),b5 (by omega),b5 (by rw [m5]; omega),b5 (by omega),b5 (by omega),b5 hg.1,b5 (by omega),b5 (by rw [hl.1]; omega),b5 (by rw [m5]; omega)]
      · refine .inl ⟨l++[0],?_,key 0 (r7.2 (by omega))⟩;unfold n9;dsimp only;rw [if_pos (decide_eq_true (by omega)),if_neg (by rw [decide_eq_true_eq]; omega),b5 (by rw [hl.1]; omega),b5 (by rw [m5]; omega)]) (fun l hl=>by
      refine ⟨l,?_,?_⟩
      · unfold n9;rw [if_neg (by simp)]
      · unfold b1I;rw [decide_eq_true hl.1,Bool.true_and]
        exact P5.2 fun i hi=>hl.2 i (by rw [← hl.1]; exact hi))
    rw [em,Option.bind_some];obtain ⟨l,st,es,hg,hl⟩:=b5u hf hc hu picks hp (n:=12) (Nat.le_refl _);have es':A9 x picks 12=some (l,decide (v5 x.2.2 st=[]),true):=es;have hsc:=b0b hg;have G:=(a7E hc hu hg (b1r hu) (by show 0+l.length≤12; omega)).1;obtain ⟨hM,Dt⟩:=a8x hc hu (a6b hm) G (by rw [hsc]; exact hl);have M:=a94 hM;unfold E4;rw [b4Z hs hf hc hu hk ho hm,Option.bind_some,es',Option.bind_some];dsimp only;have eO:=b6L hf hc hu hm hg hl;rw [if_neg (by simp),if_neg (by simp),a05]
    cases hb2:(a7q x.2.2 st (a5g m st)).2 with
    | false =>
      rw [hb2,if_neg (by simp)] at eO;rw [eO,Option.bind_some];dsimp only;rw [if_pos (show (!decide ((5:Int)=0))=true from rfl),if_pos (show decide ((5:Int)=5)=true from rfl)]
      by_cases hov:v5 x.2.2 st=[]
      · rw [decide_eq_true hov,if_neg (by simp)]
        cases hmm:a4E x.1 x.2.1 x.2.2 m with
        | false=>rw [if_pos (by simp)]; rfl
        | true =>
          exfalso;have:=a9c hmm hg hl hov;unfold a7h at this;rw [hb2] at this
          cases this
      · rw [decide_eq_false hov,if_pos (by simp)]; rfl
    | true =>
      obtain ⟨o1,o2,o3,o4⟩:=b03 M hb2;have hok:=b0a hc hu G (by rw [hsc]; exact hl);have hfit:=a98 ho G.hi;have hlen:(a2a (a5g m st) st.dl).length≤1000:=by
        have:=a4b (a1C M) (ys:=(List.range st.hist.length).map fun (k:Nat)=>(k:Int)) (fun y hy=>by
          have:=a6v M y hy
          exact List.mem_map.2 ⟨y.toNat,List.mem_range.2 (by omega),by omega⟩)
        have h8:=a3q hok;simp at this
        omega
      have eR:a1Z x.2.1 x.2.2 l=some (st.hist,0):=by
        rw [b3t hf x.2.2 l,a4C hc hu hg hl]; rfl
      have eB:a0o x.1 x.2.1 x.2.2 l=some (!b7T x.1 st.hist,0):=by
        rw [b5b hs hf,if_pos hc,if_pos ⟨hk,ho⟩,a4C hc hu hg hl]; rfl
      rw [hb2,if_pos rfl,o2] at eO;rw [eO,Option.bind_some];dsimp only;rw [if_neg (show ¬ (!decide ((0:Int)=0))=true by simp),eR,Option.bind_some,eB,Option.bind_some,b2Y (fun z hz=>by rw [List.mem_singleton.1 hz]; exact hs) (by simp) (b0Y hk) hok hfit hlen,Option.bind_some];dsimp only;have d0:decide ((0:Int)=0)=true:=rfl;rw [if_pos d0,if_pos d0,if_pos d0,decide_eq_true o1,if_pos rfl]
      cases hmm:a4E x.1 x.2.1 x.2.2 m with
      | false=>rw [if_pos (by simp)]; rfl
      | true =>
        have ha:=a9c hmm hg hl o1;unfold a7h at ha;rw [hb2,Bool.true_and,o2] at ha;have hio:b3c [x.1] st.hist (a2a (a5g m st) st.dl)=true:=by
          unfold b3c;rw [o4,b1X (b0W Dt),ha]; rfl
        have hlin:b7T x.1 st.hist=true:=by
          refine decide_eq_true ?_;have h8:=a3q hok;have h9:(a2a (a5g m st) st.dl).length<9:=by
            have:=a4b (a1C M) (ys:=(List.range st.hist.length).map fun (k:Nat)=>(k:Int)) (fun y hy=>by
              have:=a6v M y hy
              exact List.mem_map.2 ⟨y.toNat,List.mem_range.2 (by omega),by omega⟩)
            simp at this
            omega
          exact b25 (l:=a2a (a5g m st) st.dl) (b0Y hk) hok hfit (a6v M) (a1C M) (fun j hj=>b26 M o3 hj) (b0W Dt) (a2a (a5g m st) st.dl) [] 9 ((0,0),0) rfl (a88 (b0Y hk)) (fun j hj=>by simp [a3h]) ha h9
        rw [if_neg (by simp),hio,if_pos rfl,hlin,if_pos (by simp)]; rfl
end Go.Proofs.YtanaeefeggokkaaGreat
