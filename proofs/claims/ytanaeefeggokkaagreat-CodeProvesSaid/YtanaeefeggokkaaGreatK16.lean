import Derived.Test.YtanaeefeggokkaaGreatK14
namespace Go.Proofs.YtanaeefeggokkaaGreat
open Go.RowKit
set_option linter.unusedVariables false
set_option linter.unusedSimpArgs false
set_option maxRecDepth 10000
def a0D (specs:List SpT):Bool:=(decide (1≤(specs.length:Int))&&decide ((specs.length:Int)≤2))&&a1g specs.length fun k=>(a19 (specs.getD k (0,0,[],[]))).ok
theorem b4k {specs:List SpT} {k:Nat} (hk:k<specs.length):specs.getD k (0,0,[],[])∈specs:=by
  rw [List.getD_eq_getElem?_getD,List.getElem?_eq_getElem hk];exact List.getElem_mem hk
theorem a8W (specs:List SpT) (hs:∀ s∈specs,okS s) (hl:specs.length≤1000):L7 specs=some (if a0D specs=true then 0 else 10):=by
  unfold L7 a0D;rw [a8k,Option.bind_some]
  cases hw:(decide (1≤(specs.length:Int))&&decide ((specs.length:Int)≤2)) with
  | false=>rfl
  | true =>
    simp only [Bool.not_true,Bool.false_eq_true,if_false,Bool.true_and];rw [a4Y (body:=y7 specs) specs.length (fun k=>(a19 (specs.getD k (0,0,[],[]))).ok) (fun k hk=>?_) (by unfold y7; rw [if_neg (by simp)]),Option.bind_some]
    · cases a1g specs.length (fun k=>(a19 (specs.getD k (0,0,[],[]))).ok)<;>rfl
    · unfold y7;rw [if_pos (by simpa using hk),b5 (by simp),b5 (by omega),Int.toNat_natCast,a7Y _ (hs _ (b4k hk)),Option.bind_some]
      cases (a19 (specs.getD k (0,0,[],[]))).ok with
      | false=>rfl
      | true=>simp only [Bool.not_true,Bool.false_eq_true,if_false,if_true]; rw [b5 (D6 (by omega))]
def b4p (specs:List SpT) (c:HC6):Bool:=decide (c.2.1<(specs.length:Int))&&decide (c.2.2.1<(specs.getD c.2.1.toNat (0,0,[],[])).2.1)
def a4r (specs:List SpT) (h:List HC6):Bool:=a1g h.length fun k=>b4p specs (h.getD k (0,0,0,0,0,0))
theorem b0Z {h:List HC6} (hok:okH h=true) {k:Nat} (hk:k<h.length):okC (h.getD k (0,0,0,0,0,0))=true:=by
  unfold okH at hok;simp only [Bool.and_eq_true] at hok;have:=P5.1 hok.2 k hk;unfold b00 at this;simp only [Bool.and_eq_true] at this;exact this.1
theorem b70 (specs:List SpT) (h:List HC6) (hok:okH h=true):a0v specs h=some (a4r specs h):=by
  unfold a0v a4r;have hl:=a3q hok;rw [a4Y (body:=N2 specs h) h.length (fun k=>b4p specs (h.getD k (0,0,0,0,0,0))) (fun k hk=>?_) (by unfold N2; rw [if_neg (by simp)]),Option.bind_some]
  · cases a1g h.length (fun k=>b4p specs (h.getD k (0,0,0,0,0,0)))<;>rfl
  · have hc:=a8a (b0Z hok hk);obtain ⟨c,hcd⟩:∃ c,c=h.getD k (0,0,0,0,0,0):=⟨_,rfl⟩;unfold N2 b4p;rw [if_pos (by simpa using hk),b5 (by simp),b5 (by omega),Int.toNat_natCast];rw [← hcd] at hc ⊢
    by_cases h1:c.2.1<(specs.length:Int)
    · rw [if_neg (by rw [decide_eq_true_eq]; omega),b5 (by omega),b5 h1,decide_eq_true h1]
      by_cases h2:c.2.2.1<(specs.getD c.2.1.toNat (0,0,[],[])).2.1
      · rw [if_neg (by rw [decide_eq_true_eq]; omega),b5 (D6 (by omega)),decide_eq_true h2]; rfl
      · rw [if_pos (by rw [decide_eq_true_eq]; omega),decide_eq_false h2]; rfl
    · rw [if_pos (by rw [decide_eq_true_eq]; omega),decide_eq_false h1]; rfl
def a2z (specs:List SpT) (i:Int):SpT:=specs.getD i.toNat (0,0,[],[])
def b9U (s:SpT) (q o:Int):Int:=(s.2.2.2.getD q.toNat []).getD o.toNat 0
def b02 (s:SpT) (q o:Int):Int:=(s.2.2.1.getD q.toNat []).getD o.toNat 0
def a1v (s:Int×Int) (i:Int):Int:=if i=0 then s.1 else s.2
def a7R (s:Int×Int) (i q:Int):Int×Int:=if i=0 then (q,s.2) else (s.1,q)
def a3W (specs:List SpT) (c:HC6):Bool:=inB 0 c.1 3&&inB 0 c.2.1 ((specs.length:Int) - 1)&&inB 0 c.2.2.1 ((a2z specs c.2.1).2.1 - 1)
def a91 (specs:List SpT) (s:Int×Int):Prop:=∀ i:Int,0≤i→i<(specs.length:Int)→0≤a1v s i∧a1v s i<(a2z specs i).1
theorem a39 {s:SpT} (h:(a19 s).ok=true):1≤s.1∧s.1≤8∧1≤s.2.1∧s.2.1≤4∧tab s.1 s.2.1 (inR s.1) s.2.2.1=true∧tab s.1 s.2.1 a5v s.2.2.2=true:=by
  unfold SpS.ok a19 at h;simp only [Bool.and_eq_true,decide_eq_true_eq] at h;exact ⟨h.1.1.1.1.1,h.1.1.1.1.2,h.1.1.1.2,h.1.1.2,h.1.2,h.2⟩
theorem a4H {st op:Int} {p:Int→Bool} {rs:List (List Int)} (h:tab st op p rs=true) {q o:Int} (hq:0≤q∧q<st) (ho:0≤o∧o<op):(rs.length:Int)=st∧((rs.getD q.toNat []).length:Int)=op∧p ((rs.getD q.toNat []).getD o.toNat 0)=true:=by
  unfold tab at h;simp only [Bool.and_eq_true,decide_eq_true_eq] at h;obtain ⟨h1,h2⟩:=h;have hlt:q.toNat<rs.length:=by omega
  have hr:=List.all_eq_true.1 h2 _ (List.getElem_mem hlt);have e1:rs.getD q.toNat []=rs[q.toNat]:=by rw [List.getD_eq_getElem?_getD,List.getElem?_eq_getElem hlt]; rfl
  simp only [Bool.and_eq_true,decide_eq_true_eq] at hr;rw [e1];have hlt2:o.toNat<rs[q.toNat].length:=by omega
  refine ⟨h1,hr.1,?_⟩;have e2:rs[q.toNat].getD o.toNat 0=rs[q.toNat][o.toNat]:=by rw [List.getD_eq_getElem?_getD,List.getElem?_eq_getElem hlt2]; rfl
  rw [e2];exact List.all_eq_true.1 hr.2 _ (List.getElem_mem hlt2)
theorem a5K {specs:List SpT} (h:a0D specs=true) {i:Int} (hi:0≤i∧i<(specs.length:Int)):(a19 (a2z specs i)).ok=true:=by
  unfold a0D at h;simp only [Bool.and_eq_true] at h;exact P5.1 h.2 i.toNat (by omega)
theorem a5J {specs:List SpT} (h:a0D specs=true):1≤(specs.length:Int)∧(specs.length:Int)≤2:=by
  unfold a0D at h;simp only [Bool.and_eq_true,decide_eq_true_eq] at h;exact h.1
theorem a3F {specs:List SpT} {c:HC6} (h:a3W specs c=true):(0≤c.1∧c.1≤3)∧(0≤c.2.1∧c.2.1<(specs.length:Int))∧0≤c.2.2.1∧c.2.2.1<(a2z specs c.2.1).2.1:=by
  unfold a3W inB at h;simp only [Bool.and_eq_true,decide_eq_true_eq] at h;omega
theorem b27 {specs:List SpT} (hs:a0D specs=true) {c:HC6} (hc:a3W specs c=true) {s:Int×Int} (h:a91 specs s):a91 specs (a7R s c.2.1 (b02 (a2z specs c.2.1) (a1v s c.2.1) c.2.2.1)):=by
  obtain ⟨_,ho,hp⟩:=a3F hc;have hl2:=a5J hs;obtain ⟨_,_,_,_,t1,_⟩:=a39 (a5K hs ho);have hq:=h c.2.1 ho.1 ho.2;obtain ⟨_,_,n3⟩:=a4H t1 hq hp;unfold inR at n3;have n4:=of_decide_eq_true n3;intro i hi0 hi1
  by_cases hic:i=c.2.1
  · subst hic;have:a1v (a7R s c.2.1 (b02 (a2z specs c.2.1) (a1v s c.2.1) c.2.2.1)) c.2.1=b02 (a2z specs c.2.1) (a1v s c.2.1) c.2.2.1:=by
      unfold a7R
      by_cases h0:c.2.1=0
      · rw [if_pos h0]; show (if c.2.1=0 then _ else _)=_; rw [if_pos h0]
      · rw [if_neg h0]; show (if c.2.1=0 then _ else _)=_; rw [if_neg h0]
    rw [this]; exact n4
  · have:a1v (a7R s c.2.1 (b02 (a2z specs c.2.1) (a1v s c.2.1) c.2.2.1)) i=a1v s i:=by
      unfold a7R a1v
      by_cases h0:c.2.1=0
      · have:¬ i=0:=fun h=>hic (by omega);simp [h0,this]
      · have:i=0:=by omega
        simp [h0,this]
    rw [this]; exact h i hi0 hi1
theorem a89 {specs:List SpT} (hs:a0D specs=true):a91 specs (0,0):=fun i h0 h1=>by
  have:=a39 (a5K hs ⟨h0,h1⟩);have e:a1v (0,0) i=0:=by unfold a1v; split<;>rfl
  rw [e]; omega
theorem b7U (n:Int):InK .u64 n↔0≤n∧n≤18446744073709551615:=by
  unfold InK; simp [IntKind.min,IntKind.max,IntKind.signed,IntKind.bits]
/-! ### Bits -/
def a3h (b:Int) (i:Nat):Bool:=b.toNat.testBit i
def a7o (b:Int) (i:Nat):Int:=((b.toNat ||| 2 ^ i:Nat):Int)
theorem b1H:∀ b<256,∀ i<8,decide (a5h .u64 ((b:Nat):Int) (a2C .u64 1 ((i:Nat):Int))=0)=!b.testBit i∧ior .u64 ((b:Nat):Int) (a2C .u64 1 ((i:Nat):Int))=((b ||| 2 ^ i:Nat):Int):=by decide +kernel
theorem a97 {b:Int} (hb:0≤b∧b<256) {i:Nat} (hi:i<8):decide (a5h .u64 b (a2C .u64 1 (i:Int))=0)=!a3h b i:=by
  have:=(b1H b.toNat (by omega) i hi).1;rw [Int.toNat_of_nonneg hb.1] at this;exact this
theorem b9m {b:Int} (hb:0≤b∧b<256) {i:Nat} (hi:i<8):ior .u64 b (a2C .u64 1 (i:Int))=a7o b i:=by
  have:=(b1H b.toNat (by omega) i hi).2;rw [Int.toNat_of_nonneg hb.1] at this;exact this
theorem b7K {b:Int} (hb:0≤b∧b<256) {i:Nat} (hi:i<8):0≤a7o b i∧a7o b i<256:=by
  unfold a7o;have:b.toNat ||| 2 ^ i<2 ^ 8:=Nat.or_lt_two_pow (by omega) (Nat.pow_lt_pow_right (by omega) hi);omega
theorem b8a (b:Int) (i j:Nat):a3h (a7o b i) j=(a3h b j || decide (i=j)):=by
  unfold a3h a7o;rw [Int.toNat_natCast,Nat.testBit_or,Nat.testBit_two_pow]
/-! ### Places -/
abbrev Pl:=(Int×Int)×Int
def hAt (h:List HC6) (i:Nat):HC6:=h.getD i (0,0,0,0,0,0)
def a4p (h:List HC6) (b:Int):Bool:=a1g h.length fun j=>decide ((hAt h j).2.2.2.2.2=0) || a3h b j
def a5d (h:List HC6) (b:Int) (i:Nat):Bool:=!a3h b i&&a1g h.length fun j=>!bef (hAt h j) (hAt h i) || a3h b j
def a71 (specs:List SpT) (s:Int×Int) (c:HC6):Int:=b9U (a2z specs c.2.1) (a1v s c.2.1) c.2.2.1
def a5r (specs:List SpT) (s:Int×Int) (c:HC6):Int×Int:=a7R s c.2.1 (b02 (a2z specs c.2.1) (a1v s c.2.1) c.2.2.1)
def b0o (specs:List SpT) (s:Int×Int) (c:HC6):Bool:=decide (c.2.2.2.2.2=0) || decide (a71 specs s c=c.2.2.2.1)
def nxt (specs:List SpT) (h:List HC6) (p:Pl) (i:Nat):Option Pl:=if (a5d h p.2 i&&b0o specs p.1 (hAt h i))=true then some (a5r specs p.1 (hAt h i),a7o p.2 i) else none
def a6w (specs:List SpT) (p:Pl):Prop:=a91 specs p.1∧(0≤p.2∧p.2<256)∧0≤p.1.1∧p.1.1≤8∧0≤p.1.2∧p.1.2≤8
theorem a6t (p:Pl) (i:Nat):D1 p (i:Int)=some ():=by
  unfold D1;rw [b5 (by omega)]
section
variable {specs:List SpT} {h:List HC6}
theorem b7Y (hl:h.length≤8) {p:Pl} (hp:a6w specs p):I4 specs h p=some (a4p h p.2):=by
  unfold I4 a4p;rw [a4Y (body:=v6 h p) h.length (fun j=>decide ((hAt h j).2.2.2.2.2=0) || a3h p.2 j) (fun k hk=>?_) (by unfold v6; rw [if_neg (by simp)]),Option.bind_some]
  · cases a1g h.length (fun j=>decide ((hAt h j).2.2.2.2.2=0) || a3h p.2 j)<;>rfl
  · unfold v6;rw [if_pos (by simpa using hk),b5 (by omega),b5 (by omega),Int.toNat_natCast]
    by_cases h0:(h.getD k (0,0,0,0,0,0)).2.2.2.2.2=0
    · rw [if_neg (by rw [decide_eq_true h0]; simp),b5 (D6 (by omega))];unfold hAt; rw [decide_eq_true h0]; rfl
    · rw [if_pos (by rw [decide_eq_false h0]; rfl),a6t,Option.bind_some,a97 hp.2.1 (by omega)];unfold hAt; rw [decide_eq_false h0]
      cases hb:a3h p.2 k with
      | false=>rfl
      | true=>rw [if_neg (by simp),b5 (D6 (by omega))]; rfl
theorem b2v (a b:HC6):G4 a b=some (bef b a):=by
  unfold G4;rw [a4N]; rfl
theorem b5y (hl:h.length≤8) {p:Pl} (hp:a6w specs p) {i:Nat} (hi:i<h.length):G3 specs h p (i:Int)=some (a5d h p.2 i):=by
  unfold G3 a5d;rw [a6t,Option.bind_some,a97 hp.2.1 (by omega)]
  cases hb:a3h p.2 i with
  | true=>rfl
  | false =>
    rw [if_neg (by simp)];rw [a4Y (body:=u7 h p (i:Int)) h.length (fun j=>!bef (hAt h j) (hAt h i) || a3h p.2 j) (fun k hk=>?_) (by unfold u7; rw [if_neg (by simp)]),Option.bind_some]
    · cases a1g h.length (fun j=>!bef (hAt h j) (hAt h i) || a3h p.2 j)<;>rfl
    · unfold u7;rw [if_pos (by simpa using hk),b5 (by omega),b5 (by omega),b5 (by omega),b5 (by omega),Int.toNat_natCast,Int.toNat_natCast,b2v,Option.bind_some];unfold hAt
      cases hbf:bef (h.getD k (0,0,0,0,0,0)) (h.getD i (0,0,0,0,0,0)) with
      | false=>rw [if_neg (by simp),b5 (D6 (by omega))]; rfl
      | true =>
        rw [if_pos rfl,a6t,Option.bind_some,a97 hp.2.1 (by omega)]
        cases hb:a3h p.2 k with
        | false=>rfl
        | true=>rw [if_neg (by simp),b5 (D6 (by omega))]; rfl
theorem b2R (hs:a0D specs=true) {c:HC6} (hc:a3W specs c=true) {p:Pl} (hp:a91 specs p.1) :
    E5 specs c p=some (a71 specs p.1 c,a5r specs p.1 c):=by
  obtain ⟨_,ho,hop⟩:=a3F hc;have hl2:=a5J hs;obtain ⟨_,_,_,_,t1,t2⟩:=a39 (a5K hs ho);have hq:=hp c.2.1 ho.1 ho.2;obtain ⟨n1,n2,n3⟩:=a4H t1 hq hop;obtain ⟨a1,a2,a3⟩:=a4H t2 hq hop;unfold E5;rw [b5 ho.1,b5 ho.2,b5 ho.1,b5 (by omega)]
  by_cases h0:c.2.1=0
  · rw [if_pos (by rw [decide_eq_true h0])];have e0:a2z specs c.2.1=specs.getD 0 (0,0,[],[]):=by unfold a2z; rw [h0]; rfl
    have e1:a1v p.1 c.2.1=p.1.1:=by unfold a1v; rw [if_pos h0]
    unfold a71 a5r;rw [e0] at n1 a1 hop;rw [e0,e1] at n2 a2 hq ⊢;unfold t5;simp only;rw [b5 hq.1,b5 (by omega),b5 hop.1,b5 (by omega),b5 (by omega),b5 (by omega),if_pos (by rfl)];unfold s8;simp only;rw [b5 hq.1,b5 (by omega),b5 hop.1,b5 (by omega)];unfold a7R; rw [if_pos h0]; rfl
  · rw [if_neg (by rw [decide_eq_false h0]; simp)];have h1:c.2.1=1:=by omega
    have e0:a2z specs c.2.1=specs.getD 1 (0,0,[],[]):=by unfold a2z; rw [h1]; rfl
    have e1:a1v p.1 c.2.1=p.1.2:=by unfold a1v; rw [if_neg h0]
    unfold a71 a5r;rw [e0] at n1 a1 hop;rw [e0,e1] at n2 a2 hq ⊢;unfold t5;simp only;rw [b5 hq.1,b5 (by omega),b5 hop.1,b5 (by omega),b5 (by omega),b5 (by omega),if_neg (by simp)];unfold s8;simp only;rw [b5 hq.1,b5 (by omega),b5 hop.1,b5 (by omega)];unfold a7R; rw [if_neg h0]; rfl
theorem b6q (hs:a0D specs=true) {c:HC6} (hc:a3W specs c=true) {p:Pl} (hp:a91 specs p.1) :
    G0 specs c p=some (b0o specs p.1 c,a5r specs p.1 c):=by
  unfold G0 b0o;rw [b2R hs hc hp,Option.bind_some]
  by_cases h0:c.2.2.2.2.2=0
  · rw [if_pos (by rw [decide_eq_true h0]),decide_eq_true h0]; rfl
  · rw [if_neg (by rw [decide_eq_false h0]; simp),decide_eq_false h0]; rfl
theorem b9D {S R:Type} (n:Nat) (I:Nat→S→Prop) (G:R→Prop) {body:Int×S→Option (Step (Int×S) R)} {s0:S} (h0:I 0 s0)
    (h:∀ (k:Nat) (s:S),k<n→I k s→(∃ s',body ((k:Int),s)=some (.next ((k:Int)+1,s'))∧I (k+1) s')∨∃ r,body ((k:Int),s)=some (.done r)∧G r)
    (hd:∀ s,I n s→∃ r,body ((n:Int),s)=some (.done r)∧G r):∃ r,g9 body (0,s0)=some r∧G r:=by
  refine a1E (S:=Int×S) (fun s:Int×S=>∃ k:Nat,s.1=(k:Int)∧k≤n∧I k s.2) (fun s:Int×S=>n - s.1.toNat) G ?_ (0,s0) ⟨0,rfl,Nat.zero_le _,h0⟩
  rintro ⟨q,s⟩ ⟨k,hq,hk,hI⟩
  simp only at hq hI;subst hq
  by_cases hlt:k<n
  · rcases h k s hlt hI with ⟨s',h1,h2⟩|h1
    · exact .inl ⟨_,h1,⟨k+1,by simp,by omega,h2⟩,by simp; omega⟩
    · exact .inr h1
  · have:k=n:=by omega
    subst this;exact .inr (hd s hI)
theorem b1Z (hs:a0D specs=true) (hl:h.length≤8) (hc:∀ i,i<h.length→a3W specs (hAt h i)=true) {p:Pl} (hp:a6w specs p) {S R:Type} (yl:Int×Pl→S→Option (Step S R)) (I:Nat→S→Prop) (G:R→Prop) {s0:S} (h0:I 0 s0)
    (hn:∀ k,k<h.length→∀ s,nxt specs h p k=none→I k s→I (k+1) s)
    (hy:∀ k,k<h.length→∀ s q,nxt specs h p k=some q→I k s→(∃ s',yl ((k:Int),q) s=some (.next s')∧I (k+1) s')∨∃ r,yl ((k:Int),q) s=some (.done r)∧G r) :
    ∃ x,D0 S R specs h p yl s0=some x∧match x with
      | .inl s=>I h.length s
      | .inr r=>G r:=by
  obtain ⟨r,er,hr⟩:=b9D (R:=Sum R S) h.length I (fun x:Sum R S=>match x with
      | .inl r=>G r
      | .inr s=>I h.length s) (body:=s4 S R specs h p yl) (s0:=s0) h0 (fun k s hk hI=>by
    unfold s4;simp only;rw [if_pos (by simpa using hk),b5 (by omega),b5 (by omega),b5y hl hp hk,Option.bind_some,Int.toNat_natCast]
    cases hr:a5d h p.2 k with
    | false =>
      rw [if_pos (by rfl),b5 (D6 (by omega))];exact .inl ⟨_,rfl,hn k hk s (by unfold nxt; rw [hr]; rfl) hI⟩
    | true =>
      have ha:=b6q hs (hc k hk) hp.1;rw [if_neg (by simp),show h.getD k (0,0,0,0,0,0)=hAt h k from rfl,ha,Option.bind_some]
      cases hw:b0o specs p.1 (hAt h k) with
      | false =>
        simp only;rw [if_pos (by rfl),b5 (D6 (by omega))];exact .inl ⟨_,rfl,hn k hk s (by unfold nxt; rw [hr,hw]; rfl) hI⟩
      | true =>
        simp only;rw [if_neg (by simp),b5 (by omega),b9m hp.2.1 (by omega)];rcases hy k hk s (a5r specs p.1 (hAt h k),a7o p.2 k) (by unfold nxt; rw [hr,hw]; rfl) hI with ⟨s',e,hI'⟩|⟨r,e,hG⟩
        · rw [e,Option.bind_some];simp only;rw [b5 (D6 (by omega))];exact .inl ⟨_,rfl,hI'⟩
        · rw [e,Option.bind_some];exact .inr ⟨_,rfl,hG⟩) (fun s hI=>by
    unfold s4;rw [if_neg (by simp)]
    exact ⟨_,rfl,hI⟩)
  unfold D0;rw [er,Option.bind_some]
  cases r with
  | inl r=>exact ⟨_,rfl,hr⟩
  | inr s=>exact ⟨_,rfl,hr⟩
/-! ### How many orders -/
def J4 (f:Nat→Nat):Nat→Nat
  | 0=>0
  | k+1=>J4 f k+f k
theorem b5n (f:Nat→Nat) {k n:Nat} (h:k≤n):J4 f k≤J4 f n:=by
  induction n with
  | zero =>
    have:k=0:=by omega
    subst this; exact Nat.le_refl _
  | succ n ih =>
    by_cases e:k=n+1
    · subst e; exact Nat.le_refl _
    · have:=ih (by omega); show J4 f k≤J4 f n+f n; omega
def J3 (V:Pl→Nat) (o:Option Pl):Nat:=match o with
  | none=>0
  | some q=>V q
def Mem (V:Pl→Nat) (M:List (Pl×Int)):Prop:=∀ p,a2A M p=true→a2W 0 M p=(V p:Int)
theorem b05:∀ (M:List (Pl×Int)) (p q:Pl) (v:Int),a2A (a1m M p v) q=(decide (p=q) || a2A M q)
  | [],p,q,v=>by simp [a1m,a2A]
  | (k,w)::r,p,q,v=>by
    unfold a1m
    by_cases h1:k=p
    · subst h1;rw [if_pos rfl];unfold a2A
      by_cases h2:k=q<;>simp [h2]
    · rw [if_neg h1];unfold a2A
      by_cases h2:k=q
      · simp [h2]
      · simp [h2,b05 r p q v]
theorem b06:∀ (M:List (Pl×Int)) (p q:Pl) (v:Int),a2W 0 (a1m M p v) q=if p=q then v else a2W 0 M q
  | [],p,q,v=>by simp [a1m,a2W]
  | (k,w)::r,p,q,v=>by
    unfold a1m
    by_cases h1:k=p
    · subst h1;rw [if_pos rfl];unfold a2W
      by_cases h2:k=q<;>simp [h2]
    · rw [if_neg h1];unfold a2W
      by_cases h2:k=q
      · subst h2;rw [if_pos rfl,if_pos rfl,if_neg (fun e=>h1 e.symm)]
      · simp [h2,b06 r p q v]
theorem Mem.put {V:Pl→Nat} {M:List (Pl×Int)} (hM:Mem V M) (p:Pl):Mem V (a1m M p (V p:Int)):=fun q hq=>by
  rw [b05] at hq;rw [b06]
  by_cases e:p=q
  · subst e; rw [if_pos rfl]
  · rw [if_neg e];refine hM q ?_;simpa [e] using hq
theorem b57 (hs:a0D specs=true) (hl:h.length≤8) (hc:∀ i,i<h.length→a3W specs (hAt h i)=true) (ok:Pl→Prop) (V μ:Pl→Nat) (hok:∀ p,ok p→a6w specs p)
    (hstep:∀ p,ok p→∀ i q,i<h.length→nxt specs h p i=some q→ok q∧μ q<μ p)
    (hV:∀ p,ok p→V p=(if a4p h p.2=true then 1 else 0)+J4 (fun i=>J3 V (nxt specs h p i)) h.length) (hb:∀ p,ok p→V p≤1000000000) :
    ∀ (m:Nat) (p:Pl),ok p→μ p≤m→∀ n,m<n→∀ M,Mem V M→∃ M',r8 n specs h p M=some ((V p:Int),M')∧Mem V M':=by
  intro m
  induction m using Nat.strongRecOn with
  | _ m ih =>
    intro p hp hm n hn M hM;obtain ⟨n,rfl⟩:∃ n',n=n'+1:=⟨n - 1,by omega⟩;have hpl:=hok p hp;show ∃ M',E6 (r8 n) specs h p M=some ((V p:Int),M')∧Mem V M';have w:=hpl.2;have hi1:InK .i64 p.1.1:=by rw [m5]; omega
    have hi2:InK .i64 p.1.2:=by rw [m5]; omega
    have hi3:InK .u64 p.2:=by rw [b7U]; omega
    unfold E6;rw [b5 hi1,b5 hi2,b5 hi3]
    cases hh:a2A M p with
    | true =>
      rw [if_pos rfl];exact ⟨M,by rw [hM p hh],hM⟩
    | false =>
      rw [if_neg (by simp),b7Y hl hpl,Option.bind_some];have main:∀ b0:Nat,b0=(if a4p h p.2=true then 1 else 0)→∃ M',u9 (r8 n) specs h p M (b0:Int)=some ((V p:Int),M')∧Mem V M':=by
        intro b0 hb0;have hVp:=hV p hp;have hbp:=hb p hp;obtain ⟨x,ex,hx⟩:=b1Z (S:=List (Pl×Int)×Int) (R:=Empty) hs hl hc hpl (r4 (r8 n) specs h) (fun k s=>Mem V s.1∧s.2=((b0+J4 (fun i=>J3 V (nxt specs h p i)) k:Nat):Int)) (fun _=>True) (s0:=(M,(b0:Int))) ⟨hM,by simp [J4]⟩
          (fun k hk s hnx ⟨h1,h2⟩=>⟨h1,by rw [h2]; show _=((b0+(J4 _ k+J3 V (nxt specs h p k)):Nat):Int); rw [hnx]; rfl⟩)
          (fun k hk s q hnx ⟨h1,h2⟩=>by
            obtain ⟨o1,o2⟩:=hstep p hp k q hk hnx;obtain ⟨M',e,hM'⟩:=ih (μ q) (by omega) q o1 (Nat.le_refl _) n (by omega) s.1 h1;refine .inl ?_;unfold r4;simp only;rw [e,Option.bind_some];simp only;have hle:=b5n (fun i=>J3 V (nxt specs h p i)) (k:=k+1) (n:=h.length) (by omega);have e1:J4 (fun i=>J3 V (nxt specs h p i)) (k+1)=J4 (fun i=>J3 V (nxt specs h p i)) k+V q:=by
              show J4 _ k+J3 V (nxt specs h p k)=_;rw [hnx]; rfl
            have e2:s.2+(V q:Int)=((b0+J4 (fun i=>J3 V (nxt specs h p i)) (k+1):Nat):Int):=by
              rw [h2,e1]; omega
            rw [e2];rw [b5 (by rw [m5]; omega)]
            exact ⟨_,rfl,hM',rfl⟩)
        unfold u9;rw [show P2 specs h p=some () from rfl,Option.bind_some,ex,Option.bind_some]
        cases x with
        | inr r=>exact r.elim
        | inl s =>
          obtain ⟨h1,h2⟩:=hx;have e3:s.2=(V p:Int):=by rw [h2,hVp,hb0]
          simp only;unfold H6;rw [b5 hi1,b5 hi2,b5 hi3,e3];exact ⟨_,rfl,h1.put p⟩
      cases hf:a4p h p.2 with
      | true=>rw [if_pos rfl]; exact main 1 (by rw [hf]; rfl)
      | false=>rw [if_neg (by simp)]; exact main 0 (by rw [hf]; rfl)
theorem a92 (hs:a0D specs=true) {p q:Pl} (hp:a6w specs p) {i:Nat} (hi:i<8) (hc:a3W specs (hAt h i)=true) (e:nxt specs h p i=some q):a6w specs q:=by
  unfold nxt at e
  split at e
  · injection e with e;subst e;obtain ⟨_,ho,hop⟩:=a3F hc;have hl2:=a5J hs;have hsp:=a39 (a5K hs ho);obtain ⟨_,_,n3⟩:=a4H hsp.2.2.2.2.1 (hp.1 _ ho.1 ho.2) hop;unfold inR at n3;have n4:=of_decide_eq_true n3;have n5:0≤b02 (a2z specs (hAt h i).2.1) (a1v p.1 (hAt h i).2.1) (hAt h i).2.2.1∧b02 (a2z specs (hAt h i).2.1) (a1v p.1 (hAt h i).2.1) (hAt h i).2.2.1≤8:=⟨n4.1,by have:=n4.2; unfold b02; omega⟩;refine ⟨b27 hs hc hp.1,b7K hp.2.1 hi,?_⟩;unfold a5r a7R;have:=hp.2.2
    split<;>simp only<;>omega
  · cases e
end
/-! ### The number of orders -/
def CF (specs:List SpT) (h:List HC6):Nat→Pl→Nat
  | 0,_=>0
  | d+1,p=>(if a4p h p.2=true then 1 else 0)+J4 (fun i=>J3 (CF specs h d) (nxt specs h p i)) h.length
theorem b0s (specs:List SpT) (h:List HC6) (d:Nat) (p:Pl):CF specs h (d+1) p=(if a4p h p.2=true then 1 else 0)+J4 (fun i=>J3 (CF specs h d) (nxt specs h p i)) h.length:=rfl
def a4c (p:Pl):Nat:=(List.range 8).countP fun j=>!a3h p.2 j
theorem b5K:∀ b<256,∀ i<8,Nat.testBit b i=false→((List.range 8).countP fun j=>!(b ||| 2 ^ i).testBit j)<((List.range 8).countP fun j=>!b.testBit j):=by decide +kernel
theorem b5J {b:Int} (hb:0≤b∧b<256) {i:Nat} (hi:i<8) (h0:a3h b i=false) {s s':Int×Int}:a4c (s',a7o b i)<a4c (s,b):=by
  have:=b5K b.toNat (by omega) i hi h0;unfold a4c a3h a7o;simp only [Int.toNat_natCast];exact this
theorem b1e (p:Pl):a4c p≤8:=by
  unfold a4c;exact Nat.le_trans List.countP_le_length (by simp)
theorem a47 {f g:Nat→Nat}:∀ {n:Nat},(∀ i,i<n→f i=g i)→J4 f n=J4 g n
  | 0,_=>rfl
  | n+1,h=>by
    show J4 f n+f n=J4 g n+g n;rw [a47 fun i hi=>h i (by omega),h n (by omega)]
theorem a61 {f:Nat→Nat} {B:Nat}:∀ {n:Nat},(∀ i,i<n→f i≤B)→J4 f n≤n*B
  | 0,_=>by simp [J4]
  | n+1,h=>by
    show J4 f n+f n≤(n+1)*B;have:=a61 (n:=n) fun i hi=>h i (by omega);have:=h n (by omega);rw [Nat.add_mul]; omega
section
variable {specs:List SpT} {h:List HC6}
theorem a8b {p q:Pl} (hp:a6w specs p) {i:Nat} (hi:i<8) (e:nxt specs h p i=some q):a4c q<a4c p:=by
  unfold nxt at e
  split at e
  · rename_i hr;injection e with e;subst e;unfold a5d at hr;simp only [Bool.and_eq_true,Bool.not_eq_true'] at hr;exact b5J hp.2.1 hi hr.1.1
  · cases e
theorem b1T (hl:h.length≤8):∀ (d:Nat) (p:Pl),CF specs h d p≤9 ^ d
  | 0,p=>by simp [CF]
  | d+1,p=>by
    show (if a4p h p.2=true then 1 else 0)+J4 _ h.length≤9 ^ (d+1);have h1:J4 (fun i=>J3 (CF specs h d) (nxt specs h p i)) h.length≤h.length*9 ^ d:=a61 fun i hi=>by
      cases nxt specs h p i with
      | none=>exact Nat.zero_le _
      | some q=>exact b1T hl d q
    have h2:h.length*9 ^ d≤8*9 ^ d:=Nat.mul_le_mul_right _ hl;have h3:0<9 ^ d:=Nat.pow_pos (by omega);rw [Nat.pow_succ]
    split<;>omega
theorem a9F (hs:a0D specs=true) (hl:h.length≤8) (hc:∀ i,i<h.length→a3W specs (hAt h i)=true):∀ (d d':Nat) (p:Pl),a6w specs p→a4c p<d→a4c p<d'→CF specs h d p=CF specs h d' p
  | 0,_,_,_,hd,_=>by omega
  | d+1,0,_,_,_,hd=>by omega
  | d+1,d'+1,p,hp,hd,hd'=>by
    show _+J4 _ h.length=_+J4 _ h.length;congr 1;refine a47 fun i hi=>?_
    cases e:nxt specs h p i with
    | none=>rfl
    | some q =>
      have:=a8b hp (by omega) e;exact a9F hs hl hc d d' q (a92 hs hp (by omega) (hc i hi) e) (by omega) (by omega)
def b78 (specs:List SpT) (h:List HC6):Nat:=CF specs h 9 ((0,0),0)
theorem a88 (hs:a0D specs=true):a6w specs ((0,0),0):=⟨a89 hs,by decide,by decide⟩
theorem b8x (hs:a0D specs=true) (hl:h.length≤8) (hc:∀ i,i<h.length→a3W specs (hAt h i)=true) (d:Nat) (p:Pl) (hp:a6w specs p) (hd:a4c p≤d):CF specs h (d+1) p=(if a4p h p.2=true then 1 else 0)+J4 (fun i=>J3 (CF specs h (d+1)) (nxt specs h p i)) h.length:=by
  have e1:J4 (fun i=>J3 (CF specs h d) (nxt specs h p i)) h.length=J4 (fun i=>J3 (CF specs h (d+1)) (nxt specs h p i)) h.length:=a47 fun i hi=>by
    have key:∀ o,nxt specs h p i=o→J3 (CF specs h d) o=J3 (CF specs h (d+1)) o:=fun o e=>by
      cases o with
      | none=>rfl
      | some q =>
        have h1:=a8b hp (by omega) e;exact a9F hs hl hc d (d+1) q (a92 hs hp (by omega) (hc i hi) e) (by omega) (by omega)
    exact key _ rfl
  rw [← e1];exact b0s specs h d p
theorem b8y (hs:a0D specs=true) (hl:h.length≤8) (hc:∀ i,i<h.length→a3W specs (hAt h i)=true) (p:Pl) (hp:a6w specs p):CF specs h 9 p=(if a4p h p.2=true then 1 else 0)+J4 (fun i=>J3 (CF specs h 9) (nxt specs h p i)) h.length :=
  b8x hs hl hc 8 p hp (b1e p)
theorem b9v (hs:a0D specs=true) (hl:h.length≤8) (hc:∀ i,i<h.length→a3W specs (hAt h i)=true):∃ M,r8 I3 specs h ((0,0),0) []=some ((b78 specs h:Int),M):=by
  have hV:=b8y hs hl hc;have hB:=fun p=>Nat.le_trans (b1T (specs:=specs) (h:=h) hl 9 p) (show 9 ^ 9≤1000000000 by decide);unfold b78;generalize CF specs h 9=V at hV hB;obtain ⟨M,e,_⟩:=b57 hs hl hc (a6w specs) V a4c (fun _ h=>h) (fun p hp i q hi e=>⟨a92 hs hp (by omega) (hc i hi) e,a8b hp (by omega) e⟩)
    hV (fun p _=>hB p) 8 ((0,0),0) (a88 hs) (b1e _) I3 (by decide) [] (fun p hp=>by cases hp)
  exact ⟨M,e⟩
end
theorem b0n {specs:List SpT} {h:List HC6} (h1:okH h=true) (h2:a4r specs h=true) {i:Nat} (hi:i<h.length):a3W specs (hAt h i)=true:=by
  have c1:=a8a (b0Z h1 hi);unfold a4r at h2;have c2:=P5.1 h2 i hi;unfold b4p at c2;simp only [Bool.and_eq_true,decide_eq_true_eq] at c2;unfold a3W inB a2z hAt;simp only [Bool.and_eq_true,decide_eq_true_eq];omega
theorem a3D {specs:List SpT} (hs:∀ s∈specs,okS s) (hl:specs.length≤1000) (hk:a0D specs=true) {h:List HC6} (h1:okH h=true) (h2:a4r specs h=true):F2 specs h=some 0:=by
  unfold F2;rw [a8W specs hs hl,hk,if_pos rfl,Option.bind_some,if_neg (by simp),b41,h1,Option.bind_some,if_neg (by simp),b70 specs _ h1,h2]; rfl
theorem b40 {specs:List SpT} (hs:∀ s∈specs,okS s) (hl:specs.length≤1000) (hk:a0D specs=true) {h:List HC6} (h1:okH h=true) (h2:a4r specs h=true):R2 specs h=some (decide (0<b78 specs h),0):=by
  obtain ⟨M,e⟩:=b9v hk (a3q h1) (fun i hi=>b0n h1 h2 hi);unfold R2;rw [a3D hs hl hk h1 h2,Option.bind_some,if_pos (by rfl)];unfold a0u X0;rw [show T9 specs h=some () from rfl,Option.bind_some,e,Option.bind_some,Option.bind_some,Option.bind_some];congr 2;exact decide_eq_decide.2 (by simp)
theorem b0y {f:Nat→Nat} {k:Nat}:∀ {n:Nat},k<n→f k≤J4 f n
  | 0,h=>by omega
  | n+1,h=>by
    show f k≤J4 f n+f n
    by_cases e:k=n
    · subst e; omega
    · have:=b0y (f:=f) (k:=k) (n:=n) (by omega); omega
/-! ### The calls that have b3w -/
/-! ### It is a history -/
/-! ### It was linearisable -/
section
variable {specs:List SpT} {h:List HC6} {m:Int}
end
/-! ### A history at a moment,at an earlier one -/
/-! ### Places that are reached -/
theorem a9h {u:Us} {st:St} {x:Int} (h:rB x (u.length:Int)=true∧a2J u st x.toNat=true):x∈v5 u st:=by
  have hb:=r7.1 h.1;exact List.mem_flatMap.2 ⟨x.toNat,List.mem_range.2 (by omega),by rw [if_pos h.2,show (x.toNat:Int)=x by omega]; exact List.mem_singleton.2 rfl⟩
theorem b3n {p:Cd} {u:Us}:∀ (k:Nat) (st st':St),st'∈a3N p u k st→∃ l,goA p u st l=some st'∧l.length≤k∧(v5 u st'=[]∨l.length=k)
  | 0,st,st',h=>⟨[],by rw [List.mem_singleton.1 h]; rfl,Nat.le_refl _,.inr rfl⟩
  | k+1,st,st',h=>by
    unfold a3N at h
    split at h
    · rename_i c;exact ⟨[],by rw [List.mem_singleton.1 h]; rfl,by simp,.inl (by rw [List.mem_singleton.1 h]; exact c)⟩
    · obtain ⟨x,hx,hm⟩:=List.mem_flatMap.1 h;obtain ⟨l,h1,h2,h3⟩:=b3n k _ st' hm;exact ⟨x::l,by rw [a08,if_pos (a6y hx)]; exact h1,by simp; omega,by rcases h3 with q|q; exact .inl q; exact .inr (by simp; omega)⟩
theorem b3m (p:Cd) (u:Us):∀ (k:Nat) (st:St),∃ st',st'∈a3N p u k st
  | 0,st=>⟨st,List.mem_singleton.2 rfl⟩
  | k+1,st=>by
    unfold a3N
    split
    · exact ⟨st,List.mem_singleton.2 rfl⟩
    · rename_i c
      cases hL:v5 u st with
      | nil=>exact absurd hL c
      | cons x r =>
        obtain ⟨st',h⟩:=b3m p u k (N5 p u st x.toNat);exact ⟨st',List.mem_flatMap.2 ⟨x,List.mem_cons_self,h⟩⟩
theorem b3g {p:Cd} {u:Us}:∀ (l:List Int) (k:Nat) (st st':St),goA p u st l=some st'→l.length≤k→∃ st2∈a3N p u k st,∃ r,goA p u st' r=some st2
  | [],k,st,st',h,_=>by
    injection h with h;subst h;obtain ⟨st2,h2⟩:=b3m p u k st;obtain ⟨r,h3,_⟩:=b3n k st st2 h2;exact ⟨st2,h2,r,h3⟩
  | x::l,0,st,st',h,hk=>by simp at hk
  | x::l,k+1,st,st',h,hk=>by
    rw [a08] at h
    split at h
    · rename_i c;obtain ⟨st2,h2,r,h3⟩:=b3g l k _ st' h (by simp at hk; omega);have hx:=a9h c;refine ⟨st2,?_,r,h3⟩;unfold a3N;rw [if_neg (fun e=>by rw [e] at hx; cases hx)];exact List.mem_flatMap.2 ⟨x,hx,h2⟩
    · cases h
/-! ### Linearisable histories -/
def b7T (s:SpT) (h:ZH):Bool:=decide (0<b78 [s] h)
theorem b0Y {s:SpT} (h:(a19 s).ok=true):a0D [s]=true:=by
  unfold a0D;have:a1g 1 (fun k=>(a19 (([s]:List SpT).getD k (0,0,[],[]))).ok)=true:=P5.2 fun k hk=>by
    have:k=0:=by omega
    subst this; exact h
  simp only [List.length_singleton];rw [this]; rfl
theorem a98 {p:Cd} {u:Us} {s:SpT} (ho:s.2.1=(p.length:Int)) {hs:List Hd} {hist:ZH} {a b:Int} (H:HI p u hs hist a b):a4r [s] hist=true:=by
  unfold a4r;refine P5.2 fun k hk=>?_;have O:=H.ok k hk;unfold b4p;rw [O.ob];have:=O.op;simp only [Bool.and_eq_true,decide_eq_true_eq];exact ⟨by simp,by rw [← ho] at this; exact this.2⟩
theorem b0a {p:Cd} {u:Us} (hp:K1 p=true) (hu:J9 p u=true) {st:St} (G:Good p u st) (h12:st.sc.length≤12):okH st.hist=true:=by
  obtain ⟨_,_,_,_,_,R⟩:=G.rl;exact b9K (a1F hp).2 (Q2 hu).2.1 G.hi (a2p hu R.inv) (by omega) (by omega)
theorem b9f {p:Cd} {u:Us} (hp:K1 p=true) (hu:J9 p u=true) {s:SpT} (hs:okS s) (hk:(a19 s).ok=true) (ho:s.2.1=(p.length:Int)) {st:St} (G:Good p u st) (h12:st.sc.length≤12):R2 [s] st.hist=some (b7T s st.hist,0) :=
  b40 (fun z hz=>by rw [List.mem_singleton.1 hz]; exact hs) (by simp) (b0Y hk) (b0a hp hu G h12) (a98 ho G.hi)
/-! ### The first schedule that breaks -/
theorem b3V {c:Cd} (hf:a2t c) (hc:K1 c=true) (u:Us) (n:Int):R7 c u n=some (if J9 c u=true then (if rB n 13=true then .inr () else .inl 2) else .inl 81):=by
  unfold R7;rw [a7d hf,Option.bind_some];unfold a6M;rw [hc,if_pos rfl]
  cases hu:J9 c u with
  | false=>rfl
  | true =>
    rw [if_pos rfl,if_pos rfl,if_neg (by simp),U8,Option.bind_some]
    cases hb:rB n 13 with
    | false=>rfl
    | true=>rfl
theorem b5b {s:SpT} (hs:okS s) {c:Cd} (hf:a2t c) (u:Us) (sc:List Int):a0o s c u sc=some (if K1 c=true then (if (a19 s).ok=true∧s.2.1=(c.length:Int) then b7F false (fun st=>!b7T s st.hist) (a5f c u sc) else (false,10)) else (false,80)):=by
  unfold a0o;rw [a6a hs hf,Option.bind_some]
  cases hc:K1 c with
  | false=>rfl
  | true =>
    rw [if_pos rfl,if_pos rfl]
    by_cases hsp:(a19 s).ok=true∧s.2.1=(c.length:Int)
    · rw [if_pos hsp,if_pos hsp,if_neg (by simp)];rcases b21 hf u sc with ⟨e,he,o,a⟩|⟨hc',hu,st,D,W,K,bg,mk,o,R,a⟩
      · rw [a,o,Option.bind_some,if_pos (by simp [he])];rfl
      · have hg:goA c u (st0 u) sc=some st∧sc.length≤12:=by
          unfold a5f at o
          split at o
          · split at o
            · rename_i h12
              split at o
              · rename_i st' e; injection o with o; subst o; exact ⟨e,h12⟩
              · cases o
            · cases o
          · cases o
        have G:=(a7E hc hu hg.1 (b1r hu) (by show 0+sc.length≤12; omega)).1;rw [a,o,Option.bind_some];dsimp only;rw [if_neg (by simp)];unfold Z9;rw [a6P hu R _ _ (st.v.1,st.v.2.1,st.v.2.2),Option.bind_some,b9f hc hu hs hsp.1 hsp.2 G (by rw [b0b hg.1]; exact hg.2),Option.bind_some,Option.bind_some];rfl
    · rw [if_neg hsp,if_neg hsp,if_pos (by simp)]
end Go.Proofs.YtanaeefeggokkaaGreat
