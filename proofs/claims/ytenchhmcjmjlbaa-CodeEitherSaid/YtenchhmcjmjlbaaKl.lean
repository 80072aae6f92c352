import Derived.Test.YtenchhmcjmjlbaaK14
namespace Go.Proofs.Ytenchhmcjmjlbaa
open Go.RowKit
set_option linter.unusedVariables false
set_option linter.unusedSimpArgs false
set_option maxRecDepth 10000
def a0X (specs:List SpT):Bool:=(decide (1≤(specs.length:Int))&&decide ((specs.length:Int)≤2))&&a35 specs.length fun k=>(a0r (specs.getD k (0,0,[],[]))).ok
theorem b20 {specs:List SpT} {k:Nat} (hk:k<specs.length):specs.getD k (0,0,[],[])∈specs:=by
  rw [List.getD_eq_getElem?_getD,List.getElem?_eq_getElem hk]
  exact List.getElem_mem hk
theorem a71 (specs:List SpT) (hs:∀ s∈specs,okS s) (hl:specs.length≤1000):K6 specs=some (if a0X specs=true then 0 else 10):=by
  unfold K6 a0X
  rw [a7t,Option.bind_some]
  cases hw:(decide (1≤(specs.length:Int))&&decide ((specs.length:Int)≤2)) with
  | false=>rfl
  | true =>
    simp only [Bool.not_true,Bool.false_eq_true,if_false,Bool.true_and]
    rw [a8k (body:=y6 specs) specs.length (fun k=>(a0r (specs.getD k (0,0,[],[]))).ok) (fun k hk=>?_) (by unfold y6; rw [if_neg (by simp)]),Option.bind_some]
    · cases a35 specs.length (fun k=>(a0r (specs.getD k (0,0,[],[]))).ok)<;>rfl
    · unfold y6
      rw [if_pos (by simpa using hk),b4 (by simp),b4 (by omega),Int.toNat_natCast,a69 _ (hs _ (b20 hk)),Option.bind_some]
      cases (a0r (specs.getD k (0,0,[],[]))).ok with
      | false=>rfl
      | true=>simp only [Bool.not_true,Bool.false_eq_true,if_false,if_true]; rw [b4 (P4 (by omega))]
def b0q (specs:List SpT) (c:HC6):Bool:=decide (c.2.1<(specs.length:Int))&&decide (c.2.2.1<(specs.getD c.2.1.toNat (0,0,[],[])).2.1)
def a2q (specs:List SpT) (h:List HC6):Bool:=a35 h.length fun k=>b0q specs (h.getD k (0,0,0,0,0,0))
theorem a4V {h:List HC6} (hok:okH h=true) {k:Nat} (hk:k<h.length):okC (h.getD k (0,0,0,0,0,0))=true:=by
  unfold okH at hok
  simp only [Bool.and_eq_true] at hok
  have:=C8.1 hok.2 k hk
  unfold a9X at this
  simp only [Bool.and_eq_true] at this
  exact this.1
theorem b6F (specs:List SpT) (h:List HC6) (hok:okH h=true):Y9 specs h=some (a2q specs h):=by
  unfold Y9 a2q
  have hl:=a4U hok
  rw [a8k (body:=M0 specs h) h.length (fun k=>b0q specs (h.getD k (0,0,0,0,0,0))) (fun k hk=>?_) (by unfold M0; rw [if_neg (by simp)]),Option.bind_some]
  · cases a35 h.length (fun k=>b0q specs (h.getD k (0,0,0,0,0,0)))<;>rfl
  · have hc:=a3o (a4V hok hk)
    obtain ⟨c,hcd⟩:∃ c,c=h.getD k (0,0,0,0,0,0):=⟨_,rfl⟩
    unfold M0 b0q
    rw [if_pos (by simpa using hk),b4 (by simp),b4 (by omega),Int.toNat_natCast]
    rw [← hcd] at hc ⊢
    by_cases h1:c.2.1<(specs.length:Int)
    · rw [if_neg (by rw [decide_eq_true_eq]; omega),b4 (by omega),b4 h1,decide_eq_true h1]
      by_cases h2:c.2.2.1<(specs.getD c.2.1.toNat (0,0,[],[])).2.1
      · rw [if_neg (by rw [decide_eq_true_eq]; omega),b4 (P4 (by omega)),decide_eq_true h2]; rfl
      · rw [if_pos (by rw [decide_eq_true_eq]; omega),decide_eq_false h2]; rfl
    · rw [if_pos (by rw [decide_eq_true_eq]; omega),decide_eq_false h1]; rfl
def a3h (specs:List SpT) (i:Int):SpT:=specs.getD i.toNat (0,0,[],[])
def b8H (s:SpT) (q o:Int):Int:=(s.2.2.2.getD q.toNat []).getD o.toNat 0
def a9Z (s:SpT) (q o:Int):Int:=(s.2.2.1.getD q.toNat []).getD o.toNat 0
def a13 (s:Int×Int) (i:Int):Int:=if i=0 then s.1 else s.2
def a8N (s:Int×Int) (i q:Int):Int×Int:=if i=0 then (q,s.2) else (s.1,q)
def a5m (specs:List SpT) (c:HC6):Bool:=inB 0 c.1 3&&inB 0 c.2.1 ((specs.length:Int) - 1)&&inB 0 c.2.2.1 ((a3h specs c.2.1).2.1 - 1)
def b2K (specs:List SpT) (s:Int×Int):Prop:=∀ i:Int,0≤i→i<(specs.length:Int)→0≤a13 s i∧a13 s i<(a3h specs i).1
theorem a4S {s:SpT} (h:(a0r s).ok=true):1≤s.1∧s.1≤8∧1≤s.2.1∧s.2.1≤4∧tab s.1 s.2.1 (inR s.1) s.2.2.1=true∧tab s.1 s.2.1 a4C s.2.2.2=true:=by
  unfold SpS.ok a0r at h
  simp only [Bool.and_eq_true,decide_eq_true_eq] at h
  exact ⟨h.1.1.1.1.1,h.1.1.1.1.2,h.1.1.1.2,h.1.1.2,h.1.2,h.2⟩
theorem a6M {st op:Int} {p:Int→Bool} {rs:List (List Int)} (h:tab st op p rs=true) {q o:Int} (hq:0≤q∧q<st) (ho:0≤o∧o<op):(rs.length:Int)=st∧((rs.getD q.toNat []).length:Int)=op∧p ((rs.getD q.toNat []).getD o.toNat 0)=true:=by
  unfold tab at h
  simp only [Bool.and_eq_true,decide_eq_true_eq] at h
  obtain ⟨h1,h2⟩:=h
  have hlt:q.toNat<rs.length:=by omega
  have hr:=List.all_eq_true.1 h2 _ (List.getElem_mem hlt)
  have e1:rs.getD q.toNat []=rs[q.toNat]:=by rw [List.getD_eq_getElem?_getD,List.getElem?_eq_getElem hlt]; rfl
  simp only [Bool.and_eq_true,decide_eq_true_eq] at hr
  rw [e1]
  have hlt2:o.toNat<rs[q.toNat].length:=by omega
  refine ⟨h1,hr.1,?_⟩
  have e2:rs[q.toNat].getD o.toNat 0=rs[q.toNat][o.toNat]:=by rw [List.getD_eq_getElem?_getD,List.getElem?_eq_getElem hlt2]; rfl
  rw [e2]
  exact List.all_eq_true.1 hr.2 _ (List.getElem_mem hlt2)
theorem a6K {specs:List SpT} (h:a0X specs=true) {i:Int} (hi:0≤i∧i<(specs.length:Int)):(a0r (a3h specs i)).ok=true:=by
  unfold a0X at h
  simp only [Bool.and_eq_true] at h
  exact C8.1 h.2 i.toNat (by omega)
theorem a7k {specs:List SpT} (h:a0X specs=true):1≤(specs.length:Int)∧(specs.length:Int)≤2:=by
  unfold a0X at h
  simp only [Bool.and_eq_true,decide_eq_true_eq] at h
  exact h.1
theorem a4z {specs:List SpT} {c:HC6} (h:a5m specs c=true):(0≤c.1∧c.1≤3)∧(0≤c.2.1∧c.2.1<(specs.length:Int))∧0≤c.2.2.1∧c.2.2.1<(a3h specs c.2.1).2.1:=by
  unfold a5m inB at h
  simp only [Bool.and_eq_true,decide_eq_true_eq] at h
  omega
theorem b6v {specs:List SpT} (hs:a0X specs=true) {c:HC6} (hc:a5m specs c=true) {s:Int×Int} (h:b2K specs s):b2K specs (a8N s c.2.1 (a9Z (a3h specs c.2.1) (a13 s c.2.1) c.2.2.1)):=by
  obtain ⟨_,ho,hp⟩:=a4z hc
  have hl2:=a7k hs
  obtain ⟨_,_,_,_,t1,_⟩:=a4S (a6K hs ho)
  have hq:=h c.2.1 ho.1 ho.2
  obtain ⟨_,_,n3⟩:=a6M t1 hq hp
  unfold inR at n3
  have n4:=of_decide_eq_true n3
  intro i hi0 hi1
  by_cases hic:i=c.2.1
  · subst hic
    have:a13 (a8N s c.2.1 (a9Z (a3h specs c.2.1) (a13 s c.2.1) c.2.2.1)) c.2.1=a9Z (a3h specs c.2.1) (a13 s c.2.1) c.2.2.1:=by
      unfold a8N
      by_cases h0:c.2.1=0
      · rw [if_pos h0]; show (if c.2.1=0 then _ else _)=_; rw [if_pos h0]
      · rw [if_neg h0]; show (if c.2.1=0 then _ else _)=_; rw [if_neg h0]
    rw [this]; exact n4
  · have:a13 (a8N s c.2.1 (a9Z (a3h specs c.2.1) (a13 s c.2.1) c.2.2.1)) i=a13 s i:=by
      unfold a8N a13
      by_cases h0:c.2.1=0
      · have:¬ i=0:=fun h=>hic (by omega)
        simp [h0,this]
      · have:i=0:=by omega
        simp [h0,this]
    rw [this]; exact h i hi0 hi1
theorem b2J {specs:List SpT} (hs:a0X specs=true):b2K specs (0,0):=fun i h0 h1=>by
  have:=a4S (a6K hs ⟨h0,h1⟩)
  have e:a13 (0,0) i=0:=by unfold a13; split<;>rfl
  rw [e]; omega
theorem b6z (n:Int):InK .u64 n↔0≤n∧n≤18446744073709551615:=by
  unfold InK; simp [IntKind.min,IntKind.max,IntKind.signed,IntKind.bits]
/-! ### Bits -/
def a0i (b:Int) (i:Nat):Bool:=b.toNat.testBit i
def a3n (b:Int) (i:Nat):Int:=((b.toNat ||| 2 ^ i:Nat):Int)
theorem b0z:∀ b<256,∀ i<8,decide (a4v .u64 ((b:Nat):Int) (a1O .u64 1 ((i:Nat):Int))=0)=!b.testBit i∧ior .u64 ((b:Nat):Int) (a1O .u64 1 ((i:Nat):Int))=((b ||| 2 ^ i:Nat):Int):=by decide +kernel
theorem a88 {b:Int} (hb:0≤b∧b<256) {i:Nat} (hi:i<8):decide (a4v .u64 b (a1O .u64 1 (i:Int))=0)=!a0i b i:=by
  have:=(b0z b.toNat (by omega) i hi).1
  rw [Int.toNat_of_nonneg hb.1] at this
  exact this
theorem b78 {b:Int} (hb:0≤b∧b<256) {i:Nat} (hi:i<8):ior .u64 b (a1O .u64 1 (i:Int))=a3n b i:=by
  have:=(b0z b.toNat (by omega) i hi).2
  rw [Int.toNat_of_nonneg hb.1] at this
  exact this
theorem b6q {b:Int} (hb:0≤b∧b<256) {i:Nat} (hi:i<8):0≤a3n b i∧a3n b i<256:=by
  unfold a3n
  have:b.toNat ||| 2 ^ i<2 ^ 8:=Nat.or_lt_two_pow (by omega) (Nat.pow_lt_pow_right (by omega) hi)
  omega
theorem a9p (b:Int) (i j:Nat):a0i (a3n b i) j=(a0i b j || decide (i=j)):=by
  unfold a0i a3n
  rw [Int.toNat_natCast,Nat.testBit_or,Nat.testBit_two_pow]
/-! ### Places -/
abbrev Pl:=(Int×Int)×Int
def hAt (h:List HC6) (i:Nat):HC6:=h.getD i (0,0,0,0,0,0)
def a1G (h:List HC6) (b:Int):Bool:=a35 h.length fun j=>decide ((hAt h j).2.2.2.2.2=0) || a0i b j
def a3m (h:List HC6) (b:Int) (i:Nat):Bool:=!a0i b i&&a35 h.length fun j=>!bef (hAt h j) (hAt h i) || a0i b j
def b1M (specs:List SpT) (s:Int×Int) (c:HC6):Int:=b8H (a3h specs c.2.1) (a13 s c.2.1) c.2.2.1
def a5c (specs:List SpT) (s:Int×Int) (c:HC6):Int×Int:=a8N s c.2.1 (a9Z (a3h specs c.2.1) (a13 s c.2.1) c.2.2.1)
def b0A (specs:List SpT) (s:Int×Int) (c:HC6):Bool:=decide (c.2.2.2.2.2=0) || decide (b1M specs s c=c.2.2.2.1)
def nxt (specs:List SpT) (h:List HC6) (p:Pl) (i:Nat):Option Pl:=if (a3m h p.2 i&&b0A specs p.1 (hAt h i))=true then some (a5c specs p.1 (hAt h i),a3n p.2 i) else none
def a4T (specs:List SpT) (p:Pl):Prop:=b2K specs p.1∧(0≤p.2∧p.2<256)∧0≤p.1.1∧p.1.1≤8∧0≤p.1.2∧p.1.2≤8
theorem a5F (p:Pl) (i:Nat):C5 p (i:Int)=some ():=by
  unfold C5
  rw [b4 (by omega)]
section
variable {specs:List SpT} {h:List HC6}
theorem b6D (hl:h.length≤8) {p:Pl} (hp:a4T specs p):H5 specs h p=some (a1G h p.2):=by
  unfold H5 a1G
  rw [a8k (body:=v6 h p) h.length (fun j=>decide ((hAt h j).2.2.2.2.2=0) || a0i p.2 j) (fun k hk=>?_) (by unfold v6; rw [if_neg (by simp)]),Option.bind_some]
  · cases a35 h.length (fun j=>decide ((hAt h j).2.2.2.2.2=0) || a0i p.2 j)<;>rfl
  · unfold v6
    rw [if_pos (by simpa using hk),b4 (by omega),b4 (by omega),Int.toNat_natCast]
    by_cases h0:(h.getD k (0,0,0,0,0,0)).2.2.2.2.2=0
    · rw [if_neg (by rw [decide_eq_true h0]; simp),b4 (P4 (by omega))]
      unfold hAt; rw [decide_eq_true h0]; rfl
    · rw [if_pos (by rw [decide_eq_false h0]; rfl),a5F,Option.bind_some,a88 hp.2.1 (by omega)]
      unfold hAt; rw [decide_eq_false h0]
      cases hb:a0i p.2 k with
      | false=>rfl
      | true=>rw [if_neg (by simp),b4 (P4 (by omega))]; rfl
theorem b1k (a b:HC6):S7 a b=some (bef b a):=by
  unfold S7
  rw [a53]; rfl
theorem b4f (hl:h.length≤8) {p:Pl} (hp:a4T specs p) {i:Nat} (hi:i<h.length):F4 specs h p (i:Int)=some (a3m h p.2 i):=by
  unfold F4 a3m
  rw [a5F,Option.bind_some,a88 hp.2.1 (by omega)]
  cases hb:a0i p.2 i with
  | true=>rfl
  | false =>
    rw [if_neg (by simp)]
    rw [a8k (body:=u9 h p (i:Int)) h.length (fun j=>!bef (hAt h j) (hAt h i) || a0i p.2 j) (fun k hk=>?_) (by unfold u9; rw [if_neg (by simp)]),Option.bind_some]
    · cases a35 h.length (fun j=>!bef (hAt h j) (hAt h i) || a0i p.2 j)<;>rfl
    · unfold u9
      rw [if_pos (by simpa using hk),b4 (by omega),b4 (by omega),b4 (by omega),b4 (by omega),Int.toNat_natCast,Int.toNat_natCast,b1k,Option.bind_some]
      unfold hAt
      cases hbf:bef (h.getD k (0,0,0,0,0,0)) (h.getD i (0,0,0,0,0,0)) with
      | false=>rw [if_neg (by simp),b4 (P4 (by omega))]; rfl
      | true =>
        rw [if_pos rfl,a5F,Option.bind_some,a88 hp.2.1 (by omega)]
        cases hb:a0i p.2 k with
        | false=>rfl
        | true=>rw [if_neg (by simp),b4 (P4 (by omega))]; rfl
theorem b1F (hs:a0X specs=true) {c:HC6} (hc:a5m specs c=true) {p:Pl} (hp:b2K specs p.1) :
    D7 specs c p=some (b1M specs p.1 c,a5c specs p.1 c):=by
  obtain ⟨_,ho,hop⟩:=a4z hc
  have hl2:=a7k hs
  obtain ⟨_,_,_,_,t1,t2⟩:=a4S (a6K hs ho)
  have hq:=hp c.2.1 ho.1 ho.2
  obtain ⟨n1,n2,n3⟩:=a6M t1 hq hop
  obtain ⟨a1,a2,a3⟩:=a6M t2 hq hop
  unfold D7
  rw [b4 ho.1,b4 ho.2,b4 ho.1,b4 (by omega)]
  by_cases h0:c.2.1=0
  · rw [if_pos (by rw [decide_eq_true h0])]
    have e0:a3h specs c.2.1=specs.getD 0 (0,0,[],[]):=by unfold a3h; rw [h0]; rfl
    have e1:a13 p.1 c.2.1=p.1.1:=by unfold a13; rw [if_pos h0]
    unfold b1M a5c
    rw [e0] at n1 a1 hop
    rw [e0,e1] at n2 a2 hq ⊢
    unfold t6
    simp only
    rw [b4 hq.1,b4 (by omega),b4 hop.1,b4 (by omega),b4 (by omega),b4 (by omega),if_pos (by rfl)]
    unfold t5
    simp only
    rw [b4 hq.1,b4 (by omega),b4 hop.1,b4 (by omega)]
    unfold a8N; rw [if_pos h0]; rfl
  · rw [if_neg (by rw [decide_eq_false h0]; simp)]
    have h1:c.2.1=1:=by omega
    have e0:a3h specs c.2.1=specs.getD 1 (0,0,[],[]):=by unfold a3h; rw [h1]; rfl
    have e1:a13 p.1 c.2.1=p.1.2:=by unfold a13; rw [if_neg h0]
    unfold b1M a5c
    rw [e0] at n1 a1 hop
    rw [e0,e1] at n2 a2 hq ⊢
    unfold t6
    simp only
    rw [b4 hq.1,b4 (by omega),b4 hop.1,b4 (by omega),b4 (by omega),b4 (by omega),if_neg (by simp)]
    unfold t5
    simp only
    rw [b4 hq.1,b4 (by omega),b4 hop.1,b4 (by omega)]
    unfold a8N; rw [if_neg h0]; rfl
theorem b44 (hs:a0X specs=true) {c:HC6} (hc:a5m specs c=true) {p:Pl} (hp:b2K specs p.1) :
    F3 specs c p=some (b0A specs p.1 c,a5c specs p.1 c):=by
  unfold F3 b0A
  rw [b1F hs hc hp,Option.bind_some]
  by_cases h0:c.2.2.2.2.2=0
  · rw [if_pos (by rw [decide_eq_true h0]),decide_eq_true h0]; rfl
  · rw [if_neg (by rw [decide_eq_false h0]; simp),decide_eq_false h0]; rfl
theorem b8u {S R:Type} (n:Nat) (I:Nat→S→Prop) (G:R→Prop) {body:Int×S→Option (Step (Int×S) R)} {s0:S} (h0:I 0 s0)
    (h:∀ (k:Nat) (s:S),k<n→I k s→(∃ s',body ((k:Int),s)=some (.next ((k:Int)+1,s'))∧I (k+1) s')∨∃ r,body ((k:Int),s)=some (.done r)∧G r)
    (hd:∀ s,I n s→∃ r,body ((n:Int),s)=some (.done r)∧G r):∃ r,j7 body (0,s0)=some r∧G r:=by
  refine a4k (S:=Int×S) (fun s:Int×S=>∃ k:Nat,s.1=(k:Int)∧k≤n∧I k s.2) (fun s:Int×S=>n - s.1.toNat) G ?_ (0,s0) ⟨0,rfl,Nat.zero_le _,h0⟩
  rintro ⟨q,s⟩ ⟨k,hq,hk,hI⟩
  simp only at hq hI
  subst hq
  by_cases hlt:k<n
  · rcases h k s hlt hI with ⟨s',h1,h2⟩|h1
    · exact .inl ⟨_,h1,⟨k+1,by simp,by omega,h2⟩,by simp; omega⟩
    · exact .inr h1
  · have:k=n:=by omega
    subst this
    exact .inr (hd s hI)
theorem b0R (hs:a0X specs=true) (hl:h.length≤8) (hc:∀ i,i<h.length→a5m specs (hAt h i)=true) {p:Pl} (hp:a4T specs p) {S R:Type} (yl:Int×Pl→S→Option (Step S R)) (I:Nat→S→Prop) (G:R→Prop) {s0:S} (h0:I 0 s0)
    (hn:∀ k,k<h.length→∀ s,nxt specs h p k=none→I k s→I (k+1) s)
    (hy:∀ k,k<h.length→∀ s q,nxt specs h p k=some q→I k s→(∃ s',yl ((k:Int),q) s=some (.next s')∧I (k+1) s')∨∃ r,yl ((k:Int),q) s=some (.done r)∧G r) :
    ∃ x,C4 S R specs h p yl s0=some x∧match x with
      | .inl s=>I h.length s
      | .inr r=>G r:=by
  obtain ⟨r,er,hr⟩:=b8u (R:=Sum R S) h.length I (fun x:Sum R S=>match x with
      | .inl r=>G r
      | .inr s=>I h.length s) (body:=s6 S R specs h p yl) (s0:=s0) h0 (fun k s hk hI=>by
    unfold s6
    simp only
    rw [if_pos (by simpa using hk),b4 (by omega),b4 (by omega),b4f hl hp hk,Option.bind_some,Int.toNat_natCast]
    cases hr:a3m h p.2 k with
    | false =>
      rw [if_pos (by rfl),b4 (P4 (by omega))]
      exact .inl ⟨_,rfl,hn k hk s (by unfold nxt; rw [hr]; rfl) hI⟩
    | true =>
      have ha:=b44 hs (hc k hk) hp.1
      rw [if_neg (by simp),show h.getD k (0,0,0,0,0,0)=hAt h k from rfl,ha,Option.bind_some]
      cases hw:b0A specs p.1 (hAt h k) with
      | false =>
        simp only
        rw [if_pos (by rfl),b4 (P4 (by omega))]
        exact .inl ⟨_,rfl,hn k hk s (by unfold nxt; rw [hr,hw]; rfl) hI⟩
      | true =>
        simp only
        rw [if_neg (by simp),b4 (by omega),b78 hp.2.1 (by omega)]
        rcases hy k hk s (a5c specs p.1 (hAt h k),a3n p.2 k) (by unfold nxt; rw [hr,hw]; rfl) hI with ⟨s',e,hI'⟩|⟨r,e,hG⟩
        · rw [e,Option.bind_some]
          simp only
          rw [b4 (P4 (by omega))]
          exact .inl ⟨_,rfl,hI'⟩
        · rw [e,Option.bind_some]
          exact .inr ⟨_,rfl,hG⟩) (fun s hI=>by
    unfold s6
    rw [if_neg (by simp)]
    exact ⟨_,rfl,hI⟩)
  unfold C4
  rw [er,Option.bind_some]
  cases r with
  | inl r=>exact ⟨_,rfl,hr⟩
  | inr s=>exact ⟨_,rfl,hr⟩
/-! ### How many orders -/
def E4 (f:Nat→Nat):Nat→Nat
  | 0=>0
  | k+1=>E4 f k+f k
theorem b32 (f:Nat→Nat) {k n:Nat} (h:k≤n):E4 f k≤E4 f n:=by
  induction n with
  | zero =>
    have:k=0:=by omega
    subst this; exact Nat.le_refl _
  | succ n ih =>
    by_cases e:k=n+1
    · subst e; exact Nat.le_refl _
    · have:=ih (by omega); show E4 f k≤E4 f n+f n; omega
def E6 (V:Pl→Nat) (o:Option Pl):Nat:=match o with
  | none=>0
  | some q=>V q
def Mem (V:Pl→Nat) (M:List (Pl×Int)):Prop:=∀ p,a1L M p=true→a2a 0 M p=(V p:Int)
theorem a91:∀ (M:List (Pl×Int)) (p q:Pl) (v:Int),a1L (a0L M p v) q=(decide (p=q) || a1L M q)
  | [],p,q,v=>by simp [a0L,a1L]
  | (k,w)::r,p,q,v=>by
    unfold a0L
    by_cases h1:k=p
    · subst h1
      rw [if_pos rfl]
      unfold a1L
      by_cases h2:k=q<;>simp [h2]
    · rw [if_neg h1]
      unfold a1L
      by_cases h2:k=q
      · simp [h2]
      · simp [h2,a91 r p q v]
theorem a92:∀ (M:List (Pl×Int)) (p q:Pl) (v:Int),a2a 0 (a0L M p v) q=if p=q then v else a2a 0 M q
  | [],p,q,v=>by simp [a0L,a2a]
  | (k,w)::r,p,q,v=>by
    unfold a0L
    by_cases h1:k=p
    · subst h1
      rw [if_pos rfl]
      unfold a2a
      by_cases h2:k=q<;>simp [h2]
    · rw [if_neg h1]
      unfold a2a
      by_cases h2:k=q
      · subst h2
        rw [if_pos rfl,if_pos rfl,if_neg (fun e=>h1 e.symm)]
      · simp [h2,a92 r p q v]
theorem Mem.put {V:Pl→Nat} {M:List (Pl×Int)} (hM:Mem V M) (p:Pl):Mem V (a0L M p (V p:Int)):=fun q hq=>by
  rw [a91] at hq
  rw [a92]
  by_cases e:p=q
  · subst e; rw [if_pos rfl]
  · rw [if_neg e]
    refine hM q ?_
    simpa [e] using hq
theorem b4J (hs:a0X specs=true) (hl:h.length≤8) (hc:∀ i,i<h.length→a5m specs (hAt h i)=true) (ok:Pl→Prop) (V μ:Pl→Nat) (hok:∀ p,ok p→a4T specs p)
    (hstep:∀ p,ok p→∀ i q,i<h.length→nxt specs h p i=some q→ok q∧μ q<μ p)
    (hV:∀ p,ok p→V p=(if a1G h p.2=true then 1 else 0)+E4 (fun i=>E6 V (nxt specs h p i)) h.length) (hb:∀ p,ok p→V p≤1000000000) :
    ∀ (m:Nat) (p:Pl),ok p→μ p≤m→∀ n,m<n→∀ M,Mem V M→∃ M',s4 n specs h p M=some ((V p:Int),M')∧Mem V M':=by
  intro m
  induction m using Nat.strongRecOn with
  | _ m ih =>
    intro p hp hm n hn M hM
    obtain ⟨n,rfl⟩:∃ n',n=n'+1:=⟨n - 1,by omega⟩
    have hpl:=hok p hp
    show ∃ M',D8 (s4 n) specs h p M=some ((V p:Int),M')∧Mem V M'
    have w:=hpl.2
    have hi1:InK .i64 p.1.1:=by rw [l4]; omega
    have hi2:InK .i64 p.1.2:=by rw [l4]; omega
    have hi3:InK .u64 p.2:=by rw [b6z]; omega
    unfold D8
    rw [b4 hi1,b4 hi2,b4 hi3]
    cases hh:a1L M p with
    | true =>
      rw [if_pos rfl]
      exact ⟨M,by rw [hM p hh],hM⟩
    | false =>
      rw [if_neg (by simp),b6D hl hpl,Option.bind_some]
      have main:∀ b0:Nat,b0=(if a1G h p.2=true then 1 else 0)→∃ M',v5 (s4 n) specs h p M (b0:Int)=some ((V p:Int),M')∧Mem V M':=by
        intro b0 hb0
        have hVp:=hV p hp
        have hbp:=hb p hp
        obtain ⟨x,ex,hx⟩:=b0R (S:=List (Pl×Int)×Int) (R:=Empty) hs hl hc hpl (r5 (s4 n) specs h) (fun k s=>Mem V s.1∧s.2=((b0+E4 (fun i=>E6 V (nxt specs h p i)) k:Nat):Int)) (fun _=>True) (s0:=(M,(b0:Int))) ⟨hM,by simp [E4]⟩
          (fun k hk s hnx ⟨h1,h2⟩=>⟨h1,by rw [h2]; show _=((b0+(E4 _ k+E6 V (nxt specs h p k)):Nat):Int); rw [hnx]; rfl⟩)
          (fun k hk s q hnx ⟨h1,h2⟩=>by
            obtain ⟨o1,o2⟩:=hstep p hp k q hk hnx
            obtain ⟨M',e,hM'⟩:=ih (μ q) (by omega) q o1 (Nat.le_refl _) n (by omega) s.1 h1
            refine .inl ?_
            unfold r5
            simp only
            rw [e,Option.bind_some]
            simp only
            have hle:=b32 (fun i=>E6 V (nxt specs h p i)) (k:=k+1) (n:=h.length) (by omega)
            have e1:E4 (fun i=>E6 V (nxt specs h p i)) (k+1)=E4 (fun i=>E6 V (nxt specs h p i)) k+V q:=by
              show E4 _ k+E6 V (nxt specs h p k)=_
              rw [hnx]; rfl
            have e2:s.2+(V q:Int)=((b0+E4 (fun i=>E6 V (nxt specs h p i)) (k+1):Nat):Int):=by
              rw [h2,e1]; omega
            rw [e2]
            rw [b4 (by rw [l4]; omega)]
            exact ⟨_,rfl,hM',rfl⟩)
        unfold v5
        rw [show N5 specs h p=some () from rfl,Option.bind_some,ex,Option.bind_some]
        cases x with
        | inr r=>exact r.elim
        | inl s =>
          obtain ⟨h1,h2⟩:=hx
          have e3:s.2=(V p:Int):=by rw [h2,hVp,hb0]
          simp only
          unfold G7
          rw [b4 hi1,b4 hi2,b4 hi3,e3]
          exact ⟨_,rfl,h1.put p⟩
      cases hf:a1G h p.2 with
      | true=>rw [if_pos rfl]; exact main 1 (by rw [hf]; rfl)
      | false=>rw [if_neg (by simp)]; exact main 0 (by rw [hf]; rfl)
theorem a7l (hs:a0X specs=true) {p q:Pl} (hp:a4T specs p) {i:Nat} (hi:i<8) (hc:a5m specs (hAt h i)=true) (e:nxt specs h p i=some q):a4T specs q:=by
  unfold nxt at e
  split at e
  · injection e with e
    subst e
    obtain ⟨_,ho,hop⟩:=a4z hc
    have hl2:=a7k hs
    have hsp:=a4S (a6K hs ho)
    obtain ⟨_,_,n3⟩:=a6M hsp.2.2.2.2.1 (hp.1 _ ho.1 ho.2) hop
    unfold inR at n3
    have n4:=of_decide_eq_true n3
    have n5:0≤a9Z (a3h specs (hAt h i).2.1) (a13 p.1 (hAt h i).2.1) (hAt h i).2.2.1∧a9Z (a3h specs (hAt h i).2.1) (a13 p.1 (hAt h i).2.1) (hAt h i).2.2.1≤8:=⟨n4.1,by have:=n4.2; unfold a9Z; omega⟩
    refine ⟨b6v hs hc hp.1,b6q hp.2.1 hi,?_⟩
    unfold a5c a8N
    have:=hp.2.2
    split<;>simp only<;>omega
  · cases e
end
/-! ### The number of orders -/
def CF (specs:List SpT) (h:List HC6):Nat→Pl→Nat
  | 0,_=>0
  | d+1,p=>(if a1G h p.2=true then 1 else 0)+E4 (fun i=>E6 (CF specs h d) (nxt specs h p i)) h.length
theorem b2j (specs:List SpT) (h:List HC6) (d:Nat) (p:Pl):CF specs h (d+1) p=(if a1G h p.2=true then 1 else 0)+E4 (fun i=>E6 (CF specs h d) (nxt specs h p i)) h.length:=rfl
def a3q (p:Pl):Nat:=(List.range 8).countP fun j=>!a0i p.2 j
theorem b4o:∀ b<256,∀ i<8,Nat.testBit b i=false→((List.range 8).countP fun j=>!(b ||| 2 ^ i).testBit j)<((List.range 8).countP fun j=>!b.testBit j):=by decide +kernel
theorem b4n {b:Int} (hb:0≤b∧b<256) {i:Nat} (hi:i<8) (h0:a0i b i=false) {s s':Int×Int}:a3q (s',a3n b i)<a3q (s,b):=by
  have:=b4o b.toNat (by omega) i hi h0
  unfold a3q a0i a3n
  simp only [Int.toNat_natCast]
  exact this
theorem a99 (p:Pl):a3q p≤8:=by
  unfold a3q
  exact Nat.le_trans List.countP_le_length (by simp)
theorem a4m {f g:Nat→Nat}:∀ {n:Nat},(∀ i,i<n→f i=g i)→E4 f n=E4 g n
  | 0,_=>rfl
  | n+1,h=>by
    show E4 f n+f n=E4 g n+g n
    rw [a4m fun i hi=>h i (by omega),h n (by omega)]
theorem a6d {f:Nat→Nat} {B:Nat}:∀ {n:Nat},(∀ i,i<n→f i≤B)→E4 f n≤n*B
  | 0,_=>by simp [E4]
  | n+1,h=>by
    show E4 f n+f n≤(n+1)*B
    have:=a6d (n:=n) fun i hi=>h i (by omega)
    have:=h n (by omega)
    rw [Nat.add_mul]; omega
section
variable {specs:List SpT} {h:List HC6}
theorem a7m {p q:Pl} (hp:a4T specs p) {i:Nat} (hi:i<8) (e:nxt specs h p i=some q):a3q q<a3q p:=by
  unfold nxt at e
  split at e
  · rename_i hr
    injection e with e
    subst e
    unfold a3m at hr
    simp only [Bool.and_eq_true,Bool.not_eq_true'] at hr
    exact b4n hp.2.1 hi hr.1.1
  · cases e
theorem b0L (hl:h.length≤8):∀ (d:Nat) (p:Pl),CF specs h d p≤9 ^ d
  | 0,p=>by simp [CF]
  | d+1,p=>by
    show (if a1G h p.2=true then 1 else 0)+E4 _ h.length≤9 ^ (d+1)
    have h1:E4 (fun i=>E6 (CF specs h d) (nxt specs h p i)) h.length≤h.length*9 ^ d:=a6d fun i hi=>by
      cases nxt specs h p i with
      | none=>exact Nat.zero_le _
      | some q=>exact b0L hl d q
    have h2:h.length*9 ^ d≤8*9 ^ d:=Nat.mul_le_mul_right _ hl
    have h3:0<9 ^ d:=Nat.pow_pos (by omega)
    rw [Nat.pow_succ]
    split<;>omega
theorem a8I (hs:a0X specs=true) (hl:h.length≤8) (hc:∀ i,i<h.length→a5m specs (hAt h i)=true):∀ (d d':Nat) (p:Pl),a4T specs p→a3q p<d→a3q p<d'→CF specs h d p=CF specs h d' p
  | 0,_,_,_,hd,_=>by omega
  | d+1,0,_,_,_,hd=>by omega
  | d+1,d'+1,p,hp,hd,hd'=>by
    show _+E4 _ h.length=_+E4 _ h.length
    congr 1
    refine a4m fun i hi=>?_
    cases e:nxt specs h p i with
    | none=>rfl
    | some q =>
      have:=a7m hp (by omega) e
      exact a8I hs hl hc d d' q (a7l hs hp (by omega) (hc i hi) e) (by omega) (by omega)
def b25 (specs:List SpT) (h:List HC6):Nat:=CF specs h 9 ((0,0),0)
theorem a5H (hs:a0X specs=true):a4T specs ((0,0),0):=⟨b2J hs,by decide,by decide⟩
theorem b7b (hs:a0X specs=true) (hl:h.length≤8) (hc:∀ i,i<h.length→a5m specs (hAt h i)=true) (d:Nat) (p:Pl) (hp:a4T specs p) (hd:a3q p≤d):CF specs h (d+1) p=(if a1G h p.2=true then 1 else 0)+E4 (fun i=>E6 (CF specs h (d+1)) (nxt specs h p i)) h.length:=by
  have e1:E4 (fun i=>E6 (CF specs h d) (nxt specs h p i)) h.length=E4 (fun i=>E6 (CF specs h (d+1)) (nxt specs h p i)) h.length:=a4m fun i hi=>by
    have key:∀ o,nxt specs h p i=o→E6 (CF specs h d) o=E6 (CF specs h (d+1)) o:=fun o e=>by
      cases o with
      | none=>rfl
      | some q =>
        have h1:=a7m hp (by omega) e
        exact a8I hs hl hc d (d+1) q (a7l hs hp (by omega) (hc i hi) e) (by omega) (by omega)
    exact key _ rfl
  rw [← e1]
  exact b2j specs h d p
theorem b2k (hs:a0X specs=true) (hl:h.length≤8) (hc:∀ i,i<h.length→a5m specs (hAt h i)=true) (p:Pl) (hp:a4T specs p):CF specs h 9 p=(if a1G h p.2=true then 1 else 0)+E4 (fun i=>E6 (CF specs h 9) (nxt specs h p i)) h.length :=
  b7b hs hl hc 8 p hp (a99 p)
theorem b8i (hs:a0X specs=true) (hl:h.length≤8) (hc:∀ i,i<h.length→a5m specs (hAt h i)=true):∃ M,s4 H4 specs h ((0,0),0) []=some ((b25 specs h:Int),M):=by
  have hV:=b2k hs hl hc
  have hB:=fun p=>Nat.le_trans (b0L (specs:=specs) (h:=h) hl 9 p) (show 9 ^ 9≤1000000000 by decide)
  unfold b25
  generalize CF specs h 9=V at hV hB
  obtain ⟨M,e,_⟩:=b4J hs hl hc (a4T specs) V a3q (fun _ h=>h) (fun p hp i q hi e=>⟨a7l hs hp (by omega) (hc i hi) e,a7m hp (by omega) e⟩)
    hV (fun p _=>hB p) 8 ((0,0),0) (a5H hs) (a99 _) H4 (by decide) [] (fun p hp=>by cases hp)
  exact ⟨M,e⟩
end
theorem a9o {specs:List SpT} {h:List HC6} (h1:okH h=true) (h2:a2q specs h=true) {i:Nat} (hi:i<h.length):a5m specs (hAt h i)=true:=by
  have c1:=a3o (a4V h1 hi)
  unfold a2q at h2
  have c2:=C8.1 h2 i hi
  unfold b0q at c2
  simp only [Bool.and_eq_true,decide_eq_true_eq] at c2
  unfold a5m inB a3h hAt
  simp only [Bool.and_eq_true,decide_eq_true_eq]
  omega
theorem a9n {specs:List SpT} (hs:∀ s∈specs,okS s) (hl:specs.length≤1000) (hk:a0X specs=true) {h:List HC6} (h1:okH h=true) (h2:a2q specs h=true):P6 specs h=some 0:=by
  unfold P6
  rw [a71 specs hs hl,hk,if_pos rfl,Option.bind_some,if_neg (by simp),b3H,h1,Option.bind_some,if_neg (by simp),b6F specs _ h1,h2]; rfl
theorem b3G {specs:List SpT} (hs:∀ s∈specs,okS s) (hl:specs.length≤1000) (hk:a0X specs=true) {h:List HC6} (h1:okH h=true) (h2:a2q specs h=true):K8 specs h=some (decide (0<b25 specs h),0):=by
  obtain ⟨M,e⟩:=b8i hk (a4U h1) (fun i hi=>a9o h1 h2 hi)
  unfold K8
  rw [a9n hs hl hk h1 h2,Option.bind_some,if_pos (by rfl)]
  unfold Y8 U1
  rw [show R8 specs h=some () from rfl,Option.bind_some,e,Option.bind_some,Option.bind_some,Option.bind_some]
  congr 2
  exact decide_eq_decide.2 (by simp)
theorem a9y {f:Nat→Nat} {k:Nat}:∀ {n:Nat},k<n→f k≤E4 f n
  | 0,h=>by omega
  | n+1,h=>by
    show f k≤E4 f n+f n
    by_cases e:k=n
    · subst e; omega
    · have:=a9y (f:=f) (k:=k) (n:=n) (by omega); omega
theorem a60 {f:Nat→Nat}:∀ {n:Nat},0<E4 f n→∃ i,i<n∧0<f i
  | 0,h=>by simp [E4] at h
  | n+1,h=>by
    have h1:0<E4 f n+f n:=h
    by_cases h0:0<E4 f n
    · obtain ⟨i,h1,h2⟩:=a60 h0
      exact ⟨i,by omega,h2⟩
    · exact ⟨n,by omega,by omega⟩
theorem b4g (h:List HC6):(List.range h.length).map (hAt h)=h:=by
  refine List.ext_getElem (by simp) fun i h1 h2=>?_
  simp only [List.getElem_map,List.getElem_range]
  unfold hAt
  rw [List.getD_eq_getElem?_getD,List.getElem?_eq_getElem h2]; rfl
/-! ### The calls that have a0G -/
def Z8 (h:List HC6) (m:Int):List Nat:=(List.range h.length).filter fun i=>a0G m (hAt h i)
theorem a75 (h:List HC6) (m:Int):p8 h m=(Z8 h m).map fun i=>cut m (hAt h i):=by
  have e:h.filter (a0G m)=(Z8 h m).map (hAt h):=by
    conv=>lhs; rw [← b4g h]
    rw [List.filter_map]; rfl
  unfold p8
  rw [e,List.map_map]; rfl
theorem a5q (h:List HC6) (m:Int):(p8 h m).length=(Z8 h m).length:=by rw [a75,List.length_map]
def a1N (h:List HC6) (m:Int) (j:Nat):Nat:=(Z8 h m).getD j 0
theorem a42 {h:List HC6} {m:Int} {j:Nat} (hj:j<(Z8 h m).length):a1N h m j=(Z8 h m)[j]:=by
  unfold a1N
  rw [List.getD_eq_getElem?_getD,List.getElem?_eq_getElem hj]; rfl
theorem a5K {h:List HC6} {m:Int} {j:Nat} (hj:j<(Z8 h m).length):a1N h m j<h.length∧a0G m (hAt h (a1N h m j))=true:=by
  rw [a42 hj]
  have:=List.mem_filter.1 (List.getElem_mem hj)
  exact ⟨by simpa using this.1,this.2⟩
theorem a86 {h:List HC6} {m:Int} {j k:Nat} (hk:k<j) (hj:j<(Z8 h m).length):a1N h m k<a1N h m j:=by
  rw [a42 hj,a42 (by omega)]
  have hp:(Z8 h m).Pairwise (·<·):=List.Pairwise.filter _ List.pairwise_lt_range
  exact List.pairwise_iff_getElem.1 hp k j (by omega) hj hk
theorem b6y {h:List HC6} {m:Int} {j k:Nat} (hj:j<(Z8 h m).length) (hk:k<(Z8 h m).length) (e:a1N h m j=a1N h m k):j=k:=by
  rcases Nat.lt_trichotomy j k with h1|h1|h1
  · have:=a86 h1 hk; omega
  · exact h1
  · have:=a86 h1 hj; omega
theorem b4t {h:List HC6} {m:Int} {i:Nat} (hi:i<h.length) (hb:a0G m (hAt h i)=true):∃ j,j<(Z8 h m).length∧a1N h m j=i:=by
  have:i∈Z8 h m:=List.mem_filter.2 ⟨by simpa using hi,hb⟩
  obtain ⟨j,hj,e⟩:=List.getElem_of_mem this
  exact ⟨j,hj,by rw [a42 hj,e]⟩
theorem X7 {h:List HC6} {m:Int} {j:Nat} (hj:j<(Z8 h m).length):hAt (p8 h m) j=cut m (hAt h (a1N h m j)):=by
  rw [a75,a42 hj]
  unfold hAt
  rw [List.getD_eq_getElem?_getD,List.getElem?_map,List.getElem?_eq_getElem hj]; rfl
/-! ### It is a history -/
theorem b3e (c d:HC6):a1q c d=true↔c.2.2.2.2.1≠d.2.2.2.2.1∧c.2.2.2.2.1≠d.2.2.2.2.2∧c.2.2.2.2.2≠d.2.2.2.2.1∧¬ (c.2.2.2.2.2≠0∧c.2.2.2.2.2=d.2.2.2.2.2)∧(c.1≠d.1∨(c.2.2.2.2.2≠0∧c.2.2.2.2.2<d.2.2.2.2.1)∨(d.2.2.2.2.2≠0∧d.2.2.2.2.2<c.2.2.2.2.1)):=by
  unfold a1q bef
  generalize c.2.2.2.2.1=a
  generalize c.2.2.2.2.2=b
  generalize d.2.2.2.2.1=a'
  generalize d.2.2.2.2.2=b'
  generalize c.1=t
  generalize d.1=t'
  by_cases e1:a=a'<;>by_cases e2:a=b'<;>by_cases e3:b=a'<;>by_cases e4:b=0<;>by_cases e5:b=b'<;>by_cases e6:t=t'<;>by_cases e7:b<a'<;>by_cases e8:b'=0<;>by_cases e9:b'<a<;>simp [*]
theorem U2 (m:Int) (c:HC6):(cut m c).1=c.1∧(cut m c).2.1=c.2.1∧(cut m c).2.2.1=c.2.2.1∧(cut m c).2.2.2.2.1=c.2.2.2.2.1∧((m<c.2.2.2.2.2∧(cut m c).2.2.2.2.2=0)∨(c.2.2.2.2.2≤m∧cut m c=c)):=by
  unfold cut
  split
  · rename_i h; exact ⟨rfl,rfl,rfl,rfl,.inl ⟨h,rfl⟩⟩
  · exact ⟨rfl,rfl,rfl,rfl,.inr ⟨by omega,rfl⟩⟩
theorem a8B (m:Int) (c:HC6):a0G m c=true↔c.2.2.2.2.1≤m:=by unfold a0G; simp
theorem b3f {c d:HC6} {m:Int} (h:a1q c d=true) (h1:1≤c.2.2.2.2.1) (h2:1≤d.2.2.2.2.1) (b1:a0G m c=true) (b2:a0G m d=true):a1q (cut m c) (cut m d)=true:=by
  rw [a8B] at b1 b2
  rw [b3e] at h ⊢
  obtain ⟨c1,_,_,c4,c5⟩:=U2 m c
  obtain ⟨d1,_,_,d4,d5⟩:=U2 m d
  rw [c1,c4,d1,d4]
  obtain ⟨x1,x2,x3,x4,x5⟩:=h
  rcases c5 with ⟨c5,c6⟩|⟨c5,c6⟩<;>rcases d5 with ⟨d5,d6⟩|⟨d5,d6⟩
  · rw [c6,d6]
    refine ⟨x1,by omega,by omega,fun k=>k.1 rfl,?_⟩
    rcases x5 with x5|x5|x5
    · exact .inl x5
    · omega
    · omega
  · rw [c6,d6]
    refine ⟨x1,by omega,by omega,fun k=>k.1 rfl,?_⟩
    rcases x5 with x5|x5|x5
    · exact .inl x5
    · omega
    · exact .inr (.inr x5)
  · rw [c6,d6]
    refine ⟨x1,by omega,by omega,fun k=>k.1 k.2,?_⟩
    rcases x5 with x5|x5|x5
    · exact .inl x5
    · exact .inr (.inl x5)
    · omega
  · rw [c6,d6]
    exact ⟨x1,x2,x3,x4,x5⟩
theorem b2L {h:List HC6} (hok:okH h=true) (m:Int):okH (p8 h m)=true:=by
  have h8:=a4U hok
  have hkl:(Z8 h m).length≤h.length:=by
    unfold Z8
    exact Nat.le_trans (List.length_filter_le _ _) (by simp)
  unfold okH
  rw [a5q]
  simp only [Bool.and_eq_true,decide_eq_true_eq]
  refine ⟨by omega,C8.2 fun j hj=>?_⟩
  obtain ⟨k1,k2⟩:=a5K hj
  have ha:=b7X hok k1
  unfold a9X at ha ⊢
  simp only [Bool.and_eq_true] at ha ⊢
  have e:∀ i,(p8 h m).getD i (0,0,0,0,0,0)=hAt (p8 h m) i:=fun _=>rfl
  rw [e,X7 hj]
  refine ⟨b6w ha.1 m,C8.2 fun k hk=>?_⟩
  rw [e,X7 (by omega)]
  obtain ⟨q1,q2⟩:=a5K (show k<(Z8 h m).length by omega)
  have hap:=C8.1 ha.2 _ (a86 hk hj)
  exact b3f hap (a3o (a4V hok k1)).1 (a3o (a4V hok q1)).1 k2 q2
theorem b1u {specs:List SpT} {h:List HC6} (hf:a2q specs h=true) (m:Int):a2q specs (p8 h m)=true:=by
  unfold a2q at hf ⊢
  rw [a5q]
  refine C8.2 fun j hj=>?_
  obtain ⟨k1,_⟩:=a5K hj
  have:=C8.1 hf _ k1
  show b0q specs (hAt (p8 h m) j)=true
  rw [X7 hj]
  obtain ⟨_,c2,c3,_⟩:=U2 m (hAt h (a1N h m j))
  unfold b0q at this ⊢
  rw [c2,c3]
  exact this
/-! ### It was linearisable -/
section
variable {specs:List SpT} {h:List HC6} {m:Int}
def b4X (h:List HC6) (m:Int) (p p':Pl):Prop:=p'.1=p.1∧(∀ j,j<(Z8 h m).length→a0i p'.2 j=a0i p.2 (a1N h m j))∧∀ i,i<h.length→a0i p.2 i=true→a0G m (hAt h i)=true
theorem b8c (s:Int×Int) (c:HC6):a5c specs s (cut m c)=a5c specs s c:=by
  obtain ⟨_,c2,c3,_⟩:=U2 m c
  unfold a5c
  rw [c2,c3]
theorem b6Q {s:Int×Int} {c:HC6} (hw:b0A specs s c=true):b0A specs s (cut m c)=true:=by
  obtain ⟨_,c2,c3,_,c5⟩:=U2 m c
  rcases c5 with ⟨_,c5⟩|⟨_,c5⟩
  · unfold b0A; rw [c5]; rfl
  · rw [c5]; exact hw
theorem b6N {c d:HC6} (hb:bef (cut m c) (cut m d)=true):bef c d=true:=by
  obtain ⟨_,_,_,c4,c5⟩:=U2 m c
  obtain ⟨_,_,_,d4,_⟩:=U2 m d
  unfold bef at hb ⊢
  rw [d4] at hb
  rcases c5 with ⟨_,c5⟩|⟨_,c5⟩
  · rw [c5] at hb; simp at hb
  · rw [c5] at hb; exact hb
theorem a6W (hs:a0X specs=true) (h1:okH h=true) (h2:a2q specs h=true):∀ (d:Nat) (p p':Pl),a4T specs p→a4T specs p'→b4X h m p p'→0<CF specs h d p→0<CF specs (p8 h m) 9 p'
  | 0,p,p',_,_,_,hc=>by simp [CF] at hc
  | d+1,p,p',hp,hp',⟨r1,r2,r3⟩,hc=>by
    have h8:=a4U h1
    have u1:=b2L h1 m
    have u2:=b1u h2 m
    have u8:=a4U u1
    have hul:=a5q h m
    have e9:=b2k hs u8 (fun i hi=>a9o u1 u2 hi) p' hp'
    have hfull:a1G (p8 h m) p'.2=true→0<CF specs (p8 h m) 9 p':=fun hf=>by
      rw [e9,hf,if_pos rfl]; omega
    rw [b2j] at hc
    cases hf:a1G h p.2 with
    | true =>
      refine hfull ?_
      unfold a1G at hf ⊢
      rw [hul]
      refine C8.2 fun j hj=>?_
      obtain ⟨k1,k2⟩:=a5K hj
      have:=C8.1 hf _ k1
      rw [X7 hj,r2 j hj]
      obtain ⟨_,_,_,_,c5⟩:=U2 m (hAt h (a1N h m j))
      rcases c5 with ⟨_,c5⟩|⟨_,c5⟩
      · rw [c5]; rfl
      · rw [c5]; exact this
    | false =>
      rw [hf] at hc
      simp only [Bool.false_eq_true,if_false,Nat.zero_add] at hc
      obtain ⟨i,hi,hci⟩:=a60 hc
      cases e:nxt specs h p i with
      | none=>simp only [e,E6] at hci; omega
      | some q =>
        simp only [e,E6] at hci
        have hq:=a7l hs hp (by omega) (a9o h1 h2 hi) e
        have e0:=e
        unfold nxt at e
        split at e
        · rename_i hra
          injection e with e
          simp only [Bool.and_eq_true] at hra
          obtain ⟨hr,ha⟩:=hra
          unfold a3m at hr
          simp only [Bool.and_eq_true,Bool.not_eq_true'] at hr
          obtain ⟨hr1,hr2⟩:=hr
          by_cases hb:a0G m (hAt h i)=true
          · obtain ⟨j,hj,hji⟩:=b4t hi hb
            subst hji
            have hx:nxt specs (p8 h m) p' j=some (a5c specs p'.1 (hAt (p8 h m) j),a3n p'.2 j):=by
              unfold nxt
              have w1:a3m (p8 h m) p'.2 j=true:=by
                unfold a3m
                rw [r2 j hj,hr1,hul]
                simp only [Bool.not_false,Bool.true_and]
                refine C8.2 fun k hk=>?_
                rw [r2 k hk,X7 hk,X7 hj]
                obtain ⟨k1,_⟩:=a5K hk
                have:=C8.1 hr2 _ k1
                cases hbf:bef (cut m (hAt h (a1N h m k))) (cut m (hAt h (a1N h m j))) with
                | false=>rfl
                | true=>rw [b6N hbf] at this; exact this
              have w2:b0A specs p'.1 (hAt (p8 h m) j)=true:=by
                rw [X7 hj,r1]; exact b6Q ha
              rw [w1,w2]; rfl
            have hxok:=a7l hs hp' (by omega) (a9o u1 u2 (by rw [hul]; exact hj)) hx
            have ih:=a6W hs h1 h2 d q (a5c specs p'.1 (hAt (p8 h m) j),a3n p'.2 j) hq hxok (by
              subst e
              refine ⟨by rw [X7 hj,r1]; exact b8c _ _,fun k hk=>?_,fun k hk hbk=>?_⟩
              · show a0i (a3n p'.2 j) k=a0i (a3n p.2 (a1N h m j)) (a1N h m k)
                rw [a9p,a9p,r2 k hk]
                congr 1
                exact decide_eq_decide.2 ⟨fun e=>by rw [e],fun e=>b6y hj hk e⟩
              · have hbk':a0i (a3n p.2 (a1N h m j)) k=true:=hbk
                rw [a9p] at hbk'
                rcases Bool.or_eq_true_iff.1 hbk' with h9|h9
                · exact r3 k hk h9
                · have:=of_decide_eq_true h9
                  rw [← this]; exact hb) hci
            rw [e9]
            have:=a9y (f:=fun i=>E6 (CF specs (p8 h m) 9) (nxt specs (p8 h m) p' i)) (k:=j) (n:=(p8 h m).length) (by rw [hul]; exact hj)
            simp only [hx] at this
            have h9:E6 (CF specs (p8 h m) 9) (some (a5c specs p'.1 (hAt (p8 h m) j),a3n p'.2 j))=CF specs (p8 h m) 9 (a5c specs p'.1 (hAt (p8 h m) j),a3n p'.2 j):=rfl
            rw [h9] at this
            omega
          · refine hfull ?_
            rw [a8B] at hb
            unfold a1G
            rw [hul]
            refine C8.2 fun j hj=>?_
            obtain ⟨k1,k2⟩:=a5K hj
            rw [X7 hj,r2 j hj]
            obtain ⟨_,_,_,_,c5⟩:=U2 m (hAt h (a1N h m j))
            rcases c5 with ⟨_,c5⟩|⟨c6,c5⟩
            · rw [c5]; rfl
            · rw [c5]
              have:=C8.1 hr2 _ k1
              by_cases ht:(hAt h (a1N h m j)).2.2.2.2.2=0
              · rw [decide_eq_true ht]; rfl
              · have hbf:bef (hAt h (a1N h m j)) (hAt h i)=true:=by
                  unfold bef
                  rw [decide_eq_false ht,decide_eq_true (by omega)]; rfl
                rw [hbf] at this
                rw [decide_eq_false ht]; exact this
        · cases e
theorem b5C (hs:a0X specs=true) (h1:okH h=true) (h2:a2q specs h=true) (hc:0<b25 specs h):0<b25 specs (p8 h m) :=
  a6W hs h1 h2 9 _ _ (a5H hs) (a5H hs) ⟨rfl,fun j hj=>by
    have z:∀ i,a0i 0 i=false:=fun i=>by unfold a0i; simp
    rw [z,z],fun i hi hb=>by
    have z:a0i 0 i=false:=by unfold a0i; simp
    rw [z] at hb; cases hb⟩ hc
end
/-! ### A history at a moment,at an earlier one -/
theorem b7o (c:HC6) (r:List HC6) (m:Int):p8 (c::r) m=if a0G m c=true then cut m c::p8 r m else p8 r m:=by
  unfold p8
  rw [List.filter_cons]
  split<;>rfl
end Go.Proofs.Ytenchhmcjmjlbaa
