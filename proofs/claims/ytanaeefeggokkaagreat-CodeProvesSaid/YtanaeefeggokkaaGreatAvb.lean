import Derived.Test.YtanaeefeggokkaaGreatAva
import Derived.TacticsIn
import Derived.RangeFuncLeaves
import Derived.RangeFuncRecord
/-! The abstract machine,9: append,slicing,struct literals,calls. No program is named here. -/
namespace Go.Proofs.YtanaeefeggokkaaGreat
open Go.RowKit
set_option linter.constructorNameAsVariable false
section
variable {P:Program} {T:Tab} {n:Nat} {ds:List Deferred} {A0 L0:Nat→Prop} {w0:Old} {η:Nat→Value} {s:ASt} {a:Act} {w:World}
theorem a1y (h:Rel n ds A0 L0 w0 η s a w) {x:AVal} {xv:Value} (hx:d9 η w (Av A0 η s.H) x xv) {t:Ty} {xs:List (El t)} (hl:L4 s x=some ⟨t,xs⟩) :
  ∃ a' c,xv=.slice a' xs.length c∧(0<xs.length→∃ g o,a'=some ⟨g,o,none⟩∧∃ cells:List Value,(∀ i v,cells[i]?=some v→w.cell? ⟨g,o+i,none⟩=some v)∧d6 η w (Av A0 η s.H) (xs.flatMap (cellsOf t)) cells):=by
 cases x<;>simp only [L4] at hl
 case sl τ ys =>
  injection hl with hl;injection hl with e1 e2;subst e1;have e2:=eq_of_heq e2;subst e2;unfold d9 at hx;obtain ⟨a',c,rfl,hb⟩:=hx;refine ⟨a',c,rfl,fun hp=>?_⟩;obtain ⟨g,o,e,_,_,hx⟩:=hb.2.2 hp;exact ⟨g,o,e,a3j η ys o hx⟩
 case own b =>
  unfold d9 at hx
  cases hb:s.H b with
  | none=>simp [hb] at hl
  | some B =>
   cases B<;>simp only [hb] at hl
   case box=>cases hl
   case obx=>cases hl
   case map=>cases hl
   case arr e' τ ys =>
    injection hl with hl;injection hl with e1 e2;subst e1;have e2:=eq_of_heq e2;subst e2;rcases h.hp.blk b _ hb with ⟨e1,e2⟩|⟨g,cap,cur,e1,_,e3,e4,_,e6⟩
    ·rw [hx,e2,e1]; exact ⟨none,0,rfl,fun hp=>by simp at hp⟩
    ·rw [hx,e1]; exact ⟨_,cap,rfl,fun _=>⟨g,0,rfl,a3j η ys 0 (fun i x hi=>by have:=e6 i x hi; simpa using this)⟩⟩
   case imm τ ys =>
    injection hl with hl;injection hl with e1 e2;subst e1;have e2:=eq_of_heq e2;subst e2;obtain ⟨a',c,e1,hbd⟩:=h.hp.blk b _ hb;rw [hx,e1];refine ⟨a',c,rfl,fun hp=>?_⟩;obtain ⟨g,o,e,_,_,hx⟩:=hbd.2.2 hp;exact ⟨g,o,e,a3j η ys o hx⟩
 all_goals cases hl
theorem Q7 (t ty e:TypeId) (i:TypeInfo) (ht:P.underlying t=some (.slice e)) (hi:P.info? e=some i) (base:Option Addr) (k cap:Nat) (hk:k≤cap) (ad:Option Addr) (c:Nat) :
  (Builtin.append_ #[t,t] ty #[.slice base k cap,.slice ad 0 c]).run P w=.ok (.slice base k cap) w:=by
 cases ad<;>cases base<;>simp [Builtin.append_,run_underlying ht,sizeOf,typeInfo,hi,Builtin.lenOf,Builtin.firstCells,hk,storeCells,loadCells,loadCellsFrom]
theorem a3Y {z:Array Value} {sz:Nat} (h:z.size=sz) (k:Nat):(Builtin.zeroCells z k).size=k*sz:=by rw [size_zeroCells,h]
theorem a3I {A':Nat→Prop} {w':World} (k:Keeps (Av A0 η s.H) A' w w') {τ:Ty} {xs ys:List (El τ)} {c1 c2:List Value} (r1:d6 η w (Av A0 η s.H) (xs.flatMap (cellsOf τ)) c1) (r2:d6 η w (Av A0 η s.H) (ys.flatMap (cellsOf τ)) c2)
  {g:Nat} (hc:∀ q v,(c1++c2)[q]?=some v→w'.cell? ⟨g,q,none⟩=some v):∀ i x,(xs++ys)[i]?=some x→i9 w' A' τ x g (i*τ.size):=by
 intro i x hi;have h1:d6 η w' A' ((xs++ys).flatMap (cellsOf τ)) (c1++c2):=by
  rw [List.flatMap_append];exact (d6.flat (η':=η) k r1).append (d6.flat (η':=η) k r2)
 have:=a0B (xs++ys) 0 (c1++c2) (fun q v hq=>by rw [Nat.zero_add]; exact hc q v hq) h1 i x hi
 rwa [Nat.zero_add] at this
theorem a7e {wr:World} {c1 c2:Array Value} {e:TypeId} {q:Nat} {v:Value} (hq:c1.toList[q]?=some v):(wr.alloc (.cells (c1++c2) e)).cell? ⟨wr.heap.size,q,none⟩=some v:=by
 rw [World.cell?_alloc_new];have:c1[q]?=some v:=by simpa using hq
 rw [Array.getElem?_append_left (Array.getElem?_eq_some_iff.1 this).1];exact this
theorem a4v (hT:z5 P T) (h:Rel n ds A0 L0 w0 η s a w) {d:Option Nat} (hd:∀ i,d=some i→i<n) {nid:Nat} (hnid:nid<1000) {t ty e:TypeId} {i ie:TInfo} (ht:T t=some i) (hdd:i.desc=.sl e) (he:T e=some ie) {τ:Ty} (hdt:ie.dt=some τ)
  {x y:AVal} {xv yv:Value} (hx:d9 η w (Av A0 η s.H) x xv) {xs ys:List (El τ)} (hlx:L4 s x=some ⟨τ,xs⟩) {ad:Option Addr} (hcap:xv=.slice ad xs.length xs.length) (hy:d9 η w (Av A0 η s.H) y yv) (hly:L4 s y=some ⟨τ,ys⟩) (hy0:0<ys.length)
  (hbytes:(xs.length+ys.length)*ie.bytes≤140737488355328) (hmax:xs.length+ys.length≤maxLen) {K:Eff→Prop} (hK:K { v:=.own nid,kill:=[nid],hp:=[(nid,.arr e τ (xs++ys))] }) :
  a1i P (Builtin.append_ #[t,t] ty #[xv,yv]) n ds A0 L0 w0 s a w d K:=by
 have hte:=hT e ie he;have hu:=(hT t i ht).slice hdd;obtain ⟨info,z,dd,hi,hsz,hby,hz,hzz,_⟩:=hte.ex;obtain ⟨d1,d2,d3⟩:=hte.dt τ hdt;have hzs:z.cells.size=τ.size:=by
  have:=hte.zsize;rw [← hzz] at this;rw [d1]; simpa using this
 have hit:info.size=τ.size:=by rw [hsz,d1]
 rw [← hby] at hbytes;have Z1:∀ (c1 c2:List Value) (old:Nat),d6 η w (Av A0 η s.H) (xs.flatMap (cellsOf τ)) c1→d6 η w (Av A0 η s.H) (ys.flatMap (cellsOf τ)) c2 →
   (Builtin.append_ #[t,t] ty #[xv,yv]).run P w=.ok (.slice (some ⟨w.heap.size,0,none⟩) (xs.length+ys.length) (grownCap w (xs.length+ys.length) old e))
    (w.drew.alloc (.cells (c1.toArray++c2.toArray++Builtin.zeroCells z.cells (grownCap w (xs.length+ys.length) old e - (xs.length+ys.length))) e)) →
   a1i P (Builtin.append_ #[t,t] ty #[xv,yv]) n ds A0 L0 w0 s a w d K:=by
  intro c1 c2 old r1 r2 hrun;have hge:=grownCap_ge w (xs.length+ys.length) old e;have hle:=grownCap_le_maxLen w (xs.length+ys.length) old e hmax;have hl1:c1.length=xs.length*τ.size:=by rw [← r1.length,Z2]
  have hl2:c2.length=ys.length*τ.size:=by rw [← r2.length,Z2]
  have hrel:=h.newArr hd (nid:=nid) hnid (e:=e) (τ:=τ) (xs:=xs++ys) (ids:=[]) (cur:=c1.toArray++c2.toArray++Builtin.zeroCells z.cells (grownCap w (xs.length+ys.length) old e - (xs.length+ys.length))) (cap:=grownCap w (xs.length+ys.length) old e)
   (w':=w.drew.alloc (.cells (c1.toArray++c2.toArray++Builtin.zeroCells z.cells (grownCap w (xs.length+ys.length) old e - (xs.length+ys.length))) e)) (kl:=[nid]) (by simp) (by simp) ⟨rfl,rfl,rfl⟩ rfl (by simpa using hge) hle
   (by simp only [Array.size_append,List.size_toArray,a3Y hzs,hl1,hl2,← Nat.add_mul]; congr 1; omega)
   (fun A' k' _=>a3I k' r1 r2 (g:=w.heap.size) fun q v hq=>a7e (wr:=w.drew) (by simpa using hq))
  rw [List.length_append] at hrel;exact ⟨_,_,_,_,hK,hrun,hrel⟩
 obtain ⟨ax,cx,ex,hxc⟩:=a1y h hx hlx;obtain ⟨ay,cy,ey,hyc⟩:=a1y h hy hly;obtain ⟨gy,oy,eay,c2,hc2,r2⟩:=hyc hy0;subst eay;rw [hcap] at ex;injection ex with ex _ _;subst ex;have hl2:c2.length=ys.length*info.size:=by rw [← r2.length,Z2,hit]
 have hc2':∀ j v,c2[j]?=some v→w.cell? ((⟨gy,oy,none⟩:Addr).add j)=some v:=fun j v hj=>by rw [U1]; exact hc2 j v hj
 by_cases hx0:xs.length=0
 ·have hxn:xs=[]:=List.eq_nil_of_length_eq_zero hx0;subst hxn
  cases ad with
  | none =>
   refine Z1 [] c2 0 d6.nil r2 ?_;have hr:=run_append_nil (P:=P) w t ty _ info z hu hi hz ⟨gy,oy,none⟩ ys.length cy c2 hl2 hc2' (by omega) (by simp [maxLen] at hmax; omega) (by simp only [List.length_nil,Nat.zero_add] at hbytes; omega);rw [hcap,ey];simpa using hr
  | some b =>
   refine Z1 [] c2 0 d6.nil r2 ?_;rw [hcap,ey];exact run_append_grow (P:=P) w t ty _ info z hu hi hz b 0 0 [] (by simp) (fun j v hj=>by simp at hj) ⟨gy,oy,none⟩ ys.length cy c2 hl2 hc2' (by omega) (by simp [maxLen] at hmax; omega) (growslice_fits (by omega) hbytes)
 ·obtain ⟨gx,ox,eax,c1,hc1,r1⟩:=hxc (by omega);have hl1:c1.length=xs.length*info.size:=by rw [← r1.length,Z2,hit]
  refine Z1 c1 c2 xs.length r1 r2 ?_;rw [hcap,ey,eax];exact run_append_grow (P:=P) w t ty _ info z hu hi hz ⟨gx,ox,none⟩ xs.length xs.length c1 hl1 (fun j v hj=>by rw [U1]; exact hc1 j v hj) ⟨gy,oy,none⟩ ys.length cy c2 hl2 hc2' (by omega) (by simp [maxLen] at hmax; omega) (growslice_fits (by omega) hbytes)
theorem a8Q (hT:z5 P T) (h:Rel n ds A0 L0 w0 η s a w) {d:Option Nat} (hd:∀ i,d=some i→i<n) {nid:Nat} (hnid:nid<1000) {t ty:TypeId} {x y:AVal} {xv yv:Value} (hx:d9 η w (Av A0 η s.H) x xv) (hy:d9 η w (Av A0 η s.H) y yv) {K:Eff→Prop}
  (hs:Q5 T s nid t x y K):a1i P (Builtin.append_ #[t,t] ty #[xv,yv]) n ds A0 L0 w0 s a w d K:=by
 unfold Q5 at hs
 cases ht:T t with
 | none=>simp [ht] at hs
 | some i =>
  simp only [ht] at hs
  cases hdd:i.desc<;>simp only [hdd] at hs
  case sl e =>
   cases he:T e with
   | none=>simp [he] at hs
   | some ie =>
    simp only [he] at hs
    cases hdt:ie.dt with
    | none=>simp [hdt] at hs
    | some τ =>
     simp only [hdt] at hs;have hte:=hT e ie he;have hu:=(hT t i ht).slice hdd;obtain ⟨info,z,dd,hi,hsz,hby,hz,hzz,_⟩:=hte.ex;obtain ⟨d1,d2,d3⟩:=hte.dt τ hdt;have hzs:z.cells.size=τ.size:=by
      have:=hte.zsize;rw [← hzz] at this;rw [d1]; simpa using this
     have hit:info.size=τ.size:=by rw [hsz,d1]
     -- a list behind,in a new row
     have Z1:∀ (kl:List Nat) (_:kl.contains nid=true) (xs ys:List (El τ)) (c1 c2:List Value) (old:Nat),d6 η w (Av A0 η s.H) (xs.flatMap (cellsOf τ)) c1→d6 η w (Av A0 η s.H) (ys.flatMap (cellsOf τ)) c2→xs.length+ys.length≤maxLen →
       K { v:=.own nid,kill:=kl,hp:=[(nid,.arr e τ (xs++ys))] } →
       (Builtin.append_ #[t,t] ty #[xv,yv]).run P w=.ok (.slice (some ⟨w.heap.size,0,none⟩) (xs.length+ys.length) (grownCap w (xs.length+ys.length) old e))
        (w.drew.alloc (.cells (c1.toArray++c2.toArray++Builtin.zeroCells z.cells (grownCap w (xs.length+ys.length) old e - (xs.length+ys.length))) e)) →
       a1i P (Builtin.append_ #[t,t] ty #[xv,yv]) n ds A0 L0 w0 s a w d K:=by
      intro kl hkl xs ys c1 c2 old r1 r2 hmax hK hrun;have hge:=grownCap_ge w (xs.length+ys.length) old e;have hle:=grownCap_le_maxLen w (xs.length+ys.length) old e hmax;have hl1:c1.length=xs.length*τ.size:=by rw [← r1.length,Z2]
      have hl2:c2.length=ys.length*τ.size:=by rw [← r2.length,Z2]
      have hrel:=h.newArr hd (nid:=nid) hnid (e:=e) (τ:=τ) (xs:=xs++ys) (ids:=[]) (cur:=c1.toArray++c2.toArray++Builtin.zeroCells z.cells (grownCap w (xs.length+ys.length) old e - (xs.length+ys.length))) (cap:=grownCap w (xs.length+ys.length) old e)
       (w':=w.drew.alloc (.cells (c1.toArray++c2.toArray++Builtin.zeroCells z.cells (grownCap w (xs.length+ys.length) old e - (xs.length+ys.length))) e)) (kl:=kl) hkl (by simp) ⟨rfl,rfl,rfl⟩ rfl (by simpa using hge) hle
       (by simp only [Array.size_append,List.size_toArray,a3Y hzs,hl1,hl2,← Nat.add_mul]; congr 1; omega)
       (fun A' k' _=>a3I k' r1 r2 (g:=w.heap.size) fun q v hq=>a7e (wr:=w.drew) (by simpa using hq))
      rw [List.length_append] at hrel;exact ⟨_,_,_,_,hK,hrun,hrel⟩
     cases x<;>simp only at hs
     case cut τ' xs =>
      obtain ⟨_,hs⟩:=hs
      cases hly:L4 s y with
      | none=>simp [hly] at hs
      | some q =>
       obtain ⟨τy,ys⟩:=q;simp only [hly] at hs
       split at hs
       case isFalse=>exact hs.elim
       rename_i h1
       split at hs
       case isFalse=>exact hs.elim
       rename_i h2;subst h1 h2;obtain ⟨hy0,hbytes,hmax,hK⟩:=hs;simp only [a0q] at hK;have hx0:=hx;unfold d9 at hx0;obtain ⟨ad,hcap,hbody⟩:=hx0;exact a4v hT h hd hnid ht hdd he hdt (x:=.sl _ xs) (by unfold d9; exact ⟨ad,_,hcap,hbody⟩) (xs:=xs) rfl hcap hy hly hy0 hbytes hmax hK
     case own b =>
      cases hb:s.H b with
      | none=>simp [hb] at hs
      | some B =>
       cases B<;>simp only [hb] at hs
       case arr e' τ' xs =>
        obtain ⟨rfl,hid,hid2,hs⟩:=hs;have hx0:=hx;unfold d9 at hx0;have hblk:=h.hp.blk b _ hb
        split at hs
        ·obtain ⟨rfl,rfl,hK⟩:=hs;unfold d9 at hy;subst hy;refine g7 h hd ?_ hx hK;rcases hblk with ⟨_,e2⟩|⟨g,cap,cur,e2,_,e3,_⟩
         ·rw [hx0,e2]; exact Q7 t ty _ info hu hi none 0 0 (Nat.le_refl _) none 0
         ·rw [hx0,e2]; exact Q7 t ty _ info hu hi _ _ cap e3 none 0
        ·cases hly:L4 s y with
         | none=>simp [hly] at hs
         | some q =>
          obtain ⟨τy,ys⟩:=q;simp only [hly] at hs
          split at hs
          case isFalse=>exact hs.elim
          rename_i h1
          split at hs
          case isFalse=>exact hs.elim
          rename_i h2;subst h1 h2;obtain ⟨hbytes,hmax,hK⟩:=hs;simp only [a0q] at hK;obtain ⟨ay,cy,rfl,hyc⟩:=a1y h hy hly;rw [← hby] at hbytes
          by_cases hy0:ys.length=0
          ·-- nothing is appended
           have hyn:ys=[]:=List.eq_nil_of_length_eq_zero hy0;subst hyn;rw [List.append_nil] at hK;simp only [List.length_nil] at hyc ⊢;have hrun:(Builtin.append_ #[t,t] ty #[xv,.slice ay 0 cy]).run P w=.ok xv w:=by
            rcases hblk with ⟨_,e2⟩|⟨g,cap,cur,e2,_,e3,_⟩
            ·rw [hx0,e2]; exact Q7 t ty _ info hu hi none 0 0 (Nat.le_refl _) ay cy
            ·rw [hx0,e2]; exact Q7 t ty _ info hu hi _ _ cap e3 ay cy
           refine ⟨_,xv,w,a2Q η nid (η b),hK,hrun,?_⟩;have hη:∀ b',[b,nid].contains b'=false→a2Q η nid (η b) b'=η b':=fun b' hb'=>S1 _ _ (fun e=>by subst e; simp at hb')
           refine h.eff (nid:=nid) hd hη ⟨rfl,rfl,rfl⟩ (Nat.le_refl _) (fun g _=>.inl rfl) ?_ ?_ ?_ hnid (fun b' _ hs=>by
            by_cases e:b'=nid
            ·exact e
            ·simp only [b6,e,if_false] at hs; cases hs) (fun b' hb' hs=>by simp only [b6,hb',if_false] at hs; cases hs)
           ·intro b' B g hb' hm hg;simp only [b6] at hb'
            split at hb'
            ·rename_i e9;subst e9;rw [s7] at hg;exact .inl ⟨b,_,hb,rfl,hg,.inr ⟨rfl,by simp⟩⟩
            ·cases hb'
           ·intro k b' B hb';simp only [b6] at hb'
            split at hb'
            ·rename_i e9;subst e9;injection hb' with hb';subst hb';rw [s7];have:=r6.step (K:=[]) (η':=η) k (fun _ _=>rfl) (fun g _ _=>rfl) hblk;rw [z9] at this;exact this
            ·cases hb'
           ·intro k; unfold d9; rw [s7]; exact hx0
          ·obtain ⟨gy,oy,rfl,c2,hc2,r2⟩:=hyc (by omega);have hl2:c2.length=ys.length*info.size:=by rw [← r2.length,Z2,hit]
           have hc2':∀ j v,c2[j]?=some v→w.cell? ((⟨gy,oy,none⟩:Addr).add j)=some v:=fun j v hj=>by rw [U1]; exact hc2 j v hj
           have hone2:=a3A ys c2 r2;rcases hblk with ⟨e1,e2⟩|⟨g,cap,cur,e1,e2,e3,e4,e5,e6⟩
           ·-- from nil
            subst e1;refine Z1 [b,nid] (by simp) [] ys [] c2 0 d6.nil r2 (by simpa using hmax) (by simpa using hK) ?_;rw [hx0,e2];have hr:=run_append_nil (P:=P) w t ty _ info z hu hi hz ⟨gy,oy,none⟩ ys.length cy c2 hl2 hc2' (by omega) (by simp [maxLen] at hmax; omega) (by simp only [List.length_nil,Nat.zero_add] at hbytes; omega);simpa using hr
           ·obtain ⟨c1,hc1,r1⟩:=a3j η xs 0 (fun i x hi=>by have:=e6 i x hi; simpa using this);have hl1:c1.length=xs.length*info.size:=by rw [← r1.length,Z2,hit]
            have hone1:=a3A xs c1 r1;have hcur1:cur.toList.take (xs.length*info.size)=c1:=by
             apply List.ext_getElem?;intro q;rw [List.getElem?_take]
             split
             ·rename_i hq;have hlt:q<c1.length:=by rw [hl1]; exact hq
              have:=hc1 q c1[q] (by simp [hlt]);rw [Nat.zero_add,cell_of_row w g q cur _ _ e2] at this;simp [hlt,this]
             ·rename_i hq;rw [List.getElem?_eq_none (by rw [hl1]; omega)]
            by_cases hroom:xs.length+ys.length≤cap
            ·-- in place
             have hfit:xs.length*info.size+c2.length≤cur.size:=by
              rw [hl2,e5,hit,← Nat.add_mul]; exact Nat.mul_le_mul_right _ hroom
             have hr:=run_append_room (P:=P) w t ty _ info hu hi g xs.length cap cur e2 ⟨gy,oy,none⟩ ys.length cy c2 hl2 hc2' hone2 hroom hfit;rw [hcur1] at hr;rw [hx0,e1];have hrow:=setRow_heap w g cur (c1++c2++cur.toList.drop (xs.length*info.size+c2.length)).toArray _ _ e2;refine ⟨_,_,_,a2Q η nid (.slice (some ⟨g,0,none⟩) (xs.length+ys.length) cap),hK,hr,?_⟩;have hη:∀ b',[b,nid].contains b'=false→a2Q η nid (.slice (some ⟨g,0,none⟩) (xs.length+ys.length) cap) b'=η b':=fun b' hb'=>S1 _ _ (fun e=>by subst e; simp at hb')
             refine h.eff (nid:=nid) hd hη ⟨rfl,rfl,rfl⟩ (by simp [World.setRow]) ?_ ?_ ?_ ?_ hnid (fun b' _ hs=>by
              by_cases e:b'=nid
              ·exact e
              ·simp only [b6,e,if_false] at hs; cases hs) (fun b' hb' hs=>by simp only [b6,hb',if_false] at hs; cases hs)
             ·intro g' _
              by_cases hg':g'=g
              ·subst hg';exact .inr ⟨b,_,hb,rfl,by rw [e1]; rfl,.inr (by simp)⟩
              ·exact .inl (a2i w g g' _ hg')
             ·intro b' B g' hb' hm hg';simp only [b6] at hb'
              split at hb'
              ·rename_i e9;subst e9;rw [s7] at hg';refine .inl ⟨b,_,hb,rfl,?_,.inr ⟨rfl,by simp⟩⟩;rw [e1]; exact hg'
              ·cases hb'
             ·intro k b' B hb';simp only [b6] at hb'
              split at hb'
              ·rename_i e9;subst e9;injection hb' with hb';subst hb';refine .inr ⟨g,cap,_,by rw [s7,List.length_append],hrow,by simpa using hroom,e4,?_,a3I k r1 r2 fun q v hq=>?_⟩
               ·simp only [List.size_toArray,List.length_append,List.length_drop,Array.length_toList,hl1];omega
               ·rw [cell_of_row _ g q _ _ _ hrow,List.getElem?_toArray,List.getElem?_append_left (List.getElem?_eq_some_iff.1 hq).1];exact hq
              ·cases hb'
             ·intro k; unfold d9; exact (s7 _ _ _).symm
            ·-- in a new row
             refine Z1 [b,nid] (by simp) xs ys c1 c2 cap r1 r2 hmax hK ?_;rw [hx0,e1];exact run_append_grow (P:=P) w t ty _ info z hu hi hz ⟨g,0,none⟩ xs.length cap c1 hl1 (fun j v hj=>by rw [U1]; exact hc1 j v hj) ⟨gy,oy,none⟩ ys.length cy c2 hl2 hc2' (by omega) (by simp [maxLen] at hmax; omega) (growslice_fits (by omega) hbytes)
     case cv v =>
      obtain ⟨rfl,hid,hs⟩:=hs;unfold d9 at hx;subst hx
      cases hly:L4 s y with
      | none=>simp [hly] at hs
      | some q =>
       obtain ⟨τy,ys⟩:=q;simp only [hly] at hs
       split at hs
       case isFalse=>exact hs.elim
       rename_i h2;subst h2;obtain ⟨hbytes,hmax,hK⟩:=hs;simp only [a0q] at hK;obtain ⟨ay,cy,rfl,hyc⟩:=a1y h hy hly;rw [← hby] at hbytes
       by_cases hy0:ys.length=0
       ·have hyn:ys=[]:=List.eq_nil_of_length_eq_zero hy0;subst hyn;exact ⟨_,_,_,_,hK,Q7 t ty _ info hu hi none 0 0 (Nat.le_refl _) ay cy,h.newNil hd hnid⟩
       ·obtain ⟨gy,oy,rfl,c2,hc2,r2⟩:=hyc (by omega);have hl2:c2.length=ys.length*info.size:=by rw [← r2.length,Z2,hit]
        have hc2':∀ j v,c2[j]?=some v→w.cell? ((⟨gy,oy,none⟩:Addr).add j)=some v:=fun j v hj=>by rw [U1]; exact hc2 j v hj
        refine Z1 [nid] (by simp) [] ys [] c2 0 d6.nil r2 (by simpa using hmax) (by simpa using hK) ?_;have hr:=run_append_nil (P:=P) w t ty _ info z hu hi hz ⟨gy,oy,none⟩ ys.length cy c2 hl2 hc2' (by omega) (by simp [maxLen] at hmax; omega) (by omega);simpa using hr
end
end Go.Proofs.YtanaeefeggokkaaGreat
/-! The abstract machine,10: slicing,struct literals,calls. No program is named here. -/
namespace Go.Proofs.YtanaeefeggokkaaGreat
open Go.RowKit
set_option linter.constructorNameAsVariable false
section
variable {P:Program} {T:Tab} {n:Nat} {ds:List Deferred} {A0 L0:Nat→Prop} {w0:Old} {η:Nat→Value} {s:ASt} {a:Act} {w:World}
theorem Rel.resting (h:Rel n ds A0 L0 w0 η s a w) {d:Option Nat} (hd:∀ i,d=some i→i<n) {v:AVal} {u:Value} {ids:List Nat} {w':World} (hb:Below w.heap.size w w')
  (hv:Keeps (Av A0 η s.H) (Av A0 η (s.app d { v:=v,hp:=rest s.H ids }).H) w w' →
   (∀ b' t' ys e',b'∈ids→(s.H b'=some (.arr e' t' ys)∨s.H b'=some (.imm t' ys))→∃ a' c',η b'=.slice a' ys.length c'∧A3 w'.heap.size (Av A0 η (s.app d { v:=v,hp:=rest s.H ids }).H) t'.size (fun y p z=>i9 w' (Av A0 η (s.app d { v:=v,hp:=rest s.H ids }).H) t' y p z) ys a' c') →
   d9 η w' (Av A0 η (s.app d { v:=v,hp:=rest s.H ids }).H) v u) :
  Rel n ds A0 L0 w0 η (s.app d { v:=v,hp:=rest s.H ids }) (a.put d u) w':=by
 have hN:∀ b B g,b6 (rest s.H ids) b=some B→B.mut=true→hblk (η b)=some g→(∃ b0 B0,s.H b0=some B0∧B0.mut=true∧hblk (η b0)=some g∧(b0=b∨(b=0∧([]:List Nat).contains b0=true)))∨(w.heap.size≤g∧b=0):=by
  intro b B g hb hm hg;obtain ⟨_,_,_,_,e9,_⟩:=t6 _ _ _ _ hb;subst e9
  cases hm
 have hown:Keeps (Av A0 η s.H) (Av A0 η (s.app d { v:=v,hp:=rest s.H ids }).H) w w'→∀ b' t' ys e',b'∈ids→(s.H b'=some (.arr e' t' ys)∨s.H b'=some (.imm t' ys)) →
   ∃ a' c',η b'=.slice a' ys.length c'∧A3 w'.heap.size (Av A0 η (s.app d { v:=v,hp:=rest s.H ids }).H) t'.size (fun y p z=>i9 w' (Av A0 η (s.app d { v:=v,hp:=rest s.H ids }).H) t' y p z) ys a' c':=by
  intro k b' t' ys e' hm' hbb;refine a38 h.hp hbb k fun g' hba hg'=>⟨hb.block g' (p9.lt h.hp ⟨b',_,hba,rfl,hg'⟩),?_⟩;refine a3r (nid:=0) h.hp (a6c (fun _ _=>rfl) hN) hba ?_ rfl hg';simp only [ASt.app,a2T _ _ _ hm' hba]
 refine h.eff (nid:=0) hd (fun _ _=>rfl) ⟨hb.os,hb.tape,hb.output⟩ hb.size (fun g hg=>.inl (hb.block g hg)) hN ?_ (fun k=>hv k (hown k)) (hhn:=fun b _ hs=>by
  obtain ⟨B9,hB9⟩:=Option.isSome_iff_exists.1 hs;obtain ⟨_,_,_,h9,_⟩:=t6 _ _ _ _ hB9
  rw [h9]; rfl)
 intro k b B hb;obtain ⟨e9,t9,ys,h9,e10,hm9⟩:=t6 _ _ _ _ hb;subst e10;exact hown k b t9 ys e9 hm9 (.inl h9)
theorem b1d {A':Nat→Prop} {w':World} {x:AVal} {xv:Value} (k:Keeps (Av A0 η s.H) A' w w') (hx:d9 η w (Av A0 η s.H) x xv) {t:Ty} {xs:List (El t)} (hl:L4 s x=some ⟨t,xs⟩)
  (hown:∀ b' t' ys e',b'∈x.ids→(s.H b'=some (.arr e' t' ys)∨s.H b'=some (.imm t' ys))→∃ a' c',η b'=.slice a' ys.length c'∧A3 w'.heap.size A' t'.size (fun y p z=>i9 w' A' t' y p z) ys a' c') :
  ∃ a' c,xv=.slice a' xs.length c∧A3 w'.heap.size A' t.size (fun y p z=>i9 w' A' t y p z) xs a' c:=by
 cases x<;>simp only [L4] at hl
 case sl τ ys =>
  injection hl with hl;injection hl with e1 e2;subst e1;have e2:=eq_of_heq e2;subst e2;have:=d9.step (η':=η) k _ _ (fun _ _=>rfl) hx;unfold d9 at this;exact this
 case own b =>
  unfold d9 at hx
  cases hb:s.H b with
  | none=>simp [hb] at hl
  | some B =>
   cases B<;>simp only [hb] at hl
   case box=>cases hl
   case obx=>cases hl
   case map=>cases hl
   case arr e' τ ys =>
    injection hl with hl;injection hl with e1 e2;subst e1;have e2:=eq_of_heq e2;subst e2;obtain ⟨a',c,e3,hs⟩:=hown b _ ys e' (by simp [AVal.ids]) (.inl hb);exact ⟨a',c,by rw [hx,e3],hs⟩
   case imm τ ys =>
    injection hl with hl;injection hl with e1 e2;subst e1;have e2:=eq_of_heq e2;subst e2;obtain ⟨a',c,e3,hs⟩:=hown b _ ys 0 (by simp [AVal.ids]) (.inr hb);exact ⟨a',c,by rw [hx,e3],hs⟩
 all_goals cases hl
theorem A3.part {α:Type} {N:Nat} {A:Nat→Prop} {sz:Nat} {R:α→Nat→Nat→Prop} {xs:List α} {a:Option Addr} {c:Nat} (h:A3 N A sz R xs a c) {l k:Nat} (hlk:l≤k) (hk:k≤xs.length) :
  ∃ a',sliced a l k c sz=.slice a' ((xs.take k).drop l).length (c - l)∧A3 N A sz R ((xs.take k).drop l) a' (c - l):=by
 obtain ⟨h1,h2,h3⟩:=h;have hl:((xs.take k).drop l).length=k - l:=by simp; omega
 refine ⟨if c=l then a else a.map (·.add (l*sz)),by rw [hl]; rfl,by rw [hl]; omega,by omega,fun hp=>?_⟩;rw [hl] at hp;obtain ⟨b,o,e,hb,hn,hx⟩:=h3 (by omega);subst e;refine ⟨b,o+l*sz,by rw [if_neg (by omega)]; simp [U1],hb,hn,fun i x hi=>?_⟩;rw [List.getElem?_drop,List.getElem?_take] at hi
 split at hi
 ·have:=hx (l+i) x hi
  rwa [show o+(l+i)*sz=o+l*sz+i*sz by rw [Nat.add_mul]; omega] at this
 ·cases hi
theorem a3m {t e:TypeId} {i ie:TInfo} (hT:z5 P T) (ht:T t=some i) (hd:i.desc=.sl e) (he:T e=some ie) (ad:Option Addr) (len cap:Nat) (lo hi:Option Value) (l k:Nat) (hlk:l≤k) (hk:k≤cap)
  (hlo:lo=none∧l=0∨∃ kk,lo=some (.int kk (l:Int))) (hhi:hi=none∧k=len∨∃ kk,hi=some (.int kk (k:Int))) :
  (Instr.sliceAt t (.slice ad len cap) lo hi none).run P w=.ok (sliced ad l k cap ie.size) w:=by
 have hu:=(hT t i ht).slice hd;have hsz:=(hT e ie he).sizeOf w;have b1:∀ kk,(Instr.sliceBound (.int kk (k:Int)) cap .sliceAcap).run P w=.ok k w:=fun kk=>by
  have:=run_sliceBound (P:=P) (w:=w) kk (k:Int) cap .sliceAcap (by omega) (by omega);simpa using this
 have b2:∀ kk,(Instr.sliceBound (.int kk (l:Int)) k .sliceB).run P w=.ok l w:=fun kk=>by
  have:=run_sliceBound (P:=P) (w:=w) kk (l:Int) k .sliceB (by omega) (by omega);simpa using this
 rcases hlo with ⟨rfl,rfl⟩|⟨k1,rfl⟩<;>rcases hhi with ⟨rfl,rfl⟩|⟨k2,rfl⟩ <;>
  simp [Instr.sliceAt,run_underlying hu,Instr.slice,Instr.sliceBounds,hsz,sliced,b1,b2]
theorem a33 {A:Nat→Prop} {η:Nat→Value} {τ:Ty}:∀ (n:Nat) (l:List AVal) (xs:List (El τ)) (vs:List Value),E0 τ n l=some xs→d6 η w A l vs→∃ v1 v2,vs=v1++v2∧xs.length=n∧d6 η w A (xs.flatMap (cellsOf τ)) v1
 | 0,l,xs,vs,h,hr=>by
  unfold E0 at h;injection h with h;subst h;exact ⟨[],vs,rfl,rfl,d6.nil⟩
 | n+1,l,xs,vs,h,hr=>by
  unfold E0 at h
  cases h1:C6 (fun _=>none) τ l with
  | none=>simp [h1] at h
  | some q =>
   obtain ⟨x,r⟩:=q;simp only [h1] at h
   cases h2:E0 τ n r with
   | none=>simp [h2] at h
   | some ys =>
    simp only [h2] at h;injection h with h;subst h;obtain ⟨v1,v2,e1,r1,r2,_⟩:=a2N (Keeps.refl A w) τ l x r vs h1 hr (fun b t xs e _ hb=>by rcases hb with hb|hb<;>cases hb);obtain ⟨u1,u2,e2,e3,r3⟩:=a33 n r ys v2 h2 r2;refine ⟨v1++u1,u2,by rw [e1,e2,List.append_assoc],by simp [e3],?_⟩;rw [List.flatMap_cons];exact d6.append r1 r3
theorem a4W {t e:TypeId} {i ie:TInfo} {len:Nat} (hT:z5 P T) (ht:T t=some i) (hd:i.desc=.arr len e) (he:T e=some ie) (g o:Nat) (lo hi:Option Value) (l k:Nat) (hlk:l≤k) (hk:k≤len)
  (hlo:lo=none∧l=0∨∃ kk,lo=some (.int kk (l:Int))) (hhi:hi=none∧k=len∨∃ kk,hi=some (.int kk (k:Int))) :
  (Instr.sliceAt t (.pointer (some ⟨g,o,none⟩)) lo hi none).run P w=.ok (sliced (some ⟨g,o,none⟩) l k len ie.size) w:=by
 have hu:=(hT t i ht).array hd;have hsz:=(hT e ie he).sizeOf w;have b1:∀ kk,(Instr.sliceBound (.int kk (k:Int)) len .sliceAlen).run P w=.ok k w:=fun kk=>by
  have:=run_sliceBound (P:=P) (w:=w) kk (k:Int) len .sliceAlen (by omega) (by omega);simpa using this
 have b2:∀ kk,(Instr.sliceBound (.int kk (l:Int)) k .sliceB).run P w=.ok l w:=fun kk=>by
  have:=run_sliceBound (P:=P) (w:=w) kk (l:Int) k .sliceB (by omega) (by omega);simpa using this
 rcases hlo with ⟨rfl,rfl⟩|⟨k1,rfl⟩<;>rcases hhi with ⟨rfl,rfl⟩|⟨k2,rfl⟩ <;>
  (simp [Instr.sliceAt,Instr.sureAddr,run_underlying hu,Instr.sliceBounds,hsz,sliced,b1,b2]<;>split<;>rfl)
theorem a9L (hT:z5 P T) (h:Rel n ds A0 L0 w0 η s a w) {d:Option Nat} (hd:∀ i,d=some i→i<n) {t:TypeId} {x:AVal} {xv:Value} (hx:d9 η w (Av A0 η s.H) x xv) {lo hi:Option AVal} {lov hiv:Option Value}
  (hlo:lo=none∧lov=none∨∃ y v,lo=some y∧lov=some v∧d9 η w (Av A0 η s.H) y v) (hhi:hi=none∧hiv=none∨∃ y v,hi=some y∧hiv=some v∧d9 η w (Av A0 η s.H) y v) {K:Eff→Prop}
  (hs:W5 T s t x lo hi K):a1i P (Instr.sliceAt t xv lov hiv none) n ds A0 L0 w0 s a w d K:=by
 unfold W5 at hs
 cases ht:T t with
 | none=>simp [ht] at hs
 | some i =>
  simp only [ht] at hs
  cases hdd:i.desc<;>simp only [hdd] at hs
  case arr len e =>
   cases he:T e with
   | none=>simp [he] at hs
   | some ie =>
    cases hlb:b1F lo with
    | none=>simp [he,hlb] at hs
    | some lz =>
     cases hhb:b1G len hi with
     | none=>simp [he,hlb,hhb] at hs
     | some kz =>
      simp only [he,hlb,hhb] at hs;obtain ⟨h0,h1,h2,h3,hs⟩:=hs;have q1:lov=none∧lz.toNat=0∨∃ kk,lov=some (.int kk (lz.toNat:Int)):=by
       rcases hlo with ⟨rfl,rfl⟩|⟨y,v,rfl,rfl,hr⟩
       ·simp only [b1F] at hlb; injection hlb with hlb; subst hlb; exact .inl ⟨rfl,rfl⟩
       ·cases y<;>simp only [b1F] at hlb<;>first|(cases hlb; done)|skip
        rename_i kk z;injection hlb with hlb;subst hlb;unfold d9 at hr;subst hr;exact .inr ⟨kk,by rw [Int.toNat_of_nonneg h0]⟩
      have q2:hiv=none∧kz.toNat=len∨∃ kk,hiv=some (.int kk (kz.toNat:Int)):=by
       rcases hhi with ⟨rfl,rfl⟩|⟨y,v,rfl,rfl,hr⟩
       ·simp only [b1G] at hhb; injection hhb with hhb; subst hhb; exact .inl ⟨rfl,by simp⟩
       ·cases y<;>simp only [b1G] at hhb<;>first|(cases hhb; done)|skip
        rename_i kk z;injection hhb with hhb;subst hhb;unfold d9 at hr;subst hr;exact .inr ⟨kk,by rw [Int.toNat_of_nonneg (by omega)]⟩
      cases x<;>simp only at hs
      case bp b off =>
       obtain ⟨hsz,hK⟩:=hs;unfold d9 at hx;obtain ⟨g,hη,rfl⟩:=hx;refine g7 h hd (a4W (w:=w) hT ht hdd he g off lov hiv lz.toNat kz.toNat (by omega) (by omega) q1 q2) ?_ hK;unfold d9;refine ⟨_,_,rfl,by omega,by unfold maxLen; omega,fun hp=>⟨g,.inr hη,?_⟩⟩;rw [if_neg (by omega),hsz,Nat.mul_one,Nat.mul_one];simp [U1]
      case dp τ y off =>
       cases hdt:ie.dt with
       | none=>simp [hdt] at hs
       | some τe =>
        simp only [hdt] at hs
        cases hel:E0 τe len ((cellsOf τ y).drop off) with
        | none=>simp [hel] at hs
        | some ys =>
         simp only [hel] at hs;unfold d9 at hx;obtain ⟨g,o,rfl,hg,hn,hr⟩:=hx;have hsz:τe.size=ie.size:=((hT e ie he).dt τe hdt).1;obtain ⟨vs,hc,hrv⟩:=i9.cells η τ y g o hr;obtain ⟨v1,v2,e1,e2,hr1⟩:=a33 len _ ys _ hel (hrv.drop off)
         have hat:=a0B (w:=w) (A:=Av A0 η s.H) (η:=η) (t:=τe) (g:=g) ys (o+off) v1 (fun j v hj=>by
          have:=hc (off+j) v (by
           have h9:(vs.drop off)[j]?=some v:=by rw [e1,List.getElem?_append_left (by have:=(List.getElem?_eq_some_iff.1 hj).1; exact this)]; exact hj
           rwa [List.getElem?_drop] at h9)
          rw [← Nat.add_assoc] at this; exact this) hr1
         refine g7 h hd (a4W (w:=w) hT ht hdd he g (o+off) lov hiv lz.toNat kz.toNat (by omega) (by omega) q1 q2) ?_ hs;have hbody:A3 w.heap.size (Av A0 η s.H) τe.size (fun x b o=>i9 w (Av A0 η s.H) τe x b o) ys (some ⟨g,o+off,none⟩) len :=
          ⟨by omega,by unfold maxLen; omega,fun _=>⟨g,o+off,rfl,hg,hn,hat⟩⟩
         obtain ⟨a2,e4,hb2⟩:=hbody.part (l:=lz.toNat) (k:=kz.toNat) (by omega) (by omega);unfold d9;exact ⟨a2,_,by rw [← hsz]; exact e4,hb2⟩
  case sl e =>
   cases he:T e with
   | none=>simp [he] at hs
   | some ie =>
    cases hl:L4 s x with
    | none=>simp [he,hl] at hs
    | some q =>
     obtain ⟨τ,xs⟩:=q;simp only [he,hl] at hs;obtain ⟨hsz,hs⟩:=hs;obtain ⟨a0,c0,hxv,hle,hmax⟩:=a8g h hx hl
     -- the part from l to k
     have part:∀ (l k:Nat) (r:List (El τ)),l≤k→k≤xs.length→r=(xs.take k).drop l→(lov=none∧l=0∨∃ kk,lov=some (.int kk (l:Int)))→(hiv=none∧k=xs.length∨∃ kk,hiv=some (.int kk (k:Int))) →
       K { v:=.sl τ r,hp:=rest s.H x.ids }→a1i P (Instr.sliceAt t xv lov hiv none) n ds A0 L0 w0 s a w d K:=by
      intro l k r hlk hk hr h1 h2 hK;have hrun:=a3m (w:=w) hT ht hdd he a0 xs.length c0 lov hiv l k hlk (by omega) h1 h2;rw [← hxv] at hrun;refine ⟨_,_,w,η,hK,hrun,h.resting hd (Below.refl _ _) fun k' hown=>?_⟩;obtain ⟨a1,c1,e1,hb⟩:=b1d k' hx hl hown;rw [hxv] at e1;injection e1 with e1 _ e3;subst e1 e3;obtain ⟨a2,e4,hb2⟩:=hb.part hlk hk;unfold d9;rw [← hsz];subst hr;exact ⟨a2,_,e4,hb2⟩
     have int:∀ {y:AVal} {v:Value} {kk:IntKind} {z:Int},y=.int kk z→d9 η w (Av A0 η s.H) y v→v=.int kk z:=fun e hr=>by subst e; unfold d9 at hr; exact hr
     split at hs
     ·rcases hlo with ⟨_,rfl⟩|⟨_,_,e,_⟩
      ·rcases hhi with ⟨_,rfl⟩|⟨_,_,e,_⟩
       ·exact part 0 xs.length xs (by omega) (by omega) (by simp) (.inl ⟨rfl,rfl⟩) (.inl ⟨rfl,rfl⟩) hs
       ·cases e
      ·cases e
     ·rename_i kk l;obtain ⟨h0,h1,hK⟩:=hs;rcases hlo with ⟨e,_⟩|⟨y,v,e,rfl,hr⟩
      ·cases e
      ·injection e with e;have:=int e.symm hr;subst this;rcases hhi with ⟨_,rfl⟩|⟨_,_,e,_⟩
       ·exact part l.toNat xs.length _ (by omega) (by omega) (by simp) (.inr ⟨kk,by rw [Int.toNat_of_nonneg h0]⟩) (.inl ⟨rfl,rfl⟩) hK
       ·cases e
     ·rename_i kk k;obtain ⟨h0,h1,hK⟩:=hs;rcases hhi with ⟨e,_⟩|⟨y,v,e,rfl,hr⟩
      ·cases e
      ·injection e with e;have:=int e.symm hr;subst this;rcases hlo with ⟨_,rfl⟩|⟨_,_,e,_⟩
       ·exact part 0 k.toNat _ (by omega) (by omega) (by simp) (.inl ⟨rfl,rfl⟩) (.inr ⟨kk,by rw [Int.toNat_of_nonneg h0]⟩) hK
       ·cases e
     ·rename_i k1 l k2 k;obtain ⟨h0,h1,h2,hK⟩:=hs;rcases hlo with ⟨e,_⟩|⟨y,v,e,rfl,hr⟩
      ·cases e
      ·injection e with e;have:=int e.symm hr;subst this;rcases hhi with ⟨e,_⟩|⟨y,v,e,rfl,hr⟩
       ·cases e
       ·injection e with e;have:=int e.symm hr;subst this;exact part l.toNat k.toNat _ (by omega) (by omega) rfl (.inr ⟨k1,by rw [Int.toNat_of_nonneg h0]⟩) (.inr ⟨k2,by rw [Int.toNat_of_nonneg (by omega)]⟩) hK
     ·exact hs.elim
/-! ### Struct literals -/
theorem a72 {t e:TypeId} {i ie:TInfo} (hT:z5 P T) (ht:T t=some i) (hd:i.desc=.sl e) (he:T e=some ie) (ad:Option Addr) (len cap:Nat) (k1 k2:IntKind) (k:Nat) (hk:k≤cap) :
  (Instr.sliceAt t (.slice ad len cap) none (some (.int k1 (k:Int))) (some (.int k2 (k:Int)))).run P w=.ok (sliced ad 0 k k ie.size) w:=by
 have hu:=(hT t i ht).slice hd;have hsz:=(hT e ie he).sizeOf w;have b1:∀ kk,(Instr.sliceBound (.int kk (k:Int)) cap .slice3Acap).run P w=.ok k w:=fun kk=>by
  have:=run_sliceBound (P:=P) (w:=w) kk (k:Int) cap .slice3Acap (by omega) (by omega);simpa using this
 have b2:∀ kk,(Instr.sliceBound (.int kk (k:Int)) k .slice3B).run P w=.ok k w:=fun kk=>by
  have:=run_sliceBound (P:=P) (w:=w) kk (k:Int) k .slice3B (by omega) (by omega);simpa using this
 simp [Instr.sliceAt,run_underlying hu,Instr.slice,Instr.sliceBounds,hsz,sliced,b1,b2]
theorem b2a (hT:z5 P T) (h:Rel n ds A0 L0 w0 η s a w) {d:Option Nat} (hd:∀ i,d=some i→i<n) {t:TypeId} {x:AVal} {xv:Value} (hx:d9 η w (Av A0 η s.H) x xv) {lo hi:Option AVal} {mx:AVal} {lov hiv:Option Value} {mv:Value}
  (hlo:(lo=none∧lov=none)∨∃ y v,lo=some y∧lov=some v∧d9 η w (Av A0 η s.H) y v) (hhi:(hi=none∧hiv=none)∨∃ y v,hi=some y∧hiv=some v∧d9 η w (Av A0 η s.H) y v) (hm:d9 η w (Av A0 η s.H) mx mv) {K:Eff→Prop}
  (hs:a4T T t x lo hi (some mx) K):a1i P (Instr.sliceAt t xv lov hiv (some mv)) n ds A0 L0 w0 s a w d K:=by
 unfold a4T at hs
 cases ht:T t with
 | none=>simp [ht] at hs
 | some i =>
  simp only [ht] at hs
  cases hdd:i.desc<;>simp only [hdd] at hs
  case sl e =>
   split at hs
   ·rename_i ie τ xs k1 z k2 z' he hmx;obtain ⟨hsz,rfl,h0,h1,hK⟩:=hs;injection hmx with hmx;subst hmx;rcases hlo with ⟨_,rfl⟩|⟨y,v,e1,_⟩
    ·rcases hhi with ⟨e1,_⟩|⟨y,v,e1,rfl,hv⟩
     ·cases e1
     ·injection e1 with e1;subst e1;unfold d9 at hv hm hx;subst hv hm;obtain ⟨ad,cap,rfl,hbody⟩:=hx;obtain ⟨N,rfl⟩:∃ N:Nat,z=N:=⟨z.toNat,by omega⟩;rw [Int.toNat_natCast] at hK;have hN:N≤xs.length:=by omega
      have hlt:(xs.take N).length=N:=by rw [List.length_take]; omega
      have hrun:=a72 (P:=P) (w:=w) hT ht hdd he ad xs.length cap k1 k2 N (by have:=hbody.1; omega);refine g7 h hd hrun ?_ hK;unfold d9;refine ⟨if N=0 then ad else ad.map (·.add (0*ie.size)),by unfold sliced; rw [hlt]; simp,Nat.le_refl _,by have:=hbody.1; have:=hbody.2.1; omega,fun h0=>?_⟩;rw [hlt] at h0;obtain ⟨b,o,ead,hb2,hA,hel⟩:=hbody.2.2 (by omega);refine ⟨b,o,?_,hb2,hA,fun q u hq=>?_⟩
      ·rw [if_neg (by omega),ead]; simp [U1]
      ·rw [List.getElem?_take] at hq
       split at hq
       ·exact hel q u hq
       ·cases hq
    ·cases e1
   ·exact hs.elim
theorem a8L (h:Rel n ds A0 L0 w0 η s a w) {d:Option Nat} (hd:∀ i,d=some i→i<n) {t:TypeId} {ok:Bool} {x y:AVal} {xv yv:Value} (hx:d9 η w (Av A0 η s.H) x xv) (hy:d9 η w (Av A0 η s.H) y yv) {K:Eff→Prop}
  (hs:U2 s P t ok x y K):a1i P (Instr.lookup t xv yv ok) n ds A0 L0 w0 s a w d K:=by
 unfold U2 at hs
 split at hs
 ·rename_i b
  split at hs
  ·rename_i ak ae kt vt xs hb;obtain ⟨r,hl,hK⟩:=hs;obtain ⟨q,es,c,e1,e2,e3,e4,e5⟩:=h.hp.blk b _ hb;unfold d9 at hx;rw [e1] at hx;subst hx;obtain ⟨u,hu,hrun⟩:=hl η w _ q es c yv e2 e3 e4 e5 hy;exact g7 h hd hrun hu hK
  ·exact hs.elim
 ·exact hs.elim
theorem b1t (off:Nat) (l:List Value) (cs:Array Value) (h:off+l.length≤cs.size) :
  ((l.zipIdx 0).foldl (fun cs (x:Value×Nat)=>cs.setIfInBounds (off+x.2) x.1) cs).toList=cs.toList.take off++l++cs.toList.drop (off+l.length):=by
 obtain ⟨_,h2⟩:=Great.foldl_set off l 0 cs;apply List.ext_getElem?;intro q;rw [a5a _ _ _ _ (by simpa using h),Array.getElem?_toList,h2 q,Nat.add_zero]
 by_cases hq:off≤q∧q<off+l.length
 ·rw [if_pos ⟨hq.1,hq.2,by omega⟩,if_pos hq]
 ·rw [if_neg (by omega),if_neg hq,Array.getElem?_toList]
theorem a8s {A:Nat→Prop} {H:l3} (hH:∀ b B,H b=some B→r6 η w A B (η b)) {fs:List (Nat×TypeId×Nat)} {place:Nat→Option (Nat×Nat)} (hp:∀ i off ty sz,fs[i]?=some (off,ty,sz)→place i=some (off,sz)) :
  ∀ (parts:List (Nat×AVal)) (vparts:List (Nat×Value)) (cells:List AVal) (vcells:Array Value) (r:List AVal),a55 fs cells parts=some r→(parts.all fun p=>(r5 p.2).all (AVal.cell H))=true→vparts.map (·.1)=parts.map (·.1) →
   d6 η w A (parts.map (·.2)) (vparts.map (·.2))→d6 η w A cells vcells.toList→∃ vr:Array Value,Instr.fill place vcells vparts=some vr∧d6 η w A r vr.toList
 | [],vparts,cells,vcells,r,h,_,h1,_,hc=>by
  simp [a55] at h
  subst h;have:vparts=[]:=by simpa using h1
  subst this;exact ⟨vcells,rfl,hc⟩
 | (i,x)::parts,vparts,cells,vcells,r,h,hall,h1,h2,hc=>by
  cases vparts with
  | nil=>simp at h1
  | cons q vparts =>
   obtain ⟨i',v⟩:=q;simp only [List.map_cons,List.cons.injEq] at h1;obtain ⟨rfl,h1⟩:=h1;simp only [List.map_cons] at h2;unfold d6 at h2;obtain ⟨u,us,e,hx,h2⟩:=h2;injection e with e1 e2;subst e1 e2;simp only [List.all_cons,Bool.and_eq_true] at hall;unfold a55 at h
   cases hf:fs[i']? with
   | none=>simp [hf] at h
   | some q =>
    obtain ⟨off,ty,sz⟩:=q;simp only [hf] at h
    split at h
    ·rename_i hfit;have hr:=a15 hH hall.1 hx;have hl:v.cells.size=sz:=by have:=hr.length; rw [hfit.1] at this; simpa using this.symm
     have hcl:=hc.length;have hfit2:off+v.cells.toList.length≤vcells.size:=by
      simp only [Array.length_toList] at hcl ⊢;omega
     have hsp:=a49 off hc hr;rw [← b1t off v.cells.toList vcells hfit2] at hsp;obtain ⟨vr,hvr,hrep⟩:=a8s hH hp parts vparts _ _ r h hall.2 h1 h2 hsp;refine ⟨vr,?_,hrep⟩;unfold Instr.fill;rw [hp _ _ _ _ hf];simp only;rw [if_neg (by simp only [Array.length_toList] at hfit2; simp [hl]; omega)];rw [← hvr];congr 1;rw [← Array.foldl_toList,Array.toList_zipIdx]
    ·cases h
theorem a9R (hT:z5 P T) (h:Rel n ds A0 L0 w0 η s a w) {d:Option Nat} (hd:∀ i,d=some i→i<n) {t:TypeId} {parts:List (Nat×AVal)} {vparts:Array (Nat×Value)} (hp1:vparts.toList.map (·.1)=parts.map (·.1))
  (hp2:d6 η w (Av A0 η s.H) (parts.map (·.2)) (vparts.toList.map (·.2))) {K:Eff→Prop} (hs:W6 T s t parts K):a1i P (Instr.build t vparts) n ds A0 L0 w0 s a w d K:=by
 unfold W6 at hs;have hH:∀ b B,s.H b=some B→r6 η w (Av A0 η s.H) B (η b):=fun b B hb=>h.hp.blk b B hb
 cases ht:T t with
 | none=>simp [ht] at hs
 | some i =>
  simp only [ht] at hs;have hti:=hT t i ht;obtain ⟨info,z,dd,hi,hsz,hby,hz,hzz,_⟩:=hti.ex;have hzr:d6 η w (Av A0 η s.H) (i.zero.map N8) z.cells.toList:=by rw [hzz]; exact a7L _ _ _
  cases hdd:i.desc<;>simp only [hdd] at hs
  case struct fs =>
   obtain ⟨hall,hs⟩:=hs
   cases hfa:a55 fs (i.zero.map N8) parts with
   | none=>simp [hfa] at hs
   | some r =>
    simp only [hfa] at hs;obtain ⟨gs,hu,hg,hinf⟩:=hti.struct hdd;have hpl:gs.toList.mapM (fun f=>(P.info? f.type).map fun i=>(f.offset,i.size))=some (fs.map fun q=>(q.1,q.2.2)):=by
     rw [← hg]
     clear hg hu
     generalize gs.toList=l at hinf
     induction l with
     | nil=>rfl
     | cons f l ih =>
      obtain ⟨j,hj⟩:=Option.isSome_iff_exists.1 (hinf f (by simp));have ih:=ih (fun g hg=>hinf g (by simp [hg]));simp only [List.mapM_cons,hj,Option.map_some,Option.bind_eq_bind,Option.bind_some,ih,List.map_cons,Option.pure_def,Program.cellsOf,Option.getD_some]
    obtain ⟨vr,hvr,hrep⟩:=a8s hH (place:=fun q=>((fs.map fun q=>(q.1,q.2.2)).toArray)[q]?) (fun q off ty sz hq=>by simp [hq]) parts vparts.toList _ z.cells r hfa hall hp1 hp2 hzr;have hb:P.built t vparts.toList=some vr:=by
     unfold Program.built;simp only [hi,hu,hz,hpl];exact hvr
    exact g7 h hd (run_build w t vparts vr hb) (by unfold d9; exact ⟨vr,rfl,hrep⟩) hs
  case arr len e =>
   cases he:T e with
   | none=>simp [he] at hs
   | some ie =>
    simp only [he] at hs;obtain ⟨hall,hs⟩:=hs
    cases hfa:a55 ((List.range len).map fun j=>(j*ie.size,e,ie.size)) (i.zero.map N8) parts with
    | none=>simp [hfa] at hs
    | some r =>
     simp only [hfa] at hs;have hu:=hti.array hdd;obtain ⟨info2,_,_,hi2,hsz2,_⟩:=(hT e ie he).ex
     obtain ⟨vr,hvr,hrep⟩:=a8s hH (place:=fun q=>some (q*ie.size,ie.size)) (fun q off ty sz hq=>by
      simp only [List.getElem?_map] at hq
      cases hr:(List.range len)[q]? with
      | none=>rw [hr] at hq; cases hq
      | some y =>
       rw [hr] at hq;obtain ⟨hlt,hy⟩:=List.getElem?_eq_some_iff.1 hr;rw [List.getElem_range] at hy;subst hy;simp at hq
       rw [hq.1,hq.2.2]) parts vparts.toList _ z.cells r hfa hall hp1 hp2 hzr
     have hb:P.built t vparts.toList=some vr:=by
      unfold Program.built;simp only [hi,hu,hz,hi2,hsz2];exact hvr
     exact g7 h hd (run_build w t vparts vr hb) (by unfold d9; exact ⟨vr,rfl,hrep⟩) hs
end
end Go.Proofs.YtanaeefeggokkaaGreat
/-! The abstract machine,10w: values and memory under other names,and as less is said of them. No program is named here. -/
namespace Go.Proofs.YtanaeefeggokkaaGreat
open Go.RowKit
set_option linter.constructorNameAsVariable false
theorem b2i {η:Nat→Value} {w:World} {A:Nat→Prop} (t:Ty):d9 η w A (.sl t []) (.slice none 0 0):=by
 unfold d9;exact ⟨none,0,rfl,by simp,by simp [maxLen],fun hp=>by simp at hp⟩
theorem a5F {η:Nat→Value} {w:World} {A:Nat→Prop} {t t':Ty} {xs:List (El t)} {ys:List (El t')} {v:Value} (h:if h:t=t' then a1f h xs=ys else False) (hr:d9 η w A (.sl t xs) v):d9 η w A (.sl t' ys) v:=by
 split at h
 ·rename_i e;subst e;rw [a0q] at h;subst h;exact hr
 ·exact h.elim
theorem b56 {η:Nat→Value} {w:World} {A:Nat→Prop} {t t':Ty} {xs:List (El t)} {ys:List (El t')} {v:Value} (h:if h:t=t' then a1f h xs=ys else False) (hr:d9 η w A (.cut t xs) v):d9 η w A (.cut t' ys) v:=by
 split at h
 ·rename_i e;subst e;rw [a0q] at h;subst h;exact hr
 ·exact h.elim
theorem b23 {η:Nat→Value} {w:World} {A:Nat→Prop} {H:l3} (hH:∀ b B,H b=some B→r6 η w A B (η b)) (b:Nat) (hb:(H b).isSome=true):(η b).oneCell'=true :=
 a3E (x:=.own b) hH hb (by unfold d9; rfl)
theorem b8z {η η':Nat→Value} {w':World} {A':Nat→Prop} {b z lo m:Nat} {t:Ty} {xs:List (El t)} {v:Value} (hz:z=t.size) (hlo:lo+m≤xs.length) (h:∃ a' c',η b=.slice a' xs.length c'∧A3 w'.heap.size A' t.size (fun y p z=>i9 w' A' t y p z) xs a' c')
  (hr:∃ a c,v=.slice a m c∧m≤c∧c≤maxLen∧(0<m→∃ g,b9P (η b) g∧a=some ⟨g,lo*z,none⟩)):d9 η' w' A' (.sl t ((xs.drop lo).take m)) v:=by
 subst hz;obtain ⟨a',c',e1,s1,s2,s3⟩:=h;obtain ⟨a,c,rfl,q1,q2,q3⟩:=hr;have hlen:((xs.drop lo).take m).length=m:=by simp; omega
 unfold d9;refine ⟨a,c,by rw [hlen],by rw [hlen]; exact q1,q2,fun hp=>?_⟩;rw [hlen] at hp;obtain ⟨g,k1,k2⟩:=q3 hp;obtain ⟨n0,c0,k1⟩|k1:=k1
 case inr=>rw [e1] at k1; cases k1
 obtain ⟨b0,o0,k3,k4,k5,k6⟩:=s3 (by omega);rw [e1,k3] at k1;injection k1 with k1 _ _;injection k1 with k1;injection k1 with k7 k8 _;subst k7; subst k8;refine ⟨b0,lo*t.size,k2,k4,k5,fun i x hi=>?_⟩;rw [List.getElem?_take] at hi
 split at hi
 ·rw [List.getElem?_drop] at hi;have:=k6 _ _ hi;rw [Nat.zero_add,Nat.add_mul] at this;exact this
 ·cases hi
mutual
theorem LeV.rep {η η':Nat→Value} {H:l3} {D N:List Nat} {ρ:Nat→Nat} {A A':Nat→Prop} {w w':World} (k:Keeps A A' w w') (hN:∀ c,N.contains c=true→η' c=.slice none 0 0) (hρ:∀ c,N.contains c=false→η' c=η (ρ c))
  (hown:(∀ b t xs,((∃ e,H b=some (.arr e t xs))∧D.contains b=true)∨H b=some (.imm t xs)→∃ a' c',η b=.slice a' xs.length c'∧A3 w'.heap.size A' t.size (fun y p z=>i9 w' A' t y p z) xs a' c')∧(∀ b,(H b).isSome=true→(η b).oneCell'=true)∧∀ b ty cs,H b=some (.box ty cs)→D.contains (b+1000000000)=true→∃ g vs,η b=.pointer (some ⟨g,0,none⟩)∧g<w'.heap.size∧¬ A' g∧(∀ i v,vs[i]?=some v→w'.cell? ⟨g,i,none⟩=some v)∧d6 η w' A' cs vs) :
  ∀ (x y:AVal) (v:Value),LeV H D N ρ x y→d9 η w A x v→d9 η' w' A' y v
 | .un,y,v,h,_=>by
  unfold LeV at h
  split at h
  ·unfold d9; trivial
  ·exact h.elim
 | .int k0 n0,y,v,h,hr=>by
  unfold LeV at h
  split at h
  ·unfold d9; trivial
  ·obtain ⟨rfl,rfl⟩:=h; unfold d9 at *; exact hr
  ·exact h.elim
 | .bool b0,y,v,h,hr=>by
  unfold LeV at h
  split at h
  ·unfold d9; trivial
  ·subst h; unfold d9 at *; exact hr
  ·exact h.elim
 | .sl t xs,y,v,h,hr=>by
  unfold LeV at h
  split at h
  ·unfold d9; trivial
  ·exact a5F h (d9.step (η':=η') k _ _ (fun b hb=>by simp [AVal.has] at hb) hr)
  ·exact h.elim
 | .cut t xs,y,v,h,hr=>by
  unfold LeV at h
  split at h
  ·unfold d9; trivial
  ·exact b56 h (d9.step (η':=η') k _ _ (fun b hb=>by simp [AVal.has] at hb) hr)
  ·exact h.elim
 | .dp t xs o,y,v,h,hr=>by
  unfold LeV at h
  split at h
  ·unfold d9; trivial
  ·rename_i t' x' o';obtain ⟨h1,rfl⟩:=h
   split at h1
   ·rename_i e;subst e;rw [a9x] at h1;subst h1;exact d9.step (η':=η') k _ _ (fun b hb=>by simp [AVal.has] at hb) hr
   ·exact h1.elim
  ·exact h.elim
 | .bp b o,y,v,h,hr=>by
  unfold LeV at h
  split at h
  ·unfold d9; trivial
  ·obtain ⟨rfl,h2,rfl⟩:=h;unfold d9 at *;rw [hρ _ h2]; exact hr
  ·split at h
   ·rename_i ty cs hb;obtain ⟨hd,rfl,hel⟩:=h;unfold d9 at hr ⊢;obtain ⟨g,hg,rfl⟩:=hr;obtain ⟨g',vs,e1,e2,e3,e4,e5⟩:=hown.2.2 b ty cs hb hd;rw [e1] at hg;injection hg with hg;injection hg with hg;injection hg with hg _ _;subst hg;obtain ⟨v1,v2,e6,r1,r2,_⟩:=a2N (η':=η) (Keeps.refl A' w') _ cs _ [] vs hel e5 (fun b t xs e _ hb=>by rcases hb with hb|hb<;>cases hb);unfold d6 at r2;subst r2;rw [List.append_nil] at e6;subst e6;exact ⟨g',0,by rw [Nat.zero_add],e2,e3,i9.of_cells _ _ g' 0 vs (fun i v hi=>by rw [Nat.zero_add]; exact e4 i v hi) (d6.data (η:=η) (η':=η) (Keeps.refl A' w') r1)⟩
   ·exact h.elim
  ·exact h.elim
 | .ap b z i o,y,v,h,hr=>by
  unfold LeV at h
  split at h
  ·unfold d9; trivial
  ·obtain ⟨rfl,h2,rfl,rfl,rfl⟩:=h;unfold d9 at *;rw [hρ _ h2]; exact hr
  ·exact h.elim
 | .vw b z lo m,y,v,h,hr=>by
  unfold LeV at h
  split at h
  ·unfold d9; trivial
  ·obtain ⟨rfl,h2,rfl,rfl,rfl⟩:=h;unfold d9 at *;rw [hρ _ h2]; exact hr
  ·unfold d9 at hr
   split at h
   ·rename_i e t xs hb;obtain ⟨hd,h1,h2,h⟩:=h;exact a5F h (b8z h1 h2 (hown.1 b t xs (.inl ⟨⟨e,hb⟩,hd⟩)) hr)
   ·rename_i t xs hb;obtain ⟨h1,h2,h⟩:=h;exact a5F h (b8z h1 h2 (hown.1 b t xs (.inr hb)) hr)
   ·rename_i ty cs hb;obtain ⟨hd,rfl,hsz,hmax,hel⟩:=h;obtain ⟨a,c,rfl,q1,q2,q3⟩:=hr;obtain ⟨g',vs,e1,e2,e3,e4,e5⟩:=hown.2.2 b ty cs hb hd;obtain ⟨v1,v2,e6,e7,r1⟩:=a33 m _ _ _ hel (e5.drop lo);unfold d9;refine ⟨a,c,by rw [e7],by rw [e7]; exact q1,q2,fun hp=>?_⟩;rw [e7] at hp;obtain ⟨g,hg,rfl⟩:=q3 hp;rcases hg with ⟨_,_,hg⟩|hg
    ·rw [e1] at hg; cases hg
    rw [e1] at hg;injection hg with hg;injection hg with hg;injection hg with hg _ _;subst hg;refine ⟨g',lo*1,rfl,e2,e3,fun i x hi=>?_⟩
    exact a0B _ (lo*1) v1 (fun j v hj=>by
     rw [Nat.mul_one]
     exact e4 (lo+j) v (by
      have h9:(vs.drop lo)[j]?=some v:=by rw [e6,List.getElem?_append_left (by have:=(List.getElem?_eq_some_iff.1 hj).1; exact this)]; exact hj
      rwa [List.getElem?_drop] at h9)) r1 i x hi
   ·exact h.elim
  ·exact h.elim
 | .cv u,y,v,h,hr=>by
  unfold LeV at h;unfold d9 at hr;subst hr
  split at h
  ·unfold d9; trivial
  ·subst h; unfold d9; rfl
  ·obtain ⟨h1,rfl⟩:=h;rw [a6z h1];exact b2i _
  ·obtain ⟨h1,h2⟩:=h;rw [a6z h1];unfold d9;exact (hN _ h2).symm
  ·exact h.elim
 | .own b,y,v,h,hr=>by
  unfold LeV at h;unfold d9 at hr
  split at h
  ·unfold d9; trivial
  ·obtain ⟨rfl,h2⟩:=h;unfold d9;rw [hρ _ h2]; exact hr
  ·unfold d9;rw [hr]; exact hown.2.1 b h
  ·split at h
   ·rename_i e t xs hb;obtain ⟨hd,h⟩:=h;obtain ⟨a',c',e1,hs⟩:=hown.1 b t xs (.inl ⟨⟨e,hb⟩,hd⟩);refine a5F h ?_;unfold d9;exact ⟨a',c',by rw [hr,e1],hs⟩
   ·rename_i t xs hb;obtain ⟨a',c',e1,hs⟩:=hown.1 b t xs (.inr hb);refine a5F h ?_;unfold d9;exact ⟨a',c',by rw [hr,e1],hs⟩
   ·exact h.elim
  ·exact h.elim
 | .one,y,v,h,hr=>by
  unfold LeV at h
  split at h
  ·unfold d9; trivial
  ·unfold d9 at *; exact hr
  ·exact h.elim
 | .agg l,y,v,h,hr=>by
  unfold LeV at h
  split at h
  ·unfold d9; trivial
  ·unfold d9 at *;obtain ⟨vs,rfl,hv⟩:=hr;exact ⟨vs,rfl,LeL.rep k hN hρ hown l _ vs.toList h hv⟩
  ·exact h.elim
 | .tup l,y,v,h,hr=>by
  unfold LeV at h
  split at h
  ·unfold d9; trivial
  ·unfold d9 at *;obtain ⟨vs,rfl,hv⟩:=hr;exact ⟨vs,rfl,LeL.rep k hN hρ hown l _ vs.toList h hv⟩
  ·exact h.elim
 | .fn f p c,y,v,h,hr=>by
  unfold LeV at h
  split at h
  ·unfold d9; trivial
  ·obtain ⟨rfl,hp,hc⟩:=h;unfold d9 at *;obtain ⟨ps,cs,rfl,hvp,hvc⟩:=hr;exact ⟨ps,cs,rfl,LeL.rep k hN hρ hown p _ ps.toList hp hvp,LeL.rep k hN hρ hown c _ cs.toList hc hvc⟩
  ·exact h.elim
theorem LeL.rep {η η':Nat→Value} {H:l3} {D N:List Nat} {ρ:Nat→Nat} {A A':Nat→Prop} {w w':World} (k:Keeps A A' w w') (hN:∀ c,N.contains c=true→η' c=.slice none 0 0) (hρ:∀ c,N.contains c=false→η' c=η (ρ c))
  (hown:(∀ b t xs,((∃ e,H b=some (.arr e t xs))∧D.contains b=true)∨H b=some (.imm t xs)→∃ a' c',η b=.slice a' xs.length c'∧A3 w'.heap.size A' t.size (fun y p z=>i9 w' A' t y p z) xs a' c')∧(∀ b,(H b).isSome=true→(η b).oneCell'=true)∧∀ b ty cs,H b=some (.box ty cs)→D.contains (b+1000000000)=true→∃ g vs,η b=.pointer (some ⟨g,0,none⟩)∧g<w'.heap.size∧¬ A' g∧(∀ i v,vs[i]?=some v→w'.cell? ⟨g,i,none⟩=some v)∧d6 η w' A' cs vs) :
  ∀ (l m:List AVal) (vs:List Value),LeL H D N ρ l m→d6 η w A l vs→d6 η' w' A' m vs
 | [],m,vs,h,hr=>by
  unfold LeL at h
  split at h
  ·unfold d6 at *; exact hr
  ·exact h.elim
 | x::l,m,vs,h,hr=>by
  unfold LeL at h
  split at h
  ·exact h.elim
  ·unfold d6 at hr ⊢;obtain ⟨u,us,rfl,hu,hus⟩:=hr;exact ⟨u,us,rfl,LeV.rep k hN hρ hown x _ u h.1 hu,LeL.rep k hN hρ hown l _ us h.2 hus⟩
end
theorem l6:∀ {h:List (Nat×ABlk)} {b:Nat},i8 h b=true↔∃ B,b6 h b=some B
 | [],b=>by simp [i8,b6]
 | (c,B)::r,b=>by
  unfold i8 b6
  by_cases e:b=c
  ·subst e; simp
  ·rw [if_neg e,← l6];simp [Ne.symm e]
theorem y6:∀ {h:List (Nat×ABlk)} {b:Nat} {B:ABlk},b6 h b=some B→(b,B)∈h
 | [],b,B,h=>by cases h
 | (c,C)::r,b,B,h=>by
  unfold b6 at h
  split at h
  ·rename_i e; subst e; injection h with h; subst h; exact List.mem_cons_self
  ·exact List.mem_cons_of_mem _ (y6 h)
structure NamesIn (ρ:Nat→Nat) (D N:List Nat) (h':List (Nat×ABlk)):Prop where
 rest:∀ c B,b6 h' c=some B→N.contains c=false→B.mut=true→D.contains (ρ c)=false
 inj:∀ c c' B B',b6 h' c=some B→b6 h' c'=some B'→N.contains c=false→N.contains c'=false→ρ c=ρ c'→c=c'
structure NamesHd (ρ:Nat→Nat) (N:List Nat) (h':List (Nat×ABlk)):Prop where
 nil:∀ c B,b6 h' c=some B→N.contains c=true→¬ R3 c
 hand:∀ c B,b6 h' c=some B→N.contains c=false→R3 c→ρ c=c
theorem a1K {ρ:Nat→Nat} {D N:List Nat}:∀ {h':List (Nat×ABlk)},E3 ρ D N h'=true→NamesHd ρ N h'
 | [],_=>{ nil:=fun _ _ h=>(by cases h),hand:=fun _ _ h=>(by cases h) }
 | (c0,B0)::r,h=>by
  unfold E3 at h;simp only [Bool.and_eq_true] at h;obtain ⟨⟨hk,hc⟩,hr⟩:=h;have ih:=a1K hr;refine ⟨fun c B hg hn=>?_,fun c B hg hn hh=>?_⟩
  ·unfold b6 at hg
   split at hg
   ·rename_i e;subst e;rw [if_pos hn] at hc;simp only [Bool.or_eq_true,decide_eq_true_eq] at hc;unfold R3; omega
   ·exact ih.nil c B hg hn
  ·unfold b6 at hg
   split at hg
   ·rename_i e;subst e;simp only [hn,Bool.false_eq_true,if_false,Bool.and_eq_true] at hc;have:=hc.1.2;simp only [Bool.or_eq_true,decide_eq_true_eq,beq_iff_eq] at this;unfold R3 at hh;omega
   ·exact ih.hand c B hg hn hh
theorem a2m {ρ:Nat→Nat} {D N:List Nat}:∀ {h':List (Nat×ABlk)},E3 ρ D N h'=true→∀ b∈D,b<1000000000
 | [],h,b,hb=>by
  unfold E3 at h;have:=List.all_eq_true.1 h b hb;simpa using this
 | (c0,B0)::r,h,b,hb=>by
  unfold E3 at h;simp only [Bool.and_eq_true] at h;exact a2m h.2 b hb
theorem a1J {ρ:Nat→Nat} {D N:List Nat}:∀ {h':List (Nat×ABlk)},E3 ρ D N h'=true→NamesIn ρ D N h'
 | [],_=>{ rest:=fun _ _ h=>(by cases h),inj:=fun _ _ _ _ h=>(by cases h) }
 | (c0,B0)::r,h=>by
  unfold E3 at h;simp only [Bool.and_eq_true] at h;obtain ⟨⟨hk,hc⟩,hr⟩:=h;have ih:=a1J hr;refine ⟨fun c B hg hn hm=>?_,fun c c' B B' hg hg' hn hn' he=>?_⟩
  ·unfold b6 at hg
   split at hg
   ·rename_i e;subst e;injection hg with hg;subst hg;simp only [hn,Bool.false_eq_true,if_false,Bool.and_eq_true] at hc;have:=hc.1.1;rw [hm,Bool.and_true] at this;simpa using this
   ·exact ih.rest c B hg hn hm
  ·have key:∀ c1 B1,N.contains c0=false→N.contains c1=false→b6 r c1=some B1→ρ c1≠ρ c0:=by
    intro c1 B1 hn0 hn1 hg1;simp only [hn0,Bool.false_eq_true,if_false,Bool.and_eq_true] at hc;have h3:=List.all_eq_true.1 hc.2 _ (y6 hg1);have hn2:¬ c1∈N:=by simpa using hn1
    simpa [hn2] using h3
   unfold b6 at hg hg'
   split at hg
   ·rename_i e;subst e
    split at hg'
    ·rename_i e'; exact e'.symm
    ·exact absurd he.symm (key c' B' hn hn' hg')
   ·split at hg'
    ·rename_i e';subst e';exact absurd he (key c B hn' hn hg)
    ·exact ih.inj c c' B B' hg hg' hn hn' he
theorem LeH.get {H:l3} {D N:List Nat} {ρ:Nat→Nat}:∀ {h':List (Nat×ABlk)},LeH H D N ρ h'→∀ {c:Nat} {B:ABlk},b6 h' c=some B→(N.contains c=true∧∃ e t,B=.arr e t [])∨(N.contains c=false∧∃ B0,H (ρ c)=some B0∧LeB H D N ρ B0 B)
 | [],_,c,B,hg=>by cases hg
 | (c0,B0)::r,h,c,B,hg=>by
  unfold LeH at h;unfold b6 at hg
  split at hg
  ·rename_i e;subst e;injection hg with hg;subst hg;have h1:=h.1
   split at h1
   ·rename_i hn;refine .inl ⟨hn,?_⟩
    split at h1
    ·rename_i e t xs; subst h1; exact ⟨e,t,rfl⟩
    ·exact h1.elim
   ·rename_i hn;refine .inr ⟨by simpa using hn,?_⟩
    split at h1
    ·rename_i B1 hB1; exact ⟨B1,hB1,h1⟩
    ·exact h1.elim
  ·exact LeH.get h.2 hg
theorem LeB.mut {H:l3} {D N:List Nat} {ρ:Nat→Nat} {B0 B:ABlk} (h:LeB H D N ρ B0 B):B.mut=B0.mut:=by
 cases B0<;>unfold LeB at h<;>cases B<;>first|rfl|exact False.elim h
theorem b8D {t t':Ty} {xs:List (El t)} {ys:List (El t')} (h:if h:t=t' then a1f h xs=ys else False):t=t'∧HEq xs ys:=by
 split at h
 ·rename_i e;subst e;rw [a0q] at h;subst h;exact ⟨rfl,HEq.rfl⟩
 ·exact h.elim
theorem LeL.len {H:l3} {D N:List Nat} {ρ:Nat→Nat}:∀ {l m:List AVal},LeL H D N ρ l m→m.length=l.length
 | [],[],_=>rfl
 | [],_::_,h=>by simp [LeL] at h
 | _::_,[],h=>by simp [LeL] at h
 | x::l,y::m,h=>by
  simp only [LeL] at h;rw [List.length_cons,List.length_cons,LeL.len h.2]
theorem LeB.rep {η η':Nat→Value} {H:l3} {D N:List Nat} {ρ:Nat→Nat} {A A':Nat→Prop} {w w':World} (k:Keeps A A' w w') (hN:∀ c,N.contains c=true→η' c=.slice none 0 0) (hρ:∀ c,N.contains c=false→η' c=η (ρ c))
  (hown:(∀ b t xs,((∃ e,H b=some (.arr e t xs))∧D.contains b=true)∨H b=some (.imm t xs)→∃ a' c',η b=.slice a' xs.length c'∧A3 w'.heap.size A' t.size (fun y p z=>i9 w' A' t y p z) xs a' c')∧(∀ b,(H b).isSome=true→(η b).oneCell'=true)∧∀ b ty cs,H b=some (.box ty cs)→D.contains (b+1000000000)=true→∃ g vs,η b=.pointer (some ⟨g,0,none⟩)∧g<w'.heap.size∧¬ A' g∧(∀ i v,vs[i]?=some v→w'.cell? ⟨g,i,none⟩=some v)∧d6 η w' A' cs vs)
  {B0 B:ABlk} {h:Value} (hb:LeB H D N ρ B0 B) (hg:∀ g,B0.mut=true→hblk h=some g→w'.heap[g]?=w.heap[g]?) (hr:r6 η w A B0 h):r6 η' w' A' B h:=by
 cases B0 with
 | box ty cs =>
  cases B<;>simp only [LeB] at hb
  case box ty' cs' =>
   obtain ⟨rfl,hl⟩:=hb;obtain ⟨g,vs,e,hw,hc⟩:=hr;exact ⟨g,vs,e,(hg g rfl (by rw [e]; rfl)).trans hw,LeL.rep k hN hρ hown cs _ _ hl hc⟩
 | obx ty cs =>
  cases B<;>simp only [LeB] at hb
  case obx ty' cs' =>
   obtain ⟨rfl,hl⟩:=hb;have hlen:=LeL.len hl;rcases hr with ⟨hn,hn2⟩|⟨g,cap,vs,e1,hw,h1,h2,h3,h4⟩
   ·exact .inl ⟨List.length_eq_zero_iff.1 (by rw [hlen,hn]; rfl),hn2⟩
   ·refine .inr ⟨g,cap,vs,by rw [hlen]; exact e1,(hg g rfl (by rw [e1]; rfl)).trans hw,by rw [hlen]; exact h1,h2,h3,?_⟩;rw [hlen];exact LeL.rep k hN hρ hown cs _ _ hl h4
 | arr e t xs =>
  cases B<;>simp only [LeB] at hb
  case arr e' t' ys =>
   obtain ⟨rfl,hl⟩:=hb;obtain ⟨rfl,hx⟩:=b8D hl;have hx:=eq_of_heq hx;subst hx;have:=r6.step (K:=[]) (η':=η') (η:=η') k (fun _ _=>rfl) (B:=.arr e t xs) hg (by exact hr)
   rwa [z9] at this
 | imm t xs =>
  cases B<;>simp only [LeB] at hb
  case imm t' ys =>
   obtain ⟨rfl,hx⟩:=b8D hb;have hx:=eq_of_heq hx;subst hx;have:=r6.step (K:=[]) (η':=η') (η:=η') k (fun _ _=>rfl) (B:=.imm t xs) hg (by exact hr)
   rwa [z9] at this
 | map ak ae kt vt xs =>
  cases B<;>simp only [LeB] at hb
  case map ak' ae' kt' vt' ys =>
   obtain ⟨rfl,rfl,hx⟩:=hb
   split at hx
   ·rename_i e;obtain ⟨rfl,rfl⟩:=e;rw [a9w] at hx;subst hx;obtain ⟨g,es,c,e,hw,hm,hm2⟩:=hr;exact ⟨g,es,c,e,(hg g rfl (by rw [e]; rfl)).trans hw,hm.step k,hm2⟩
   ·exact hx.elim
def M6 (η:Nat→Value) (N:List Nat) (ρ:Nat→Nat) (c:Nat):Value:=if N.contains c=true then .slice none 0 0 else η (ρ c)
section
variable {A0 A1:Nat→Prop} {η:Nat→Value} {H:l3} {w:World} {D N:List Nat} {ρ:Nat→Nat} {h':List (Nat×ABlk)}
theorem a2n (hl:LeH H D N ρ h') {g:Nat} (hg:p9 (M6 η N ρ) (b6 h') g):∃ c B B0,b6 h' c=some B∧N.contains c=false∧H (ρ c)=some B0∧B0.mut=true∧B.mut=true∧hblk (η (ρ c))=some g:=by
 obtain ⟨c,B,h1,h2,h3⟩:=hg;rcases LeH.get hl h1 with ⟨hc,_⟩|⟨hc,B0,hB0,hle⟩
 ·unfold M6 at h3; rw [if_pos hc] at h3; cases h3
 ·unfold M6 at h3;rw [hc,if_neg (by simp)] at h3;exact ⟨c,B,B0,h1,hc,hB0,by rw [← LeB.mut hle]; exact h2,h2,h3⟩
theorem a8i (h:RelH A0 η H w) (hn:NamesIn ρ D N h') (hl:LeH H D N ρ h') (h1:∀ g,A1 g→g<w.heap.size) (h2:∀ g,A1 g→Av A0 η H g) (h3:∀ g b e t xs,A1 g→H b=some (.arr e t xs)→D.contains b=true→hblk (η b)≠some g)
  (h4:∀ g,A1 g→¬ p9 (M6 η N ρ) (b6 h') g)
  (h5:(∀ b∈D,b<1000000000)∨(∀ g b ty cs,A1 g→H b=some (.box ty cs)→D.contains (b+1000000000)=true→hblk (η b)≠some g)∧∀ c B,b6 h' c=some B→N.contains c=false→D.contains (ρ c+1000000000)=false) :
  RelH A1 (M6 η N ρ) (b6 h') w∧(∀ x y v,LeV H D N ρ x y→d9 η w (Av A0 η H) x v→d9 (M6 η N ρ) w (Av A1 (M6 η N ρ) (b6 h')) y v) ∧
   (∀ l m vs,LeL H D N ρ l m→d6 η w (Av A0 η H) l vs→d6 (M6 η N ρ) w (Av A1 (M6 η N ρ) (b6 h')) m vs):=by
 have hsub:∀ g,Av A1 (M6 η N ρ) (b6 h') g→Av A0 η H g:=by
  rintro g (hg|hg)
  ·exact h2 g hg
  ·obtain ⟨c,B,B0,k1,k2,k3,k4,k5,k6⟩:=a2n hl hg;exact .inr ⟨_,B0,k3,k4,k6⟩
 have k:Keeps (Av A0 η H) (Av A1 (M6 η N ρ) (b6 h')) w w:=⟨Nat.le_refl _,fun _ _ _=>rfl,fun g _ hg=>hsub g hg⟩;have hN:∀ c,N.contains c=true→M6 η N ρ c=.slice none 0 0:=fun c hc=>if_pos hc;have hρ:∀ c,N.contains c=false→M6 η N ρ c=η (ρ c):=fun c hc=>by unfold M6; rw [hc]; simp
 have hown:∀ b t xs,((∃ e,H b=some (.arr e t xs))∧D.contains b=true)∨H b=some (.imm t xs)→∃ a' c',η b=.slice a' xs.length c'∧A3 w.heap.size (Av A1 (M6 η N ρ) (b6 h')) t.size (fun y p z=>i9 w (Av A1 (M6 η N ρ) (b6 h')) t y p z) xs a' c':=by
  intro b t xs hb;rcases hb with ⟨⟨e,hb⟩,hD⟩|hb
  ·refine a38 h (e:=e) (.inl hb) k fun g hba hg=>⟨rfl,?_⟩
   rintro (hA|hA)
   ·exact h3 g b e t xs hA hb hD hg
   ·obtain ⟨c,B,B0,k1,k2,k3,k4,k5,k6⟩:=a2n hl hA;have:=h.inj b (ρ c) _ _ g hb k3 rfl k4 hg k6;subst this;have:=hn.rest c B k1 k2 k5;rw [hD] at this; cases this
  ·refine a38 h (e:=0) (.inr hb) k fun g hba hg=>?_;rw [hb] at hba; cases hba
 have hone0:∀ b,(H b).isSome=true→(η b).oneCell'=true:=b23 h.blk;have hbox:∀ b ty cs,H b=some (.box ty cs)→D.contains (b+1000000000)=true→∃ g vs,η b=.pointer (some ⟨g,0,none⟩)∧g<w.heap.size∧¬ Av A1 (M6 η N ρ) (b6 h') g∧(∀ i v,vs[i]?=some v→w.cell? ⟨g,i,none⟩=some v)∧d6 η w (Av A1 (M6 η N ρ) (b6 h')) cs vs:=by
  intro b ty cs hb hD;rcases h5 with h5|⟨h5,h6⟩
  ·have:=h5 _ (by simpa using hD);omega
  ·obtain ⟨g,vs,e1,e2,e3⟩:=h.blk b _ hb;refine ⟨g,vs.toList,e1,(Array.getElem?_eq_some_iff.1 e2).1,?_,fun i v hi=>?_,d6.step k _ _ (fun _ _=>rfl) e3⟩
   ·rintro (hA|hA)
    ·exact h5 g b ty cs hA hb hD (by rw [e1]; rfl)
    ·obtain ⟨c,B,B0,k1,k2,k3,k4,k5,k6⟩:=a2n hl hA;have:=h.inj b (ρ c) _ _ g hb k3 rfl k4 (by rw [e1]; rfl) k6;subst this;rw [h6 c B k1 k2] at hD; cases hD
   ·rw [cell_of_row w g i vs ty _ e2,← Array.getElem?_toList]; exact hi
 have hone:=And.intro hone0 hbox;refine ⟨⟨fun c B hc=>?_,fun c c' B B' g hc hc' hm hm' hg hg'=>?_,fun g hg=>⟨h1 g hg,h4 g hg⟩⟩,fun x y v hxy hr=>LeV.rep k hN hρ ⟨hown,hone⟩ x y v hxy hr,fun l m vs hlm hr=>LeL.rep k hN hρ ⟨hown,hone⟩ l m vs hlm hr⟩
 ·rcases LeH.get hl hc with ⟨hcN,e,t,rfl⟩|⟨hcN,B0,hB0,hle⟩
  ·exact .inl ⟨rfl,hN c hcN⟩
  ·rw [hρ c hcN];exact LeB.rep k hN hρ ⟨hown,hone⟩ hle (fun g _ _=>rfl) (h.blk _ _ hB0)
 ·rcases LeH.get hl hc with ⟨hcN,_⟩|⟨hcN,B0,hB0,hle⟩
  ·rw [hN c hcN] at hg; cases hg
  ·rcases LeH.get hl hc' with ⟨hcN',_⟩|⟨hcN',B0',hB0',hle'⟩
   ·rw [hN c' hcN'] at hg'; cases hg'
   ·rw [hρ c hcN] at hg;rw [hρ c' hcN'] at hg';have:=h.inj (ρ c) (ρ c') B0 B0' g hB0 hB0' (by rw [← LeB.mut hle]; exact hm) (by rw [← LeB.mut hle']; exact hm') hg hg';exact hn.inj c c' B B' hc hc' hcN hcN' this
end
mutual
theorem a7x {η η':Nat→Value} {w:World} {A:Nat→Prop} {f:Nat→Nat}:∀ (x:AVal) (v:Value),(∀ b∈x.ids,η' (f b)=η b)→d9 η w A x v→d9 η' w A (x.ren f) v
 | .un,v,_,_=>by unfold AVal.ren d9; trivial
 | .int _ _,v,_,h=>by unfold AVal.ren; unfold d9 at *; exact h
 | .bool _,v,_,h=>by unfold AVal.ren; unfold d9 at *; exact h
 | .sl t xs,v,_,h=>by unfold AVal.ren; unfold d9 at *; exact h
 | .cut t xs,v,_,h=>by unfold AVal.ren; unfold d9 at *; exact h
 | .dp t x o,v,_,h=>by unfold AVal.ren; unfold d9 at *; exact h
 | .cv _,v,_,h=>by unfold AVal.ren; unfold d9 at *; exact h
 | .own b,v,he,h=>by unfold AVal.ren; unfold d9 at *; rw [he b (by simp [AVal.ids])]; exact h
 | .bp b o,v,he,h=>by unfold AVal.ren; unfold d9 at *; rw [he b (by simp [AVal.ids])]; exact h
 | .ap b z i o,v,he,h=>by unfold AVal.ren; unfold d9 at *; rw [he b (by simp [AVal.ids])]; exact h
 | .vw b z i o,v,he,h=>by unfold AVal.ren; unfold d9 at *; rw [he b (by simp [AVal.ids])]; exact h
 | .one,v,_,h=>by unfold AVal.ren; unfold d9 at *; exact h
 | .agg l,v,he,h=>by
  unfold AVal.ren;unfold d9 at *;obtain ⟨vs,e,hl⟩:=h;exact ⟨vs,e,a0s l _ (fun b hb=>he b (by simpa [AVal.ids] using hb)) hl⟩
 | .tup l,v,he,h=>by
  unfold AVal.ren;unfold d9 at *;obtain ⟨vs,e,hl⟩:=h;exact ⟨vs,e,a0s l _ (fun b hb=>he b (by simpa [AVal.ids] using hb)) hl⟩
 | .fn g p c,v,he,h=>by
  unfold AVal.ren;unfold d9 at *;obtain ⟨ps,cs,e,hp,hc⟩:=h;exact ⟨ps,cs,e,a0s p _ (fun b hb=>he b (by simp [AVal.ids,hb])) hp,a0s c _ (fun b hb=>he b (by simp [AVal.ids,hb])) hc⟩
theorem a0s {η η':Nat→Value} {w:World} {A:Nat→Prop} {f:Nat→Nat}:∀ (l:List AVal) (vs:List Value),(∀ b∈AVal.idsL l,η' (f b)=η b)→d6 η w A l vs→d6 η' w A (AVal.renL f l) vs
 | [],vs,_,h=>by unfold AVal.renL; unfold d6 at *; exact h
 | x::l,vs,he,h=>by
  unfold AVal.renL;unfold d6 at *;obtain ⟨u,us,e,hx,hl⟩:=h;exact ⟨u,us,e,a7x x u (fun b hb=>he b (by simp [AVal.idsL,hb])) hx,a0s l us (fun b hb=>he b (by simp [AVal.idsL,hb])) hl⟩
end
theorem a2j (f:Nat→Nat) (B:ABlk):(B.ren f).mut=B.mut:=by cases B<;>rfl
theorem b52 {w:World} {A A':Nat→Prop}:∀ (t:Ty) (x:El t) (b o:Nat),t.dry=true→i9 w A t x b o→i9 w A' t x b o
 | .int _,x,b,o,_,h=>by unfold i9 at *; exact h
 | .bool,x,b,o,_,h=>by unfold i9 at *; exact h
 | .unit,x,b,o,_,h=>by unfold i9; trivial
 | .pair s t,x,b,o,hd,h=>by
  simp only [Ty.dry,Bool.and_eq_true] at hd;unfold i9 at *;exact ⟨b52 s x.1 b o hd.1 h.1,b52 t x.2 b _ hd.2 h.2⟩
 | .sl t,xs,b,o,hd,h=>by simp [Ty.dry] at hd
mutual
theorem b3p {η:Nat→Value} {w:World} {A A':Nat→Prop}:∀ (x:AVal) (v:Value),x.dry=true→d9 η w A x v→d9 η w A' x v
 | .un,v,_,_=>by unfold d9; trivial
 | .int _ _,v,_,h=>by unfold d9 at *; exact h
 | .bool _,v,_,h=>by unfold d9 at *; exact h
 | .cv _,v,_,h=>by unfold d9 at *; exact h
 | .own _,v,_,h=>by unfold d9 at *; exact h
 | .bp _ _,v,_,h=>by unfold d9 at *; exact h
 | .ap _ _ _ _,v,_,h=>by unfold d9 at *; exact h
 | .vw _ _ _ _,v,_,h=>by unfold d9 at *; exact h
 | .one,v,_,h=>by unfold d9 at *; exact h
 | .sl _ _,v,hd,_=>by simp [AVal.dry] at hd
 | .cut _ _,v,hd,_=>by simp [AVal.dry] at hd
 | .dp _ _ _,v,hd,_=>by simp [AVal.dry] at hd
 | .agg l,v,hd,h=>by
  unfold d9 at *;obtain ⟨vs,e,hl⟩:=h;exact ⟨vs,e,a1X l _ (by simpa [AVal.dry] using hd) hl⟩
 | .tup l,v,hd,h=>by
  unfold d9 at *;obtain ⟨vs,e,hl⟩:=h;exact ⟨vs,e,a1X l _ (by simpa [AVal.dry] using hd) hl⟩
 | .fn g p c,v,hd,h=>by
  simp only [AVal.dry,Bool.and_eq_true] at hd;unfold d9 at *;obtain ⟨ps,cs,e,hp,hc⟩:=h;exact ⟨ps,cs,e,a1X p _ hd.1 hp,a1X c _ hd.2 hc⟩
theorem a1X {η:Nat→Value} {w:World} {A A':Nat→Prop}:∀ (l:List AVal) (vs:List Value),AVal.dryL l=true→d6 η w A l vs→d6 η w A' l vs
 | [],vs,_,h=>by unfold d6 at *; exact h
 | x::l,vs,hd,h=>by
  simp only [AVal.dryL,Bool.and_eq_true] at hd;unfold d6 at *;obtain ⟨u,us,e,hx,hl⟩:=h;exact ⟨u,us,e,b3p x u hd.1 hx,a1X l us hd.2 hl⟩
end
theorem b75 {w:World} {A A':Nat→Prop} {ae:Bool}:∀ {vt:Ty} {x:El vt} {v:Value},vt.dry=true→a3X w A ae vt x v→a3X w A' ae vt x v
 | .int _,_,_,_,h=>h
 | .bool,_,_,_,h=>h
 | .unit,_,_,_,h=>h
 | .pair _ _,_,_,_,h=>h
 | .sl t,_,_,hd,_=>by simp [Ty.dry] at hd
theorem b74 {η:Nat→Value} {w:World} {A A':Nat→Prop} {B:ABlk} {h:Value} (hd:B.dry=true) (hr:r6 η w A B h):r6 η w A' B h:=by
 cases B with
 | box ty cs =>
  obtain ⟨g,vs,e,hw,hc⟩:=hr;exact ⟨g,vs,e,hw,a1X cs _ hd hc⟩
 | obx ty cs =>
  rcases hr with hn|⟨g,cap,vs,e1,hw,h1,h2,h3,h4⟩
  ·exact .inl hn
  ·exact .inr ⟨g,cap,vs,e1,hw,h1,h2,h3,a1X cs _ hd h4⟩
 | arr e t xs =>
  rcases hr with hn|⟨g,cap,cur,e1,hw,h1,h2,h3,h4⟩
  ·exact .inl hn
  ·exact .inr ⟨g,cap,cur,e1,hw,h1,h2,h3,fun i x hi=>b52 t x g _ hd (h4 i x hi)⟩
 | imm t xs=>cases hd
 | map ak ae kt vt xs =>
  obtain ⟨g,es,c,e,hw,hm,hm2⟩:=hr;exact ⟨g,es,c,e,hw,⟨hm.1,fun i e p he hp=>b75 hd (hm.2 i e p he hp)⟩,hm2⟩
theorem a77 (f:Nat→Nat):∀ (l:List AVal),(AVal.renL f l).length=l.length
 | []=>rfl
 | x::l=>by unfold AVal.renL; rw [List.length_cons,List.length_cons,a77 f l]
theorem a7P {η η':Nat→Value} {w:World} {A A':Nat→Prop} (hA:∀ g,A' g→A g) {f:Nat→Nat} {B:ABlk} {h:Value} (he:∀ ty cs,B=.box ty cs∨B=.obx ty cs→∀ b∈AVal.idsL cs,η' (f b)=η b) (hr:r6 η w A B h):r6 η' w A' (B.ren f) h:=by
 have k:Keeps A A' w w:=⟨Nat.le_refl _,fun _ _ _=>rfl,fun g _ hg=>hA g hg⟩
 cases B with
 | box ty cs =>
  obtain ⟨g,vs,e,hw,hc⟩:=hr;exact ⟨g,vs,e,hw,a0s cs _ (he ty cs (.inl rfl)) (d6.step k _ _ (fun _ _=>rfl) hc)⟩
 | obx ty cs =>
  have hlen:(AVal.renL f cs).length=cs.length:=a77 f cs;rcases hr with ⟨hn,hn2⟩|⟨g,cap,vs,e1,hw,h1,h2,h3,h4⟩
  ·exact .inl ⟨by rw [hn]; rfl,hn2⟩
  ·refine .inr ⟨g,cap,vs,by rw [hlen]; exact e1,hw,by rw [hlen]; exact h1,h2,h3,?_⟩;rw [hlen];exact a0s cs _ (he ty cs (.inr rfl)) (d6.step k _ _ (fun _ _=>rfl) h4)
 | arr e t xs =>
  have:=r6.step (K:=[]) (η':=η') (η:=η') k (fun _ _=>rfl) (B:=.arr e t xs) (fun g _ _=>rfl) (by exact hr)
  rwa [z9] at this
 | imm t xs =>
  have:=r6.step (K:=[]) (η':=η') (η:=η') k (fun _ _=>rfl) (B:=.imm t xs) (fun g _ _=>rfl) (by exact hr)
  rwa [z9] at this
 | map ak ae kt vt xs =>
  have:=r6.step (K:=[]) (η':=η') (η:=η') k (fun _ _=>rfl) (B:=.map ak ae kt vt xs) (fun g _ _=>rfl) (by exact hr)
  rwa [z9] at this
end Go.Proofs.YtanaeefeggokkaaGreat
/-! The abstract machine,11: calls; one operation. No program is named here. -/
namespace Go.Proofs.YtanaeefeggokkaaGreat
open Go.RowKit
set_option linter.constructorNameAsVariable false
theorem a4K:∀ (h k:List (Nat×ABlk)) (b:Nat),b6 (h++k) b=match b6 h b with|some B=>some B|none=>b6 k b
 | [],k,b=>rfl
 | (c,B)::r,k,b=>by
  show (if b=c then some B else b6 (r++k) b)=match (if b=c then some B else b6 r b) with|some B=>some B|none=>b6 k b
  split
  ·rfl
  ·exact a4K r k b
theorem a07:∀ {h:List (Nat×ABlk)},a7D h=true→∀ {c B},b6 h c=some B→R3 c
 | [],_,c,B,hg=>by cases hg
 | (c0,B0)::r,h,c,B,hg=>by
  simp only [a7D,Bool.and_eq_true,decide_eq_true_eq] at h;unfold b6 at hg
  split at hg
  ·rename_i e; subst e; exact h.1
  ·exact a07 h.2 hg
theorem a1L:∀ {h:List (Nat×ABlk)},b5H h=true→∀ {c B},b6 h c=some B→B.mut=true
 | [],_,c,B,hg=>by cases hg
 | (c0,B0)::r,h,c,B,hg=>by
  simp only [b5H,Bool.and_eq_true] at h;unfold b6 at hg
  split at hg
  ·injection hg with hg; subst hg; exact h.1
  ·exact a1L h.2 hg
theorem a9o {hin:List (Nat×ABlk)}:∀ {h:List (Nat×ABlk)},a9p hin h=true→∀ {c B},b6 h c=some B→i8 hin c=true∨(2000≤c∧c<3000)
 | [],_,c,B,hg=>by cases hg
 | (c0,B0)::r,h,c,B,hg=>by
  simp only [a9p,Bool.and_eq_true,Bool.or_eq_true,decide_eq_true_eq] at h;unfold b6 at hg
  split at hg
  ·rename_i e; subst e; exact h.1.2
  ·exact a9o h.2 hg
theorem a9n {hin:List (Nat×ABlk)}:∀ {h:List (Nat×ABlk)},a9p hin h=true→∀ {c B},(c,B)∈h→b6 h c=some B
 | [],_,c,B,hm=>by simp at hm
 | (c0,B0)::r,h,c,B,hm=>by
  simp only [a9p,Bool.and_eq_true,Bool.not_eq_true'] at h;unfold b6;rcases List.mem_cons.1 hm with e|hm
  ·injection e with e1 e2; subst e1 e2; rw [if_pos rfl]
  ·have:=a9n h.2 hm;rw [if_neg ?_]
   ·exact this
   ·rintro rfl
    have h2:=l6.2 ⟨B,this⟩;rw [h.1.1] at h2; cases h2
theorem a78 (f:Nat→Nat):∀ {h:List (Nat×ABlk)} {b:Nat} {B:ABlk},b6 (D9 f h) b=some B→∃ c B0,(c,B0)∈h∧b=f c∧B=B0.ren f
 | [],b,B,hg=>by cases hg
 | (c0,B0)::r,b,B,hg=>by
  unfold D9 b6 at hg
  split at hg
  ·rename_i e; injection hg with hg; exact ⟨c0,B0,List.mem_cons_self,e,hg.symm⟩
  ·obtain ⟨c,B1,h1,h2,h3⟩:=a78 f hg;exact ⟨c,B1,List.mem_cons_of_mem _ h1,h2,h3⟩
theorem a5H (f:Nat→Nat):∀ {h:List (Nat×ABlk)} {c:Nat},i8 h c=true→(b6 (D9 f h) (f c)).isSome=true
 | [],c,hk=>by cases hk
 | (c0,B0)::r,c,hk=>by
  unfold i8 at hk;unfold D9 b6
  split
  ·rfl
  ·rename_i hne;refine a5H f ?_;rcases Bool.or_eq_true _ _▸hk with e|e
   ·have:=beq_iff_eq.1 e; subst this; exact absurd rfl hne
   ·exact e
theorem a1D (rn:List (Nat×Nat)) (hout:List (Nat×ABlk)):∀ {h:List (Nat×ABlk)} {b:Nat},(U4 rn hout h).contains b=true↔∃ c,i8 h c=true∧i8 hout c=false∧g6 rn c=b
 | [],b=>by simp [U4,i8]
 | (c0,B0)::r,b=>by
  have ih:=a1D rn hout (h:=r) (b:=b);unfold U4
  cases hk:i8 hout c0 with
  | true =>
   rw [if_pos rfl,ih]
   constructor
   ·rintro ⟨c,h1,h2,h3⟩; exact ⟨c,by simp [i8,h1],h2,h3⟩
   ·rintro ⟨c,h1,h2,h3⟩
    refine ⟨c,?_,h2,h3⟩;unfold i8 at h1;rcases Bool.or_eq_true _ _▸h1 with e|e
    ·have:=beq_iff_eq.1 e; subst this; rw [hk] at h2; cases h2
    ·exact e
  | false =>
   rw [if_neg (by simp),List.contains_cons,Bool.or_eq_true,ih]
   constructor
   ·rintro (e|⟨c,h1,h2,h3⟩)
    ·exact ⟨c0,by simp [i8],hk,(beq_iff_eq.1 e).symm⟩
    ·exact ⟨c,by simp [i8,h1],h2,h3⟩
   ·rintro ⟨c,h1,h2,h3⟩
    unfold i8 at h1;rcases Bool.or_eq_true _ _▸h1 with e|e
    ·have:=beq_iff_eq.1 e; subst this; exact .inl (beq_iff_eq.2 h3.symm)
    ·exact .inr ⟨c,e,h2,h3⟩
theorem Y7 (d:Nat) (hin:List (Nat×ABlk)):∀ {h:List (Nat×ABlk)} {b:Nat},(a0E d hin h).contains b=true↔∃ c,i8 h c=true∧i8 hin c=false∧Z1 d c=b
 | [],b=>by simp [a0E,i8]
 | (c0,B0)::r,b=>by
  have ih:=Y7 d hin (h:=r) (b:=b);unfold a0E
  cases hk:i8 hin c0 with
  | true =>
   rw [if_pos rfl,ih]
   constructor
   ·rintro ⟨c,h1,h2,h3⟩; exact ⟨c,by simp [i8,h1],h2,h3⟩
   ·rintro ⟨c,h1,h2,h3⟩
    refine ⟨c,?_,h2,h3⟩;unfold i8 at h1;rcases Bool.or_eq_true _ _▸h1 with e|e
    ·have:=beq_iff_eq.1 e; subst this; rw [hk] at h2; cases h2
    ·exact e
  | false =>
   rw [if_neg (by simp),List.contains_cons,Bool.or_eq_true,ih]
   constructor
   ·rintro (e|⟨c,h1,h2,h3⟩)
    ·exact ⟨c0,by simp [i8],hk,(beq_iff_eq.1 e).symm⟩
    ·exact ⟨c,by simp [i8,h1],h2,h3⟩
   ·rintro ⟨c,h1,h2,h3⟩
    unfold i8 at h1;rcases Bool.or_eq_true _ _▸h1 with e|e
    ·have:=beq_iff_eq.1 e; subst this; exact .inl (beq_iff_eq.2 h3.symm)
    ·exact .inr ⟨c,e,h2,h3⟩
theorem a73 {rn:List (Nat×Nat)}:∀ {h:List (Nat×ABlk)},a0R.rnOK rn h=true→∀ {c c' B B'},b6 h c=some B→b6 h c'=some B'→g6 rn c=g6 rn c'→c=c'
 | [],_,c,c',B,B',hg,_,_=>by cases hg
 | (c0,B0)::r,h,c,c',B,B',hg,hg',he=>by
  simp only [a0R.rnOK,Bool.and_eq_true] at h;have key:∀ c1 B1,b6 r c1=some B1→g6 rn c1≠g6 rn c0:=fun c1 B1 h1=>by
   have:=List.all_eq_true.1 h.1.2 _ (y6 h1);simpa using this
  unfold b6 at hg hg'
  split at hg
  ·rename_i e;subst e
   split at hg'
   ·rename_i e'; exact e'.symm
   ·exact absurd he.symm (key c' B' hg')
  ·split at hg'
   ·rename_i e';subst e';exact absurd he (key c B hg)
   ·exact a73 h.2 hg hg' he
theorem a2Z:∀ {h:List (Nat×ABlk)} {c:Nat} {ty:TypeId} {cs:List AVal},(c,ABlk.box ty cs)∈h∨(c,ABlk.obx ty cs)∈h→∀ b∈AVal.idsL cs,b∈a2D h
 | [],c,ty,cs,hm,b,hb=>by simp at hm
 | (c0,B0)::r,c,ty,cs,hm,b,hb=>by
  have hm':(ABlk.box ty cs=B0∨ABlk.obx ty cs=B0)∨((c,ABlk.box ty cs)∈r∨(c,ABlk.obx ty cs)∈r):=by
   rcases hm with hm|hm<;>rcases List.mem_cons.1 hm with e|hm
   ·injection e with e1 e2; exact .inl (.inl e2)
   ·exact .inr (.inl hm)
   ·injection e with e1 e2; exact .inl (.inr e2)
   ·exact .inr (.inr hm)
  rcases hm' with (e2|e2)|hm
  ·subst e2;unfold a2D;exact List.mem_append_left _ hb
  ·subst e2;unfold a2D;exact List.mem_append_left _ hb
  ·have:=a2Z hm b hb
   cases B0<;>unfold a2D
   ·exact List.mem_append_right _ this
   ·exact this
   ·exact this
   ·exact this
   ·exact List.mem_append_right _ this
theorem b1z:∀ {h:List (Nat×ABlk)},a09 h=true→∀ {c B},(c,B)∈h→B.dry=true
 | [],_,c,B,hm=>by simp at hm
 | (c0,B0)::r,h,c,B,hm=>by
  simp only [a09,Bool.and_eq_true] at h;rcases List.mem_cons.1 hm with e|hm
  ·injection e with e1 e2; subst e2; exact h.1
  ·exact b1z h.2 hm
section
variable {P:Program} {T:Tab} {n:Nat} {ds:List Deferred} {A0 L0:Nat→Prop} {w0:Old} {η:Nat→Value} {s:ASt} {a:Act} {w:World}
theorem Rel.av_lt (h:Rel n ds A0 L0 w0 η s a w) {g:Nat} (hg:Av A0 η s.H g):g<w.heap.size:=by
 rcases hg with hg|hg
 ·exact (h.hp.av g hg).1
 ·exact p9.lt h.hp hg
def a3f (η η2:Nat→Value) (d:Nat) (hin hout:List (Nat×ABlk)) (b:Nat):Value:=if (a0E d hin hout).contains b=true then η2 (b - (10000+1000*d)+2000) else η b
theorem b6i (h:Rel n ds A0 L0 w0 η s a w) {d:Option Nat} (hd:∀ i,d=some i→i<n) {g:FuncId} {dn:Nat} {D:List Nat} {rn:List (Nat×Nat)} {hin hout:List (Nat×ABlk)} {xs l:List AVal} {r:AVal} {vs:Array Value}
  (hl:d6 η w (Av A0 η s.H) xs vs.toList) (hp:HC P g hin l hout r) (hok:a0R dn D rn hin hout r xs=true) (hle:LeL s.H D [] (g6 rn) xs l) (hlh:LeH s.H D [] (g6 rn) hin) {K:Eff→Prop}
  (hK:K { v:=r.ren (E7 dn rn hin),kill:=U4 rn hout hin++a0E dn hin hout,hp:=D9 (E7 dn rn hin) hout++(if (r.dry&&a09 hout)=true then [] else rest s.H D) }) :
  Calls P g vs w fun e w'=>∃ v,e=.returned v∧∃ ef η',K ef∧Rel n ds A0 L0 w0 η' (s.app d ef) (a.put d v) w':=by
 unfold a0R at hok;simp only [Bool.and_eq_true] at hok;obtain ⟨⟨⟨⟨⟨⟨⟨⟨⟨⟨k1,k2⟩,k3⟩,k4⟩,_⟩,k6⟩,k7⟩,k8⟩,k9⟩,k10⟩,k11⟩:=hok;have hNi:NamesIn (g6 rn) D [] hin:=by
  refine ⟨fun c B hg _ _=>?_,fun c c' B B' hg hg' _ _ he=>a73 k8 hg hg' he⟩;have:=List.all_eq_true.1 k7 _ (y6 hg);simpa using this
 obtain ⟨A1,hA1⟩:∃ A1:Nat→Prop,A1=fun q=>Av A0 η s.H q∧((¬ ∃ b e t xs,s.H b=some (.arr e t xs)∧D.contains b=true∧hblk (η b)=some q)∧¬ ∃ b ty cs,s.H b=some (.box ty cs)∧D.contains (b+1000000000)=true∧hblk (η b)=some q)∧¬ p9 (M6 η [] (g6 rn)) (b6 hin) q:=⟨_,rfl⟩;have hA1':∀ q,A1 q↔Av A0 η s.H q∧((¬ ∃ b e t xs,s.H b=some (.arr e t xs)∧D.contains b=true∧hblk (η b)=some q)∧¬ ∃ b ty cs,s.H b=some (.box ty cs)∧D.contains (b+1000000000)=true∧hblk (η b)=some q)∧¬ p9 (M6 η [] (g6 rn)) (b6 hin) q:=fun q=>by rw [hA1]
 obtain ⟨r1,r2,r3⟩:=a8i (A1:=A1) h.hp hNi hlh (fun q hq=>h.av_lt ((hA1' q).1 hq).1) (fun q hq=>((hA1' q).1 hq).1) (fun q b e t ys hq hb hD hg=>((hA1' q).1 hq).2.1.1 ⟨b,e,t,ys,hb,hD,hg⟩) (fun q hq=>((hA1' q).1 hq).2.2) (.inr ⟨fun q b ty cs hq hb hD hg=>((hA1' q).1 hq).2.1.2 ⟨b,ty,cs,hb,hD,hg⟩,fun c B hc _=>by
  have:=List.all_eq_true.1 k10 _ (y6 hc)
  simpa using this⟩)
 have hη1:∀ c,M6 η [] (g6 rn) c=η (g6 rn c):=fun c=>by unfold M6; simp
 refine (hp.2 _ A1 w vs r1 (r3 xs l _ hle hl)).mono ?_
 rintro e w' ⟨v,η2,rfl,hG⟩
 refine ⟨v,rfl,_,a3f η η2 dn hin hout,hK,?_⟩
 -- names and handles behind
 have hfresh:∀ c,2000≤c→c<3000→Z1 dn c - (10000+1000*dn)+2000=c:=fun c h1 h2=>by unfold Z1; omega
 have hnewη:∀ c,i8 hout c=true→i8 hin c=false→a3f η η2 dn hin hout (Z1 dn c)=η2 c:=by
  intro c h1 h2;have hc:(a0E dn hin hout).contains (Z1 dn c)=true:=(Y7 _ _).2 ⟨c,h1,h2,rfl⟩;obtain ⟨B,hB⟩:=l6.1 h1;rcases a9o k4 hB with h3|⟨h3,h4⟩
  ·rw [h2] at h3; cases h3
  ·unfold a3f;rw [if_pos hc,hfresh c h3 h4]
 have holdη:∀ c,i8 hin c=true→a3f η η2 dn hin hout (g6 rn c)=η (g6 rn c):=by
  intro c h1;obtain ⟨B,hB⟩:=l6.1 h1;have:=List.all_eq_true.1 k9 _ (y6 hB);simp only [Bool.not_eq_true'] at this;unfold a3f;rw [this]; simp
 have hbackη:∀ c,i8 hout c=true→a3f η η2 dn hin hout (E7 dn rn hin c)=η2 c:=by
  intro c h1;unfold E7
  cases h2:i8 hin c with
  | true =>
   rw [if_pos rfl,holdη c h2,← hη1];obtain ⟨B,hB⟩:=l6.1 h2;exact (hG.hd c (a07 k1 hB) h1).symm
  | false=>rw [if_neg (by simp)]; exact hnewη c h1 h2
 have hgetr:∀ b B,b6 (D9 (E7 dn rn hin) hout) b=some B→∃ c B0,b6 hout c=some B0∧b=E7 dn rn hin c∧B=B0.ren (E7 dn rn hin):=by
  intro b B hb;obtain ⟨c,B0,h1,h2,h3⟩:=a78 _ hb;exact ⟨c,B0,a9n k4 h1,h2,h3⟩
 have hrest:∀ b B,b6 (if (r.dry&&a09 hout)=true then [] else rest s.H D) b=some B→∃ e t xs,s.H b=some (.arr e t xs)∧B=.imm t xs∧b∈D∧(r.dry&&a09 hout)=false:=by
  intro b B hb
  split at hb
  ·cases hb
  ·rename_i hc;obtain ⟨e,t,ys,h1,h2,h3⟩:=t6 _ _ _ _ hb;exact ⟨e,t,ys,h1,h2,h3,by simpa using hc⟩
 have hget:∀ b B,b6 (D9 (E7 dn rn hin) hout++(if (r.dry&&a09 hout)=true then [] else rest s.H D)) b=some B →
   (∃ c B0,b6 hout c=some B0∧b=E7 dn rn hin c∧B=B0.ren (E7 dn rn hin))∨(∃ e t xs,s.H b=some (.arr e t xs)∧B=.imm t xs∧b∈D∧(r.dry&&a09 hout)=false∧b6 (D9 (E7 dn rn hin) hout) b=none):=by
  intro b B hb;rw [a4K] at hb
  cases hg:b6 (D9 (E7 dn rn hin) hout) b with
  | some B'=>rw [hg] at hb; injection hb with hb; subst hb; exact .inl (hgetr b _ hg)
  | none=>rw [hg] at hb; obtain ⟨e,t,ys,z1,z2,z3,z4⟩:=hrest b B hb; exact .inr ⟨e,t,ys,z1,z2,z3,z4,rfl⟩
 have hsome:∀ c,i8 hout c=true→(b6 (D9 (E7 dn rn hin) hout++(if (r.dry&&a09 hout)=true then [] else rest s.H D)) (E7 dn rn hin c)).isSome=true:=by
  intro c hc;have:=a5H (E7 dn rn hin) hc;rw [a4K];obtain ⟨B,hB⟩:=Option.isSome_iff_exists.1 this;rw [hB]; rfl
 have hliveIn:∀ q,p9 (M6 η [] (g6 rn)) (b6 hin) q→∃ c B0,i8 hin c=true∧s.H (g6 rn c)=some B0∧B0.mut=true∧hblk (η (g6 rn c))=some q:=by
  intro q hq;obtain ⟨c,B,B0,j1,_,j2,j3,_,j4⟩:=a2n hlh hq;exact ⟨c,B0,l6.2 ⟨B,j1⟩,j2,j3,j4⟩
 have hnotD:∀ c,i8 hin c=true→D.contains (g6 rn c)=false:=by
  intro c hc;obtain ⟨B,hB⟩:=l6.1 hc;have:=List.all_eq_true.1 k7 _ (y6 hB);simpa using this
 have hηk:∀ b,(U4 rn hout hin++a0E dn hin hout).contains b=false→a3f η η2 dn hin hout b=η b:=by
  intro b hb;rw [List.contains_append,Bool.or_eq_false_iff] at hb;unfold a3f;rw [hb.2]; simp
 have hNN:∀ b B q,b6 (D9 (E7 dn rn hin) hout++(if (r.dry&&a09 hout)=true then [] else rest s.H D)) b=some B→B.mut=true→hblk (a3f η η2 dn hin hout b)=some q →
   (∃ b0 B0,s.H b0=some B0∧B0.mut=true∧hblk (η b0)=some q∧(b0=b∨((a0E dn hin hout).contains b=true∧(U4 rn hout hin++a0E dn hin hout).contains b0=true)))∨(w.heap.size≤q∧(a0E dn hin hout).contains b=true):=by
  intro b B q hb hm hg;rcases hget b B hb with ⟨c,B0,j1,rfl,j3⟩|⟨_,_,_,_,j2,_⟩
  ·have hkc:i8 hout c=true:=l6.2 ⟨B0,j1⟩;rw [hbackη c hkc] at hg;have hm0:B0.mut=true:=by rw [j3,a2j] at hm; exact hm
   by_cases hq:q<w.heap.size
   ·obtain ⟨c1,B1,i1,i2,i3,i4⟩:=hliveIn q (hG.old q ⟨c,B0,j1,hm0,hg⟩ hq);refine .inl ⟨_,B1,i2,i3,i4,?_⟩
    cases hc1:i8 hout c1 with
    | true =>
     obtain ⟨B2,hB2⟩:=l6.1 hc1;obtain ⟨B3,hB3⟩:=l6.1 i1;have e2:η2 c1=η (g6 rn c1):=by rw [← hη1]; exact hG.hd c1 (a07 k1 hB3) hc1
     have:=hG.hp.inj c c1 _ _ q j1 hB2 hm0 (a1L k3 hB2) hg (by rw [e2]; exact i4);subst this;refine .inl ?_;unfold E7; rw [i1]; simp
    | false =>
     cases hci:i8 hin c with
     | true =>
      obtain ⟨B3,hB3⟩:=l6.1 hci;obtain ⟨B4,hB4⟩:=l6.1 i1;have e2:η2 c=η (g6 rn c):=by rw [← hη1]; exact hG.hd c (a07 k1 hB3) hkc
      have:=r1.inj c c1 _ _ q hB3 hB4 (a1L k2 hB3) (a1L k2 hB4) (by rw [hη1,← e2]; exact hg) (by rw [hη1]; exact i4);subst this;rw [hkc] at hc1; cases hc1
     | false =>
      refine .inr ⟨?_,?_⟩
      ·have:E7 dn rn hin c=Z1 dn c:=by unfold E7; rw [hci]; simp
       rw [this];exact (Y7 _ _).2 ⟨c,hkc,hci,rfl⟩
      ·rw [List.contains_append,Bool.or_eq_true];exact .inl ((a1D _ _).2 ⟨c1,i1,hc1,rfl⟩)
   ·refine .inr ⟨by omega,?_⟩
    cases hci:i8 hin c with
    | true =>
     obtain ⟨B3,hB3⟩:=l6.1 hci;have e2:η2 c=M6 η [] (g6 rn) c:=hG.hd c (a07 k1 hB3) hkc;have:=p9.lt r1 ⟨c,B3,hB3,a1L k2 hB3,by rw [← e2]; exact hg⟩;exact absurd this hq
    | false =>
     have:E7 dn rn hin c=Z1 dn c:=by unfold E7; rw [hci]; simp
     rw [this];exact (Y7 _ _).2 ⟨c,hkc,hci,rfl⟩
  ·subst j2; cases hm
 have hkillnew:∀ b,(a0E dn hin hout).contains b=true→¬ R3 b:=by
  intro b hb;obtain ⟨c,j1,j2,rfl⟩:=(Y7 _ _).1 hb;unfold R3 Z1; omega
 -- what is live behind the call
 have hsetlive:∀ q,Av A0 (a3f η η2 dn hin hout) (s.app d { v:=r.ren (E7 dn rn hin),kill:=U4 rn hout hin++a0E dn hin hout,hp:=D9 (E7 dn rn hin) hout++(if (r.dry&&a09 hout)=true then [] else rest s.H D) }).H q →
   (r.dry&&a09 hout)=false→Av A1 η2 (b6 hout) q:=by
  rintro q (hq|⟨b,B,j1,j2,j3⟩) hdry
  ·refine .inl ((hA1' q).2 ⟨.inl hq,⟨?_,?_⟩,?_⟩)
   ·rintro ⟨b,e,t,ys,i1,_,i3⟩
    exact (h.hp.av q hq).2 ⟨b,_,i1,rfl,i3⟩
   ·rintro ⟨b,ty,cs,i1,_,i3⟩
    exact (h.hp.av q hq).2 ⟨b,_,i1,rfl,i3⟩
   ·intro hq2;obtain ⟨c,B0,_,i2,i3,i4⟩:=hliveIn q hq2;exact (h.hp.av q hq).2 ⟨_,B0,i2,i3,i4⟩
  ·simp only [ASt.app] at j1
   cases hg:b6 (D9 (E7 dn rn hin) hout++(if (r.dry&&a09 hout)=true then [] else rest s.H D)) b with
   | some B' =>
    rw [hg] at j1;injection j1 with j1;subst j1;rcases hget b _ hg with ⟨c,B0,i1,rfl,i3⟩|⟨_,_,_,_,i2,_⟩
    ·rw [hbackη c (l6.2 ⟨B0,i1⟩)] at j3;exact .inr ⟨c,B0,i1,by rw [i3,a2j] at j2; exact j2,j3⟩
    ·subst i2; cases j2
   | none =>
    rw [hg] at j1;simp only at j1
    split at j1
    ·cases j1
    ·rename_i hk;have hk':(U4 rn hout hin++a0E dn hin hout).contains b=false:=by simpa using hk
     obtain ⟨B0,i1,i2⟩:=Option.map_eq_some_iff.1 j1;have hm0:B0.mut=true:=by rw [← i2,ABlk.mut_clean] at j2; exact j2
     rw [hηk b hk'] at j3;refine .inl ((hA1' q).2 ⟨.inr ⟨b,B0,i1,hm0,j3⟩,⟨?_,?_⟩,?_⟩)
     rotate_left
     ·rintro ⟨b',ty,cs,x1,x2,x3⟩
      rw [hdry,Bool.false_or] at k11;have:=List.all_eq_true.1 k11 _ (by simpa using x2);simp only [decide_eq_true_eq] at this;omega
     rotate_left
     ·rintro ⟨b',e,t,ys,x1,x2,x3⟩
      have:=h.hp.inj b b' _ _ q i1 x1 hm0 rfl j3 x3;subst this;rw [a4K] at hg
      cases hg2:b6 (D9 (E7 dn rn hin) hout) b with
      | some _=>rw [hg2] at hg; cases hg
      | none =>
       rw [hg2,hdry] at hg;simp only [Bool.false_eq_true,if_false] at hg;rw [a2T s.H D b (by simpa using x2) x1] at hg
       cases hg
     ·intro hq2;obtain ⟨c,B1,x1,x2,x3,x4⟩:=hliveIn q hq2;have:=h.hp.inj b _ _ _ q i1 x2 hm0 x3 j3 x4;subst this;rw [List.contains_append,Bool.or_eq_false_iff] at hk'
      cases hc1:i8 hout c with
      | true =>
       have:=hsome c hc1;unfold E7 at this;rw [x1] at this;simp only [if_true] at this;unfold E7 at hg;rw [hg] at this
       cases this
      | false =>
       have:=(a1D rn hout).2 ⟨c,x1,hc1,rfl⟩;rw [this] at hk'; cases hk'.1
 have hidr:∀ b∈r.ids,a3f η η2 dn hin hout (E7 dn rn hin b)=η2 b:=fun b hb=>hbackη b (List.all_eq_true.1 k6 b (List.mem_append_left _ hb));have hidh:∀ c ty cs,(c,ABlk.box ty cs)∈hout∨(c,ABlk.obx ty cs)∈hout→∀ b∈AVal.idsL cs,a3f η η2 dn hin hout (E7 dn rn hin b)=η2 b:=fun c ty cs hm b hb=>hbackη b (List.all_eq_true.1 k6 b (List.mem_append_right _ (a2Z hm b hb)));refine h.effN (fun b=>(a0E dn hin hout).contains b=true) hd hηk ⟨hG.fr.os,hG.fr.tape,hG.fr.output⟩ hG.fr.size ?_ hNN ?_ ?_ hkillnew ?_ ?_ ?_
 ·intro q hq
  by_cases hl:p9 (M6 η [] (g6 rn)) (b6 hin) q
  ·obtain ⟨c,B0,j1,j2,j3,j4⟩:=hliveIn q hl;refine .inr ⟨_,B0,j2,j3,j4,?_⟩
   cases hc1:i8 hout c with
   | true =>
    refine .inl ?_;have:=hsome c hc1;have hb:E7 dn rn hin c=g6 rn c:=by unfold E7; rw [j1]; simp
    rwa [hb] at this
   | false =>
    refine .inr ?_;rw [List.contains_append,Bool.or_eq_true];exact .inl ((a1D _ _).2 ⟨c,j1,hc1,rfl⟩)
  ·exact .inl (hG.fr.heap q hq hl)
 ·intro b b' B B' q hb hb' hg hg' hm hm' hq hq';obtain ⟨c,j1,j2,rfl⟩:=(Y7 _ _).1 hb;obtain ⟨c',j1',j2',rfl⟩:=(Y7 _ _).1 hb';rw [hnewη c j1 j2] at hq;rw [hnewη c' j1' j2'] at hq';obtain ⟨B1,hB1⟩:=l6.1 j1;obtain ⟨B1',hB1'⟩:=l6.1 j1';rw [hG.hp.inj c c' _ _ q hB1 hB1' (a1L k3 hB1) (a1L k3 hB1') hq hq']
 ·intro b hb hs;rw [List.contains_append,Bool.or_eq_true] at hb;rcases hb with hb|hb
  ·exfalso;obtain ⟨c,j1,j2,rfl⟩:=(a1D _ _).1 hb;obtain ⟨B,hB⟩:=Option.isSome_iff_exists.1 hs;rcases hget _ B hB with ⟨c2,B0,i1,i2,_⟩|⟨_,_,_,_,_,i3,_⟩
   ·have hk2:i8 hout c2=true:=l6.2 ⟨B0,i1⟩;unfold E7 at i2
    cases hc2:i8 hin c2 with
    | true =>
     rw [hc2,if_pos rfl] at i2;obtain ⟨X,hX⟩:=l6.1 j1;obtain ⟨Y,hY⟩:=l6.1 hc2;have:=a73 k8 hX hY i2;subst this;rw [hk2] at j2; cases j2
    | false =>
     rw [hc2,if_neg (by simp)] at i2;obtain ⟨X,hX⟩:=l6.1 j1;have:=List.all_eq_true.1 k9 _ (y6 hX);have h2:=(Y7 dn hin).2 ⟨c2,hk2,hc2,rfl⟩;simp only [Bool.not_eq_true'] at this;rw [i2,h2] at this
     cases this
   ·have:=hnotD c j1;simp only [List.contains_eq_mem,decide_eq_false_iff_not] at this;exact this i3
  ·exact hb
 ·intro b hb hs hk;obtain ⟨B,hB⟩:=Option.isSome_iff_exists.1 hs;rcases hget _ B hB with ⟨c2,B0,i1,i2,_⟩|⟨_,_,_,i1,_⟩
  ·have hk2:i8 hout c2=true:=l6.2 ⟨B0,i1⟩;unfold E7 at i2
   cases hc2:i8 hin c2 with
   | true =>
    rw [hc2,if_pos rfl] at i2;obtain ⟨Y,hY⟩:=l6.1 hc2;rcases LeH.get hlh hY with ⟨hc,_⟩|⟨_,B1,hB1,_⟩
    ·simp at hc
    ·rw [i2,hB1]; rfl
   | false =>
    rw [hc2,if_neg (by simp)] at i2;exact absurd hb (hkillnew b ((Y7 dn hin).2 ⟨c2,hk2,hc2,i2.symm⟩))
  ·rw [i1]; rfl
 ·intro k b B hb;rcases hget b B hb with ⟨c,B0,i1,rfl,rfl⟩|⟨e9,t9,ys,i1,rfl,i3,i4,i5⟩
  ·rw [hbackη c (l6.2 ⟨B0,i1⟩)];have hr:=hG.hp.blk c B0 i1;have hids:=hidh c
   by_cases hdry:(r.dry&&a09 hout)=true
   ·have hd0:B0.dry=true:=b1z (by simp only [Bool.and_eq_true] at hdry; exact hdry.2) (y6 i1);exact a7P (fun _ hg=>hg) (fun ty cs e=>hids ty cs (e.elim (fun e=>.inl (by rw [← e]; exact y6 i1)) (fun e=>.inr (by rw [← e]; exact y6 i1)))) (b74 hd0 hr)
   ·exact a7P (fun q hq=>hsetlive q hq (by simpa using hdry)) (fun ty cs e=>hids ty cs (e.elim (fun e=>.inl (by rw [← e]; exact y6 i1)) (fun e=>.inr (by rw [← e]; exact y6 i1)))) hr
  ·have hbD:D.contains b=true:=by simpa using i3
   have hk:(U4 rn hout hin++a0E dn hin hout).contains b=false:=by
    cases hk:(U4 rn hout hin++a0E dn hin hout).contains b with
    | false=>rfl
    | true =>
     rw [List.contains_append,Bool.or_eq_true] at hk;rcases hk with hk|hk
     ·obtain ⟨c,j1,_,rfl⟩:=(a1D _ _).1 hk;rw [hnotD c j1] at hbD; cases hbD
     ·obtain ⟨c,j1,j2,rfl⟩:=(Y7 _ _).1 hk;have h3:=a5H (E7 dn rn hin) j1;have h4:E7 dn rn hin c=Z1 dn c:=by unfold E7; rw [j2]; simp
      rw [h4,i5] at h3
      cases h3
   rw [hηk b hk];refine a38 h.hp (.inl i1) k fun q hb2 hq=>?_;have hnl:¬ p9 (M6 η [] (g6 rn)) (b6 hin) q:=fun hl=>by
    obtain ⟨c,B0,x1,x2,x3,x4⟩:=hliveIn q hl;have:=h.hp.inj b _ _ _ q i1 x2 rfl x3 hq x4;subst this;rw [hnotD c x1] at hbD; cases hbD
   have hlt:q<w.heap.size:=p9.lt h.hp ⟨b,_,i1,rfl,hq⟩;refine ⟨hG.fr.heap q hlt hnl,fun hA=>?_⟩;rcases hsetlive q hA i4 with hA|hA
   ·exact ((hA1' q).1 hA).2.1.1 ⟨b,_,_,_,i1,hbD,hq⟩
   ·exact hnl (hG.old q hA hlt)
 ·intro k
  by_cases hdry:(r.dry&&a09 hout)=true
  ·have hd0:r.dry=true:=by simp only [Bool.and_eq_true] at hdry; exact hdry.1
   exact a7x r v hidr (b3p r v hd0 hG.rv)
  ·have k':Keeps (Av A1 η2 (b6 hout)) (Av A0 (a3f η η2 dn hin hout) (s.app d { v:=r.ren (E7 dn rn hin),kill:=U4 rn hout hin++a0E dn hin hout,hp:=D9 (E7 dn rn hin) hout++(if (r.dry&&a09 hout)=true then [] else rest s.H D) }).H) w' w' :=
    ⟨Nat.le_refl _,fun _ _ _=>rfl,fun q _ hq=>hsetlive q hq (by simpa using hdry)⟩
   exact a7x r v hidr (d9.step k' _ _ (fun _ _=>rfl) hG.rv)
theorem evs (h:Rel n ds A0 L0 w0 η s a w):∀ (l:List Operand),d6 η w (Av A0 η s.H) (l.map s.ev) (l.map a.eval)
 | []=>d6.nil
 | x::l=>d6.cons (h.ev x) (evs h l)
theorem b0f (h:Rel n ds A0 L0 w0 η s a w):∀ (l:List (Nat×Operand)),d6 η w (Av A0 η s.H) (l.map fun p=>s.ev p.2) (l.map fun p=>a.eval p.2)
 | []=>d6.nil
 | x::l=>d6.cons (h.ev x.2) (b0f h l)
theorem a3n {f:FuncId} (hf:b9y P f) (args:Array Value):(callFunc f args).run P w=.ok (.enter f args) w:=by
 obtain ⟨fn,h1,h2,h3⟩:=hf;obtain ⟨c,hb⟩:=Option.isSome_iff_exists.1 h2;have h5:¬ fn.name="runtime.NumGoroutine":=by simpa using h3
 simp [callFunc,h1,hb,h5]
variable {ro:Option Nat} {mm:Nat} {o:Oper} {next:Act→World→Prop} {Q:Exit→Act→World→Prop}
theorem b2n (hdf:∀ c,o.op≠.defer c) {S:Sem Value} (hop:execOp a.eval o=(do pure (.value (← S)))) {K:Eff→Prop} (hd:a1i P S n ds A0 L0 w0 s a w o.dst K)
  (hn:∀ e η' a' w',K e→Rel n ds A0 L0 w0 η' (s.app o.dst e) a' w'→next a' w'):o.wpIn (fen ro) mm P a w next Q:=by
 obtain ⟨e,u,w',η',hK,hr,hrel⟩:=hd;exact n7 hdf (by rw [hop]; simp [hr]) (hn e η' _ _ hK hrel)
theorem a5A (hT:z5 P T) (h:Rel n ds A0 L0 w0 η s a w) (hd:∀ i,o.dst=some i→i<n) {K:Eff→Prop} (hs:I8 P T s o K)
  (hn:∀ e η' a' w',K e→Rel n ds A0 L0 w0 η' (s.app o.dst e) a' w'→next a' w'):o.wpIn (fen ro) mm P a w next Q:=by
 have vl:∀ {S:Sem Value},(∀ c,o.op≠.defer c)→execOp a.eval o=(do pure (.value (← S)))→a1i P S n ds A0 L0 w0 s a w o.dst K→o.wpIn (fen ro) mm P a w next Q:=fun hdf hop hdo=>b2n hdf hop hdo hn;have hnid:o.dst.getD 0<1000:=by
  cases hdd:o.dst with
  | none=>simp
  | some i=>have:=hd i hdd; have:=h.few; simp only [Option.getD_some]; exact Nat.lt_of_lt_of_le ‹i<n› ‹n≤1000›
 unfold I8 at hs
 split at hs
 case h_1 x ho =>
  exact n7 (u:=a.eval x) (w':=w) (by simp [ho]) (by simp [execOp,ho]) (hn _ η _ _ hs (h.pure hd (h.ev x)))
 case h_2 x ho =>
  exact n7 (u:=a.eval x) (w':=w) (by simp [ho]) (by simp [execOp,ho]) (hn _ η _ _ hs (h.pure hd (h.ev x)))
 case h_3 c x y ho =>
  have hc:=h.ev c
  cases hcv:s.ev c<;>simp only [hcv] at hs
  case bool p =>
   rw [hcv] at hc;unfold d9 at hc
   cases p
   ·exact n7 (u:=a.eval y) (w':=w) (by simp [ho]) (by simp [execOp,ho,hc,asBool]) (hn _ η _ _ (hs.2 rfl) (h.pure hd (h.ev y)))
   ·exact n7 (u:=a.eval x) (w':=w) (by simp [ho]) (by simp [execOp,ho,hc,asBool]) (hn _ η _ _ (hs.1 rfl) (h.pure hd (h.ev x)))
 case h_4 t ho =>
  cases ht:T t with
  | none=>simp [ht] at hs
  | some i =>
   simp only [ht] at hs;exact vl (by simp [ho]) (by simp [execOp,ho]) (a9T hT h hd hnid ht hs)
 case h_5 t x ho =>
  cases ht:T t with
  | none=>simp [ht] at hs
  | some i =>
   simp only [ht] at hs;obtain ⟨_,h2,h3,hK⟩:=hs;exact vl (by simp [ho]) (by simp [execOp,ho]) (b2d h hd hnid (h.ev x) h2 h3 hK)
 case h_6 t parts ho =>
  refine vl (S:=Instr.build t (parts.map fun p=>(p.1,a.eval p.2))) (by simp [ho]) (by simp [execOp,ho]) (a9R hT h hd ?_ ?_ hs)
  ·simp
  ·simpa [Function.comp_def] using b0f h parts.toList
 case h_7 t len parts ho =>
  refine vl (S:=Instr.buildSlice t len (parts.map fun p=>(p.1,a.eval p.2))) (by simp [ho]) (by simp [execOp,ho]) (a2f hT h hd hnid ?_ ?_ hs)
  ·simp
  ·simpa [Function.comp_def] using b0f h parts.toList
 case h_8 t x ho =>
  exact vl (by simp [ho]) (by simp [execOp,ho]) (a63 hT h hd (h.ev x) hs)
 case h_9 t x v ho =>
  unfold Z4 at hs
  cases ht:T t with
  | none=>simp [ht] at hs
  | some i =>
   simp only [ht] at hs;obtain ⟨hl,hc,hs⟩:=hs
   cases hx:s.ev x<;>simp only [hx] at hs
   case bp b off =>
    cases hb:s.H b with
    | none=>simp [hb] at hs
    | some B =>
     cases B<;>simp only [hb] at hs
     case box ty cs =>
      obtain ⟨w',hr,hrel⟩:=b13 hT h hd ht (by rw [← hx]; exact h.ev x) (h.ev v) hl hc hb hs.1;exact a1t (by simp [ho]) (by simp [execOp,ho,hr]) (hn _ η _ _ hs.2 hrel)
   case ap b sz j off =>
    cases hb:s.H b with
    | none=>simp [hb] at hs
    | some B =>
     cases B<;>simp only [hb] at hs
     case arr e τ xs =>
      obtain ⟨h1,h2,h3,h4,hs⟩:=hs
      split at hs
      ·rename_i x' hel;obtain ⟨w',hr,hrel⟩:=b14 hT h hd ht (by rw [← hx]; exact h.ev x) (h.ev v) hl hc hb h1 h2 h3 h4 hel;exact a1t (by simp [ho]) (by simp [execOp,ho,hr]) (hn _ η _ _ hs hrel)
      ·exact hs.elim
 case h_10 x ho =>
  have hx:=h.ev x;unfold a5B at hs
  split at hs<;>rename_i hxv
  ·rw [hxv] at hx;have hx':=hx;unfold d9 at hx;obtain ⟨g,_,e⟩:=hx;exact n7 (u:=a.eval x) (w':=w) (by simp [ho]) (by simp [execOp,ho,e]) (hn _ η _ _ hs (h.pure hd hx'))
  ·rw [hxv] at hx;have hx':=hx;unfold d9 at hx;obtain ⟨g,_,_,_,e⟩:=hx;exact n7 (u:=a.eval x) (w':=w) (by simp [ho]) (by simp [execOp,ho,e]) (hn _ η _ _ hs (h.pure hd hx'))
  ·rw [hxv] at hx;have hx':=hx;unfold d9 at hx;obtain ⟨g,_,e,_⟩:=hx;exact n7 (u:=a.eval x) (w':=w) (by simp [ho]) (by simp [execOp,ho,e]) (hn _ η _ _ hs (h.pure hd hx'))
  ·rw [hxv] at hx;have hx':=hx;unfold d9 at hx;obtain ⟨_,_,e,_⟩:=hx;exact n7 (u:=a.eval x) (w':=w) (by simp [ho]) (by simp [execOp,ho,e]) (hn _ η _ _ hs (h.pure hd hx'))
  ·exact hs.elim
 case h_11 op t x y yt ho =>
  split at hs<;>rename_i hxv
  ·exact vl (S:=do eqGuard .eql t x y (a.eval x) (a.eval y); binOp .eql t (a.eval x) (a.eval y)) (by simp [ho]) (by simp [execOp,ho]) (a84 hT h hd rfl (by rw [← hxv]; exact h.ev x) (h.ev y) hs)
  ·exact vl (S:=do eqGuard .neq t x y (a.eval x) (a.eval y); binOp .neq t (a.eval x) (a.eval y)) (by simp [ho]) (by simp [execOp,ho]) (a84 hT h hd rfl (by rw [← hxv]; exact h.ev x) (h.ev y) hs)
  ·refine vl (S:=do eqGuard _ t x y (a.eval x) (a.eval y); binOp _ t (a.eval x) (a.eval y)) (by simp [ho]) (by simp [execOp,ho]) (b2f h hd (h.ev x) (h.ev y) hs)
 case h_12 op t x ho =>
  exact vl (by simp [ho]) (by simp [execOp,ho]) (b3L h hd (h.ev x) hs)
 case h_13 src dst x ho =>
  obtain ⟨j,hj⟩:=Option.isSome_iff_exists.1 hs.1;obtain ⟨_,_,dd,_,_,_,_,_,hu,_⟩:=(hT src j hj).ex;exact vl (by simp [ho]) (by simp [execOp,ho]) (b0I hT h hd ⟨dd,hu⟩ (h.ev x) hs.2)
 case h_14 f fst cap ho =>
  refine n7 (u:=.func f (fst.map a.eval) (cap.map a.eval)) (w':=w) (by simp [ho]) (by simp [execOp,ho,Instr.makeFunc]) (hn _ η _ _ hs (h.pure hd ?_));unfold d9;exact ⟨_,_,rfl,by simpa using evs h fst.toList,by simpa using evs h cap.toList⟩
 case h_15 t l c ho =>
  exact vl (by simp [ho]) (by simp [execOp,ho]) (b0C hT h hd hnid (h.ev l) (h.ev c) hs)
 case h_16 t x lo hi ho =>
  refine vl (S:=Instr.sliceAt t (a.eval x) (lo.map a.eval) (hi.map a.eval) none) (by simp [ho]) (by simp [execOp,ho]) (a9L hT h hd (h.ev x) ?_ ?_ hs)
  ·cases lo with
   | none=>exact .inl ⟨rfl,rfl⟩
   | some y=>exact .inr ⟨_,_,rfl,rfl,h.ev y⟩
  ·cases hi with
   | none=>exact .inl ⟨rfl,rfl⟩
   | some y=>exact .inr ⟨_,_,rfl,rfl,h.ev y⟩
 case h_17 t x f ho =>
  exact vl (by simp [ho]) (by simp [execOp,ho]) (a6m hT h hd (h.ev x) hs)
 case h_18 t x f ho =>
  exact vl (by simp [ho]) (by simp [execOp,ho]) (a9P hT h hd (h.ev x) hs)
 case h_19 t x ix ho =>
  exact vl (by simp [ho]) (by simp [execOp,ho]) (a6k hT h hd (h.ev x) (h.ev ix) hs)
 case h_20 x i ho =>
  exact vl (by simp [ho]) (by simp [execOp,ho]) (a7T h hd (h.ev x) hs)
 case h_21 c ho =>
  obtain ⟨callee,args,argTypes⟩:=c
  cases callee with
  | invoke r mth=>exact hs.elim
  | builtin b =>
   simp only at hs;unfold M8 at hs;have hargs:=evs h args.toList
   split at hs
   ·rename_i t x hty hx;obtain ⟨hti,hs⟩:=hs
    cases ht:T t with
    | none=>simp [ht] at hti
    | some i =>
     simp only [ht] at hti
     cases hdd:i.desc<;>simp only [hdd] at hti
     case sl e =>
      rw [hx] at hargs;unfold d6 at hargs;obtain ⟨u,us,e1,hu,hus⟩:=hargs;unfold d6 at hus;subst hus;have ea:args.map a.eval=#[u]:=Array.ext' (by simpa using e1);have et:argTypes=#[t]:=Array.ext' (by simpa using hty);refine vl (S:=Builtin.len_ #[t] o.type #[u]) (by simp [ho]) ?_ (b18 hT h hd ht hdd hu hs);simp [execOp,ho,resolve,invoke,builtin,ea,et]
   ·rename_i t t' x y hty hx;obtain ⟨e0,hs⟩:=hs;subst e0;rw [hx] at hargs;unfold d6 at hargs;obtain ⟨u,us,e1,hu,hus⟩:=hargs;unfold d6 at hus;obtain ⟨u2,us2,e2,hu2,hus2⟩:=hus;unfold d6 at hus2;subst hus2 e2;have ea:args.map a.eval=#[u,u2]:=Array.ext' (by simpa using e1);have et:argTypes=#[t',t']:=Array.ext' (by simpa using hty);refine vl (S:=Builtin.append_ #[t',t'] o.type #[u,u2]) (by simp [ho]) ?_ (a8Q hT h hd hnid hu hu2 hs);simp [execOp,ho,resolve,invoke,builtin,ea,et]
   ·rename_i k p k' q hx;obtain ⟨e0,hK⟩:=hs;subst e0;rw [hx] at hargs;unfold d6 at hargs;obtain ⟨u,us,e1,hu,hus⟩:=hargs;unfold d6 at hus;obtain ⟨u2,us2,e2,hu2,hus2⟩:=hus;unfold d6 at hus2;unfold d9 at hu hu2;subst hus2 e2 hu hu2;have ea:args.map a.eval=#[.int k p,.int k q]:=Array.ext' (by simpa using e1);refine vl (S:=Builtin.max_ argTypes o.type #[.int k p,.int k q]) (by simp [ho]) ?_ (g7 h hd (u:=.int k (max p q)) ?_ (by unfold d9; rfl) hK)
    ·simp [execOp,ho,resolve,invoke,builtin,ea]
    ·simp only [Builtin.max_,List.foldlM_cons,List.foldlM_nil,Builtin.max2,Sem.run_bind,Sem.run_pure,Result.andThen_ok];congr 2;rw [Int.max_def]
     split<;>split<;>omega
   ·rename_i k p k' q hx;obtain ⟨e0,hK⟩:=hs;subst e0;rw [hx] at hargs;unfold d6 at hargs;obtain ⟨u,us,e1,hu,hus⟩:=hargs;unfold d6 at hus;obtain ⟨u2,us2,e2,hu2,hus2⟩:=hus;unfold d6 at hus2;unfold d9 at hu hu2;subst hus2 e2 hu hu2;have ea:args.map a.eval=#[.int k p,.int k q]:=Array.ext' (by simpa using e1);refine vl (S:=Builtin.min_ argTypes o.type #[.int k p,.int k q]) (by simp [ho]) ?_ (g7 h hd (u:=.int k (min p q)) ?_ (by unfold d9; rfl) hK)
    ·simp [execOp,ho,resolve,invoke,builtin,ea]
    ·simp only [Builtin.min_,List.foldlM_cons,List.foldlM_nil,Builtin.min2,Sem.run_bind,Sem.run_pure,Result.andThen_ok];congr 2;rw [Int.min_def]
     split<;>split<;>omega
   ·exact hs.elim
  | value f =>
   simp only at hs;unfold L2 at hs;have hf:=h.ev f
   split at hs
   ·rename_i g p c hfv;obtain ⟨D,rn,hin,l,hout,r,hpc,hok,hle,hlh,hK⟩:=hs;rw [hfv] at hf;unfold d9 at hf;obtain ⟨ps,cs,e1,hp,hc⟩:=hf;have hall:d6 η w (Av A0 η s.H) (p++args.toList.map s.ev++c) (ps++args.map a.eval++cs).toList:=by
     simp only [Array.toList_append,Array.toList_map];exact (hp.append (evs h args.toList)).append hc
    refine b3E (f:=g) (vs:=ps++args.map a.eval++cs) (w':=w) (by simp [ho]) ?_ ?_
    ·simp [execOp,ho,resolve,e1,Deferred.ofValue,invoke,a3n hpc.1]
    ·refine (b6i h hd hall hpc hok hle hlh hK).mono ?_
     rintro e w' ⟨v,rfl,ef,η',hKe,hrel⟩
     exact ⟨v,rfl,hn ef η' _ _ hKe hrel⟩
   ·exact hs.elim
 case h_22 t x lo hi mx ho =>
  refine vl (S:=Instr.sliceAt t (a.eval x) (lo.map a.eval) (hi.map a.eval) (some (a.eval mx))) (by simp [ho]) (by simp [execOp,ho]) (b2a hT h hd (h.ev x) ?_ ?_ (h.ev mx) hs)
  ·cases lo with
   | none=>exact .inl ⟨rfl,rfl⟩
   | some y=>exact .inr ⟨_,_,rfl,rfl,h.ev y⟩
  ·cases hi with
   | none=>exact .inl ⟨rfl,rfl⟩
   | some y=>exact .inr ⟨_,_,rfl,rfl,h.ev y⟩
 case h_23 t x y ok ho =>
  exact vl (by simp [ho]) (by simp [execOp,ho]) (a8L h hd (h.ev x) (h.ev y) hs)
 case h_24=>exact hs.elim
end
end Go.Proofs.YtanaeefeggokkaaGreat
/-! The abstract machine,12: code,and whole functions. No program is named here. -/
namespace Go.Proofs.YtanaeefeggokkaaGreat
open Go.RowKit
set_option linter.constructorNameAsVariable false
section
variable (P:Program) (T:Tab)
def b28:Value→Bool
 | .bool _=>false
 | _=>true
def R6 (ops:List Oper) (s:ASt) (o:Oper) (K:Eff→Prop):Prop :=
 match o.guard with
 | none=>I8 P T s o K
 | some (j,want)=>match (ops[j]?).bind (·.dst) with
  | some t=>match s.σ t with
   | .bool p=>(p=want→I8 P T s o K)∧(p≠want→K { v:=.cv undef })
   | .cv u=>b28 u=true∧K { v:=.cv undef }
   | _=>False
  | none=>False
def a6S (ops:List Oper):List Oper→ASt→(ASt→Prop)→Prop
 | [],s,K=>K s
 | o::r,s,K=>R6 P T ops s o fun e=>a6S ops r (s.app o.dst e) K
end
def J7 (n:Nat) (ops:List Oper):Bool:=ops.all fun o=>match o.dst with|some d=>decide (d<n)|none=>true
section
variable {P:Program} {T:Tab} {n:Nat} {ds:List Deferred} {A0 L0:Nat→Prop} {w0:Old}
theorem a4o (hT:z5 P T) {ro:Option Nat} {m:Nat} {Q:Exit→Act→World→Prop} {next:Act→World→Prop} {ops:List Oper} {o:Oper} (hdo:∀ i,o.dst=some i→i<n) {s:ASt} {η:Nat→Value} {a:Act} {w:World} {K:Eff→Prop} (h:Rel n ds A0 L0 w0 η s a w) (hK:R6 P T ops s o K)
  (hn:∀ e η' a' w',K e→Rel n ds A0 L0 w0 η' (s.app o.dst e) a' w'→next a' w') :
  if Region.wanted o (yielded ops.toArray a.tmps) then o.wpIn (fen ro) m P a w next Q else (∀ f,o.about P w a.eval=some f→(fen ro).fn f)∧next (a.put o.dst undef) w:=by
 unfold R6 at hK
 cases hg:o.guard with
 | none =>
  simp only [hg] at hK;simp only [Region.wanted,hg,if_true];exact a5A hT h hdo hK hn
 | some q =>
  obtain ⟨j,want⟩:=q;simp only [hg] at hK
  cases hj:(ops[j]?).bind (·.dst) with
  | none=>simp [hj] at hK
  | some t =>
   simp only [hj] at hK;have ht:=h.tmp t;have hj':(ops.toArray[j]?).bind (·.dst)=some t:=by simpa using hj
   cases hσ:s.σ t<;>simp only [hσ] at hK
   case bool p =>
    rw [hσ] at ht;unfold d9 at ht;have hy:yielded ops.toArray a.tmps j=some p:=by
     have hget:a.tmps[t]?=some (.bool p):=by
      rw [Array.getD_eq_getD_getElem?] at ht
      cases hc:a.tmps[t]? with
      | none=>rw [hc] at ht; simp [undef] at ht
      | some v=>rw [hc] at ht; simp at ht; rw [ht]
     unfold yielded;rw [hj',Option.bind_some,hget]
    simp only [Region.wanted,hg,hy]
    by_cases hp:p=want
    ·subst hp;simp only [beq_self_eq_true,if_true];exact a5A hT h hdo (hK.1 rfl) hn
    ·have:((some p:Option Bool)==some want)=false:=by simpa using hp
     simp only [this,Bool.false_eq_true,if_false];refine ⟨fun f _=>a4s ro f,hn _ η _ w (hK.2 hp) (h.pure hdo ?_)⟩;unfold d9; rfl
   case cv u =>
    rw [hσ] at ht;unfold d9 at ht;have hy:yielded ops.toArray a.tmps j=none:=by
     unfold yielded;rw [hj',Option.bind_some];rw [Array.getD_eq_getD_getElem?] at ht
     cases hc:a.tmps[t]? with
     | none=>rfl
     | some v =>
      rw [hc] at ht;simp only [Option.getD_some] at ht;subst ht;have:=hK.1
      cases v<;>first|rfl|cases this
    simp only [Region.wanted,hg,hy];have:((none:Option Bool)==some want)=false:=rfl;simp only [this,Bool.false_eq_true,if_false];refine ⟨fun f _=>a4s ro f,hn _ η _ w hK.2 (h.pure hdo ?_)⟩;unfold d9; rfl
theorem a8y (hT:z5 P T) {ro:Option Nat} {m:Nat} {Q:Exit→Act→World→Prop} {ops:List Oper}:∀ (l:List Oper),J7 n l=true→∀ (s:ASt) (η:Nat→Value) (a:Act) (w:World) (K:ASt→Prop),Rel n ds A0 L0 w0 η s a w→a6S P T ops l s K →
  ∀ rest:List Oper,(∀ s' η' a' w',K s'→Rel n ds A0 L0 w0 η' s' a' w'→wpListIn (fen ro) m P ops.toArray Q rest a' w')→wpListIn (fen ro) m P ops.toArray Q (l++rest) a w
 | [],_,s,η,a,w,K,h,hK,rest,hQ=>hQ s η a w hK h
 | o::r,hd,s,η,a,w,K,h,hK,rest,hQ=>by
  unfold J7 at hd;simp only [List.all_cons,Bool.and_eq_true] at hd;have hdo:∀ i,o.dst=some i→i<n:=fun i hi=>by have:=hd.1; rw [hi] at this; simpa using this
  have hdr:J7 n r=true:=hd.2;rw [List.cons_append];unfold wpListIn;unfold a6S at hK;exact a4o hT hdo h hK fun e η' a' w' he hr=>a8y hT r hdr _ η' a' w' K hr he rest hQ
end
/-! ### Code -/
def b2V (n:Nat) (ds:List Deferred) (L0:Nat→Prop) (w0:Old) (Q:Exit→ASt→Prop):Exit→Act→World→Prop:=fun e a w=>∃ A0 η s,Q e s∧Rel n ds A0 L0 w0 η s a w
def AW (P:Program) (ro:Option Nat) (n:Nat) (c:Code) (Q:Exit→ASt→Prop) (s:ASt):Prop :=
 ∀ (m:Nat) (ds:List Deferred) (A0 L0:Nat→Prop) (w0:Old) (η:Nat→Value) (a:Act) (w:World),w0.rd.map (·.1)=ro→Rel n ds A0 L0 w0 η s a w→c.wpIn (fen ro) m P (b2V n ds L0 w0 Q) a w
def Wk (n:Nat) (s s':ASt):Prop :=
 ∀ (ds:List Deferred) (A0 L0:Nat→Prop) (w0:Old) (η:Nat→Value) (a:Act) (w:World),Rel n ds A0 L0 w0 η s a w→∃ η',Rel n ds A0 L0 w0 η' s' a w
def a3i (K:ASt→Prop) (Q:Exit→ASt→Prop):Exit→ASt→Prop
 | .normal,s=>K s
 | e,s=>Q e s
def a5w (id:Nat) (Q:Exit→ASt→Prop):Exit→ASt→Prop
 | .exit id',s=>if id'=id then Q .normal s else Q (.exit id') s
 | e,s=>Q e s
section
variable {P:Program} {T:Tab} {ro:Option Nat} {n:Nat} {Q:Exit→ASt→Prop} {s s':ASt}
theorem AW.weaken {c:Code} (hw:Wk n s s') (h:AW P ro n c Q s'):AW P ro n c Q s:=by
 intro m ds A0 L0 w0 η a w hq0 hr;obtain ⟨η',hr'⟩:=hw ds A0 L0 w0 η a w hr;exact h m ds A0 L0 w0 η' a w hq0 hr'
theorem AW.mono {c:Code} {Q':Exit→ASt→Prop} (h:AW P ro n c Q s) (hq:∀ e s,Q e s→Q' e s):AW P ro n c Q' s:=by
 intro m ds A0 L0 w0 η a w hq0 hr;exact wpIn_mono (h m ds A0 L0 w0 η a w hq0 hr) fun e a w ⟨A1,η,s,hQ,hR⟩=>⟨A1,η,s,hq e s hQ,hR⟩
def AO (P:Program) (ro:Option Nat) (n:Nat) (ops l:List Oper) (Q:Exit→ASt→Prop) (s:ASt):Prop :=
 ∀ (m:Nat) (ds:List Deferred) (A0 L0:Nat→Prop) (w0:Old) (η:Nat→Value) (a:Act) (w:World),w0.rd.map (·.1)=ro→Rel n ds A0 L0 w0 η s a w→wpListIn (fen ro) m P ops.toArray (b2V n ds L0 w0 Q) l a w
theorem AW.ops {id:Nat} {l:List Oper} (h:AO P ro n l l Q s):AW P ro n (.region id l.toArray false) Q s :=
 fun m ds A0 L0 w0 η a w hq0 hr=>wpIn_region_lit (h m ds A0 L0 w0 η a w hq0 hr)
theorem AO.nil {ops:List Oper} (h:Q .normal s):AO P ro n ops [] Q s:=fun _ _ A0 _ _ η _ _ _ hr=>⟨A0,η,s,h,hr⟩
theorem AO.weaken {ops l:List Oper} (hw:Wk n s s') (h:AO P ro n ops l Q s'):AO P ro n ops l Q s:=by
 intro m ds A0 L0 w0 η a w hq0 hr;obtain ⟨η',hr'⟩:=hw ds A0 L0 w0 η a w hr;exact h m ds A0 L0 w0 η' a w hq0 hr'
theorem AO.seg (hT:z5 P T) (k:Nat) {ops l:List Oper} (hd:J7 n (l.take k)=true) (s':ASt) (h:a6S P T ops (l.take k) s fun s''=>Wk n s'' s') (h2:AO P ro n ops (l.drop k) Q s'):AO P ro n ops l Q s:=by
 intro m ds A0 L0 w0 η a w hq0 hr;have:=a8y (ro:=ro) (m:=m) (Q:=b2V n ds L0 w0 Q) hT _ hd s η a w _ hr h (l.drop k) (fun s'' η' a' w' hK hR=>AO.weaken hK h2 m ds A0 L0 w0 η' a' w' hq0 hR)
 rwa [List.take_append_drop] at this
theorem AW.seq {x y:Code} (h:AW P ro n x (a3i (AW P ro n y Q) Q) s):AW P ro n (.seq x y) Q s:=by
 intro m ds A0 L0 w0 η a w hq0 hr;refine wpIn_seq (wpIn_mono (h m ds A0 L0 w0 η a w hq0 hr) fun e a w ⟨A1,η,s,hQ,hR⟩=>?_)
 cases e with
 | normal=>exact hQ m ds A1 L0 w0 η a w hq0 hR
 | _=>exact ⟨A1,η,s,hQ,hR⟩
theorem AW.cond {c:Operand} {x y:Code} {b:Bool} (hc:s.ev c=.bool b) (ht:b=true→AW P ro n x Q s) (hf:b=false→AW P ro n y Q s):AW P ro n (.cond c x y) Q s:=by
 intro m ds A0 L0 w0 η a w hq0 hr;have:=hr.ev c;rw [hc] at this;unfold d9 at this;exact wpIn_cond_split this (fun e=>ht e m ds A0 L0 w0 η a w hq0 hr) (fun e=>hf e m ds A0 L0 w0 η a w hq0 hr)
theorem AW.block {id:Nat} {c:Code} (h:AW P ro n c (a5w id Q) s):AW P ro n (.block id c) Q s:=by
 intro m ds A0 L0 w0 η a w hq0 hr;refine wpIn_block (wpIn_mono (h m ds A0 L0 w0 η a w hq0 hr) fun e a w ⟨A1,η,s,hQ,hR⟩=>?_)
 cases e with
 | exit id' =>
  simp only [a5w] at hQ;simp only [Exit.inBlock]
  split at hQ
  ·rename_i e; subst e; simp only [if_true]; exact ⟨A1,η,s,hQ,hR⟩
  ·rename_i e; simp only [e,if_false]; exact ⟨A1,η,s,hQ,hR⟩
 | _=>exact ⟨A1,η,s,hQ,hR⟩
theorem AW.skip (h:Q .normal s):AW P ro n .skip Q s:=fun _ _ A0 _ _ η _ _ _ hr=>wpIn_skip ⟨A0,η,s,h,hr⟩
theorem AW.exit {id:Nat} (h:Q (.exit id) s):AW P ro n (.exit id) Q s:=fun _ _ A0 _ _ η _ _ _ hr=>wpIn_exit ⟨A0,η,s,h,hr⟩
theorem AW.ret (h:Q .ret s):AW P ro n .ret Q s:=fun _ _ A0 _ _ η _ _ _ hr=>wpIn_ret ⟨A0,η,s,h,hr⟩
theorem AW.loop {c:Code} {ι:Type} (inv:ι→ASt) (ok:ι→Prop) (μ:ι→Nat) (x0:ι) (h0:Wk n s (inv x0)) (hok:ok x0)
  (round:∀ x,ok x→AW P ro n c (a3i (fun s''=>∃ y,ok y∧μ y<μ x∧Wk n s'' (inv y)) Q) (inv x)):AW P ro n (.loop c) Q s:=by
 refine AW.weaken h0 ?_;intro m ds A0 L0 w0 η a w hq0 hr b k cs hro hb hrm;have key:∀ j x,μ x=j→ok x→∀ A0 η a w,Rel n ds A0 L0 w0 η (inv x) a w →
   ∃ e a' w',b2V n ds L0 w0 Q e a' w'∧ArrivesIn (Machine.fenced P (fen ro)) P (lone (b.atR a (.code c::.inLoop c::k)) cs w) b k cs e a' w':=by
  intro j
  induction j using Nat.strongRecOn with
  | _ j ih =>
   intro x hn hx A0 η a w hI;obtain ⟨e,a₁,w₁,⟨A₁,η₁,s₁,hq,hR⟩,harr⟩:=round x hx m ds A0 L0 w0 η a w hq0 hI b (.inLoop c::k) cs hro hb hrm
   cases e with
   | normal =>
    obtain ⟨y,hy,hlt,hwk⟩:=hq;obtain ⟨η₂,hR₂⟩:=hwk ds A₁ L0 w0 η₁ a₁ w₁ hR;obtain ⟨e₂,a₂,w₂,hq₂,harr₂⟩:=ih (μ y) (hn▸hlt) y rfl hy A₁ η₂ a₁ w₁ hR₂;exact ⟨e₂,a₂,w₂,hq₂,.of_steps (StepsIn.trans harr (.one (fenced_calm hb hrm rfl) stepR_inLoop)) harr₂⟩
   | exit id=>exact ⟨_,a₁,w₁,⟨A₁,η₁,s₁,hq,hR⟩,.pass (x:=.inLoop c) rfl (fun _ _=>.inl (by simp)) harr⟩
   | goto l=>exact ⟨_,a₁,w₁,⟨A₁,η₁,s₁,hq,hR⟩,.pass (x:=.inLoop c) rfl (fun _ _=>.inl (by simp)) harr⟩
   | ret=>exact ⟨_,a₁,w₁,⟨A₁,η₁,s₁,hq,hR⟩,.pass (x:=.inLoop c) rfl (fun _ _=>.inl (by simp)) harr⟩
   | panic ch=>exact ⟨_,a₁,w₁,⟨A₁,η₁,s₁,hq,hR⟩,.pass (x:=.inLoop c) rfl (fun _ _=>.inl (by simp)) harr⟩
   | outgrown=>exact ⟨_,a₁,w₁,⟨A₁,η₁,s₁,hq,hR⟩,.pass (x:=.inLoop c) rfl (fun _ _=>.inl (by simp)) harr⟩
 obtain ⟨e,a',w',hq,harr⟩:=key _ x0 rfl hok A0 η a w hr;exact ⟨e,a',w',hq,.of_steps (.one (fenced_calm hb hrm rfl) stepR_loop) harr⟩
theorem Wk.leG (D N:List Nat) (ρ:Nat→Nat) {h':List (Nat×ABlk)} (hs:s'.H=b6 h') (hg:s'.g=s.g) (ok:E3 ρ D N h'=true) (hσ:∀ i,LeV s.H D N ρ (s.σ i) (s'.σ i)) (hH:LeH s.H D N ρ h'):Wk n s s':=by
 intro ds A0 L0 w0 η a w hr;have hn:=a1J ok;have hnh:=a1K ok;have hlive:∀ g,p9 (M6 η N ρ) (b6 h') g→p9 η s.H g:=fun g hg=>by
  obtain ⟨c,B,B0,_,_,k3,k4,_,k6⟩:=a2n hH hg;exact ⟨_,B0,k3,k4,k6⟩
 obtain ⟨r1,r2,_⟩:=a8i (A1:=A0) hr.hp hn hH (fun g hg=>(hr.hp.av g hg).1) (fun g hg=>.inl hg) (fun g b e t xs hg hb _ hbl=>(hr.hp.av g hg).2 ⟨b,_,hb,rfl,hbl⟩) (fun g hg hl=>(hr.hp.av g hg).2 (hlive g hl)) (.inl (a2m ok));refine ⟨M6 η N ρ,hr.size,hr.few,fun b hb hsm=>?_,fun i=>?_,by rw [hs]; exact r1,hr.fr,fun g hg=>hr.old g (hlive g (by rw [← hs]; exact hg)),a1N hr.gh hr.hp hg (Turns.refl _ _) fun g hg=>.inl (hlive g (by rw [← hs]; exact hg))⟩
 ·rw [hs] at hsm;obtain ⟨B,hB⟩:=Option.isSome_iff_exists.1 hsm;rcases LeH.get hH hB with ⟨hc,_⟩|⟨hc,B0,hB0,_⟩
  ·exact absurd hb (hnh.nil b B hB hc)
  ·have e:=hnh.hand b B hB hc hb;have:M6 η N ρ b=η b:=by
    unfold M6;rw [hc,e]; simp
   rw [this];rw [e] at hB0;exact hr.hd b hb (by rw [hB0]; rfl)
 ·rw [hs]; exact r2 _ _ _ (hσ i) (hr.tmp i)
end
/-! ### States written out -/
def fr:List (Nat×AVal)→Nat→AVal
 | [],_=>.un
 | (j,v)::r,i=>if i=j then v else fr r i
def b1w (s:ASt):List (Nat×AVal)→Prop
 | []=>True
 | (i,v)::r=>s.σ i=v∧b1w s r
def b3j (s:ASt):List (Nat×ABlk)→Prop
 | []=>True
 | (b,B)::r=>s.H b=some B∧b3j s r
def leF (s:ASt) (D N:List Nat) (ρ:Nat→Nat):List (Nat×AVal)→Prop
 | []=>True
 | (i,v)::r=>LeV s.H D N ρ (s.σ i) v∧leF s D N ρ r
theorem LeV.toUn (H:l3) (D N:List Nat) (ρ:Nat→Nat) (x:AVal):LeV H D N ρ x .un:=by
 cases x<;>unfold LeV<;>trivial
theorem b2r {s:ASt} {D N:List Nat} {ρ:Nat→Nat}:∀ {l:List (Nat×AVal)},leF s D N ρ l→∀ i,LeV s.H D N ρ (s.σ i) (fr l i)
 | [],_,i=>LeV.toUn _ _ _ _ _
 | (j,v)::r,h,i=>by
  unfold fr
  split
  ·rename_i e; subst e; exact h.1
  ·exact b2r h.2 i
theorem Wk.le {n:Nat} {s:ASt} (D N:List Nat) (rn:List (Nat×Nat)) {l:List (Nat×AVal)} {h:List (Nat×ABlk)} (ok:E3 (g6 rn) D N h=true) (hl:leF s D N (g6 rn) l) (hh:LeH s.H D N (g6 rn) h):Wk n s ⟨fr l,b6 h,s.g⟩ :=
 Wk.leG D N (g6 rn) rfl rfl ok (b2r hl) hh
def fits (l:List (Nat×AVal)) (h:List (Nat×ABlk)) (g:Gh) (s:ASt):Prop:=b1w s l∧b3j s h∧s.g=g
theorem a6K {s:ASt}:∀ {l:List (Nat×AVal)},b1w s l→∀ i,fr l i=.un∨fr l i=s.σ i
 | [],_,i=>.inl rfl
 | (j,v)::r,h,i=>by
  unfold fr
  split
  ·rename_i e; subst e; exact .inr h.1.symm
  ·exact a6K h.2 i
theorem a9s {s:ASt}:∀ {l:List (Nat×ABlk)},b3j s l→∀ b B,b6 l b=some B→s.H b=some B
 | [],_,b,B,h=>by cases h
 | (c,C)::r,h,b,B,hb=>by
  unfold b6 at hb
  split at hb
  ·rename_i e; subst e; injection hb with hb; subst hb; exact h.1
  ·exact a9s h.2 b B hb
theorem Wk.to {n:Nat} {s:ASt} {l:List (Nat×AVal)} {h:List (Nat×ABlk)} {g:Gh} (hf:fits l h g s):Wk n s ⟨fr l,b6 h,g⟩:=by
 intro ds A0 L0 w0 η a w hr;have hH:=a9s hf.2.1;have hσ:=a6K hf.1;have hL:∀ g,p9 η (b6 h) g→p9 η s.H g:=fun g ⟨b,B,h1,h2,h3⟩=>⟨b,B,hH b B h1,h2,h3⟩;have k:Keeps (Av A0 η s.H) (Av A0 η (b6 h)) w w:=⟨Nat.le_refl _,fun _ _ _=>rfl,fun g _ hA=>hA.imp id (hL g)⟩;refine ⟨η,hr.size,hr.few,fun b hb hs=>?_,fun i=>?_,⟨fun b B hb=>?_,fun b b' B B' g hb hb'=>hr.hp.inj b b' B B' g (hH _ _ hb) (hH _ _ hb'),fun g hg=>⟨(hr.hp.av g hg).1,fun hl=>(hr.hp.av g hg).2 (hL g hl)⟩⟩,hr.fr,fun g hg=>hr.old g (hL g hg),a1N hr.gh hr.hp hf.2.2.symm (Turns.refl _ _) fun g hg=>.inl (hL g hg)⟩
 ·obtain ⟨B,hB⟩:=Option.isSome_iff_exists.1 hs;exact hr.hd b hb (by rw [hH b B hB]; rfl)
 ·rcases hσ i with h1|h1
  ·show d9 η w _ (fr l i) _;rw [h1]; unfold d9; trivial
  ·show d9 η w _ (fr l i) _;rw [h1]; exact d9.step k _ _ (fun _ _=>rfl) (hr.tmp i)
 ·have:=r6.step (K:=[]) k (fun _ _=>rfl) (fun g _ _=>rfl) (hr.hp.blk b B (hH b B hb))
  rwa [z9] at this
/-! ### Whole functions -/
def a1W (k:Nat):List AVal→List (Nat×AVal)
 | []=>[]
 | x::l=>(k,x)::a1W (k+1) l
theorem a53:∀ (l:List AVal) (k i:Nat),fr (a1W k l) i=if i<k then .un else l.getD (i - k) .un
 | [],k,i=>by simp [a1W,fr]
 | x::l,k,i=>by
  unfold a1W fr
  by_cases h:i=k
  ·subst h; simp
  ·rw [if_neg h,a53 l (k+1) i]
   by_cases h2:i<k
   ·rw [if_pos h2,if_pos (by omega)]
   ·rw [if_neg h2,if_neg (by omega),show i - k=(i - (k+1))+1 by omega];simp
def b2O (T:Tab) (s:ASt):List ResultVar→List AVal→Prop
 | [],xs=>xs=[]
 | .tmp t::r,xs=>∃ ys,xs=s.σ t::ys∧b2O T s r ys
 | .cell p t::r,xs=>∃ x ys,xs=x::ys∧M7 T s t (s.σ p) (fun e=>e.v=x)∧b2O T s r ys
def a44 (T:Tab) (s:ASt):List ResultVar→(List AVal→Prop)→Prop
 | [],K=>K []
 | .tmp t::r,K=>a44 T s r fun ys=>K (s.σ t::ys)
 | .cell p t::r,K=>M7 T s t (s.σ p) fun e=>a44 T s r fun ys=>K (e.v::ys)
theorem b3O {T:Tab} {s:ASt} {K:Eff→Prop} {t:TypeId} {x:AVal} (h:M7 T s t x K):∃ e,M7 T s t x (fun y=>y=e)∧K e:=by
 unfold M7 at *
 (repeat' split at h)<;>first|exact h.elim|((repeat (obtain ⟨_,h⟩:=h))<;>subst_vars<;>refine ⟨_,?_,h⟩<;>first|(simp only [*]; done)|(simp only [*,and_self]; done)|(simp only [*]; repeat' apply And.intro)<;>first|trivial|assumption|(simp; done))
theorem b3N {T:Tab} {s:ASt} {K K':Eff→Prop} {t:TypeId} {x:AVal} (hk:∀ e,K e→K' e) (h:M7 T s t x K):M7 T s t x K':=by
 unfold M7 at *
 (repeat' split at h)<;>first|exact h.elim|((repeat (obtain ⟨_,h⟩:=h))<;>subst_vars<;>have hk2:=hk _ h<;>first|exact hk2|((repeat' apply And.intro)<;>assumption)|(simp only [*]; done)|(simp only [*,and_self]; done)|(simp only [*]; repeat' apply And.intro)<;>first|trivial|assumption|(simp; done))
theorem a5t {T:Tab} {s:ASt}:∀ {rs:List ResultVar} {K:List AVal→Prop},a44 T s rs K→∃ xs,b2O T s rs xs∧K xs
 | [],K,h=>⟨[],rfl,h⟩
 | .tmp t::r,K,h=>by
  obtain ⟨ys,h1,h2⟩:=a5t (rs:=r) h;exact ⟨_,⟨ys,rfl,h1⟩,h2⟩
 | .cell p t::r,K,h=>by
  unfold a44 at h;obtain ⟨e,h1,h2⟩:=b3O h;obtain ⟨ys,h3,h4⟩:=a5t (rs:=r) h2;exact ⟨_,⟨e.v,ys,rfl,b3N (fun y hy=>by rw [hy]) h1,h3⟩,h4⟩
def one:List AVal→AVal
 | [x]=>x
 | xs=>.tup xs
def b8E (T:Tab) (res:List ResultVar) (hout:List (Nat×ABlk)) (r:AVal):Exit→ASt→Prop
 | .normal,s=>s.g=gt∧∃ (D N:List Nat) (rn:List (Nat×Nat)),E3 (g6 rn) D N hout=true∧a44 T s res fun xs=>LeV s.H D N (g6 rn) (one xs) r∧LeH s.H D N (g6 rn) hout
 | .ret,s=>s.g=gt∧∃ (D N:List Nat) (rn:List (Nat×Nat)),E3 (g6 rn) D N hout=true∧a44 T s res fun xs=>LeV s.H D N (g6 rn) (one xs) r∧LeH s.H D N (g6 rn) hout
 | _,_=>False
section
variable {P:Program} {T:Tab} {n:Nat} {ds:List Deferred} {A0 L0:Nat→Prop} {w0:Old} {η:Nat→Value} {s:ASt} {a:Act} {w:World}
def a76 (tmps:Array Value):ResultVar→Sem Value
 | .tmp t=>pure (tmps.getD t undef)
 | .cell p t=>do loadVar t (← asAddr (tmps.getD p undef))
theorem a75 (fn:Func) (tmps:Array Value):results fn tmps=(do let vs←fn.results.mapM (a76 tmps); pure (if h:vs.size=1 then vs[0] else .tuple vs)):=by
 unfold results;congr 1
theorem a9U (hT:z5 P T) (h:Rel n ds A0 L0 w0 η s a w):∀ (rs:List ResultVar) (xs:List AVal),b2O T s rs xs →
  ∃ vs:List Value,(rs.mapM (a76 a.tmps)).run P w=.ok vs w∧d6 η w (Av A0 η s.H) xs vs
 | [],xs,hx=>by
  unfold b2O at hx;subst hx;exact ⟨[],by simp,d6.nil⟩
 | .tmp t::rs,xs,hx=>by
  unfold b2O at hx;obtain ⟨ys,rfl,hy⟩:=hx;obtain ⟨vs,hr,hv⟩:=a9U hT h rs ys hy;exact ⟨a.tmps.getD t undef::vs,by simp only [List.mapM_cons,a76,Sem.run_bind,Sem.run_pure,Result.andThen_ok,hr],d6.cons (h.tmp t) hv⟩
 | .cell p t::rs,xs,hx=>by
  unfold b2O at hx;obtain ⟨x,ys,rfl,hx,hy⟩:=hx;obtain ⟨vs,hr,hv⟩:=a9U hT h rs ys hy;obtain ⟨e,u,w',η',he,hrun,hrel⟩:=a63 hT h (d:=none) (fun i hi=>by cases hi) (h.tmp p) hx
  -- the load leaves the world alone
  have hld:(Instr.loadAt t (a.tmps.getD p undef)).run P w=.ok u w∧d9 η w (Av A0 η s.H) x u:=by
   have:∃ u2,(Instr.loadAt t (a.tmps.getD p undef)).run P w=.ok u2 w∧d9 η w (Av A0 η s.H) x u2:=by
    have hxp:=h.tmp p;unfold M7 at hx
    cases ht:T t with
    | none=>simp [ht] at hx
    | some i =>
     have hti:=hT t i ht;simp only [ht] at hx
     cases hsp:s.σ p<;>simp only [hsp] at hx
     case bp b off =>
      rw [hsp] at hxp;generalize a.tmps.getD p undef=xv at *;unfold d9 at hxp;obtain ⟨g,hη,rfl⟩:=hxp
      cases hb:s.H b with
      | none=>simp [hb] at hx
      | some B =>
       cases B<;>simp only [hb] at hx
       case box ty cs =>
        obtain ⟨h1,h2,hK⟩:=hx;subst hK;obtain ⟨g',vs,e1,e2,e3⟩:=h.hp.blk b _ hb;rw [hη] at e1;injection e1 with e1;injection e1 with e1;injection e1 with e1;subst e1;have hl:=e3.length;refine ⟨_,F8 (vs:=(vs.toList.drop off).take i.size) hti (by simp; simp at hl; omega) h2 fun j v hj=>?_,a01 ((e3.drop off).take i.size)⟩;have:=S9 hj;simp [World.cell?,e2]
        simpa using this
     case dp τ y off =>
      rw [hsp] at hxp;generalize a.tmps.getD p undef=xv at *;unfold d9 at hxp;obtain ⟨g,o,rfl,_,_,hat⟩:=hxp;obtain ⟨h1,h2,hK⟩:=hx;subst hK;obtain ⟨vs,hc,hr⟩:=i9.cells η τ y g o hat;have hl:=hr.length;rw [m4] at hl;refine ⟨_,F8 (vs:=(vs.drop off).take i.size) hti (by simp; omega) h2 fun j v hj=>?_,a01 ((hr.drop off).take i.size)⟩;have:=hc _ v (S9 hj)
      rwa [← Nat.add_assoc] at this
     case ap b sz j off =>
      rw [hsp] at hxp;generalize a.tmps.getD p undef=xv at *;unfold d9 at hxp;obtain ⟨g,n',c,hη,rfl⟩:=hxp
      cases hb:s.H b with
      | none=>simp [hb] at hx
      | some B =>
       cases B<;>simp only [hb] at hx
       case arr e τ xs =>
        obtain ⟨rfl,h1,h2,hj,hK⟩:=hx;subst hK;obtain ⟨cur,_,_,_,_,hat⟩:=b3v h.hp hb hη;have hxj:xs[j]?=some (xs.getD j τ.dflt):=by simp [List.getD,hj]
        obtain ⟨vs,hc,hr⟩:=i9.cells η τ _ g _ (hat j _ hxj);have hl:=hr.length;rw [m4] at hl;refine ⟨_,F8 (vs:=(vs.drop off).take i.size) hti (by simp; omega) h2 fun k v hk=>?_,a01 ((hr.drop off).take i.size)⟩;have:=hc _ v (S9 hk)
        rwa [← Nat.add_assoc] at this
       case obx e cs =>
        obtain ⟨rfl,rfl,h1,h2,hj,hK⟩:=hx;subst hK;have hy:cs[j]?=some (cs.getD j .un):=by simp [List.getD,hj]
        rcases h.hp.blk b _ hb with ⟨e1,_⟩|⟨gg',cap,vs,e1,e2,e3,e4,e5,e6⟩
        ·rw [e1] at hy; cases hy
        rw [hη] at e1;injection e1 with e1 _ _;injection e1 with e1;injection e1 with e1;subst e1;obtain ⟨v,hv,hrep⟩:=d6.get e6 hy;have hv':vs[j]?=some v:=by
         rw [List.getElem?_take_of_lt hj] at hv;simpa using hv
        have hp:a2V i.desc [v]=v:=by unfold a2V; rw [h2]; rfl
        have hrun:=F8 (P:=P) hti (w:=w) (g:=g) (o:=j*1+0) (vs:=[v]) (by rw [h1]; rfl) (.inr h1) (fun p u hp=>by
         cases p with
         | zero=>simp at hp; subst hp; simp [World.cell?,e2,hv']
         | succ p=>simp at hp)
        rw [hp] at hrun;exact ⟨v,hrun,hrep⟩
   obtain ⟨u2,h1,h2⟩:=this;rw [h1] at hrun;injection hrun with e1 e2;subst e1;exact ⟨h1,h2⟩
  have hl2:(a76 a.tmps (.cell p t)).run P w=.ok u w:=by
   unfold a76;simp only;have:=hld.1;generalize a.tmps.getD p undef=xv at this ⊢;unfold Instr.loadAt at this;unfold Instr.sureAddr at this
   split at this
   ·simp only [Sem.run_bind,Sem.run_pure,Result.andThen_ok] at this;simp [asAddr,this]
   ·simp at this
  exact ⟨u::vs,by rw [List.mapM_cons,Sem.run_bind,hl2]; simp only [Sem.run_bind,Sem.run_pure,Result.andThen_ok,hr],d6.cons hld.2 hv⟩
theorem b7Q {A:Nat→Prop} {xs:List AVal} {vs:List Value} (h:d6 η w A xs vs):d9 η w A (one xs) (if hs:vs.toArray.size=1 then vs.toArray[0] else .tuple vs.toArray):=by
 cases xs with
 | nil =>
  unfold d6 at h;subst h;simp only [one,List.size_toArray,List.length_nil,Nat.zero_ne_one,dite_false];unfold d9;exact ⟨_,rfl,d6.nil⟩
 | cons x xs =>
  unfold d6 at h;obtain ⟨u,us,rfl,hx,hl⟩:=h
  cases xs with
  | nil =>
   unfold d6 at hl;subst hl;exact hx
  | cons y ys =>
   have hl':=hl;unfold d6 at hl';obtain ⟨u2,us2,rfl,_,_⟩:=hl';have e1:one (x::y::ys)=.tup (x::y::ys):=rfl;rw [e1,dif_neg (by simp)];unfold d9;exact ⟨_,rfl,d6.cons hx hl⟩
end
/-! ### What is no row of cells may turn -/
def a3w:Obj→Bool
 | .cells _ _ _=>true
 | .map _ _=>true
 | _=>false
theorem a0J {A:Nat→Prop} {w w':World} (hs:w.heap.size≤w'.heap.size) (hc:∀ (g:Nat) ob,w.heap[g]?=some ob→a3w ob=true→w'.heap[g]?=w.heap[g]?):∀ (t:Ty) (x:El t) (b o:Nat),i9 w A t x b o→i9 w' A t x b o:=by
 have hcell:∀ (b o:Nat) (v:Value),w.cell? ⟨b,o,none⟩=some v→w'.cell? ⟨b,o,none⟩=some v:=by
  intro b o v h;have:w'.heap[b]?=w.heap[b]?:=by
   unfold World.cell? at h;simp only at h
   split at h
   ·rename_i e; exact hc _ _ e rfl
   ·cases h
  rw [a4M this]; exact h
 intro t
 induction t with
 | int k=>intro x b o h; unfold i9 at h ⊢; exact hcell _ _ _ h
 | bool=>intro x b o h; unfold i9 at h ⊢; exact hcell _ _ _ h
 | unit=>intro x b o h; unfold i9; trivial
 | pair s t ih1 ih2=>intro x b o h; unfold i9 at h ⊢; exact ⟨ih1 _ _ _ h.1,ih2 _ _ _ h.2⟩
 | sl t ih =>
  intro xs b o h;unfold i9 at h ⊢;obtain ⟨a,c,h1,h2⟩:=h;exact ⟨a,c,hcell _ _ _ h1,h2.step hs (fun _ _ h=>h) fun x b' o' _ _ hx=>ih x b' o' hx⟩
mutual
theorem a4A {η:Nat→Value} {A:Nat→Prop} {w w':World} (hs:w.heap.size≤w'.heap.size) (hc:∀ (g:Nat) ob,w.heap[g]?=some ob→a3w ob=true→w'.heap[g]?=w.heap[g]?):∀ (x:AVal) (v:Value),d9 η w A x v→d9 η w' A x v
 | .un,v,_=>by unfold d9; trivial
 | .int _ _,v,h=>by unfold d9 at *; exact h
 | .bool _,v,h=>by unfold d9 at *; exact h
 | .sl t xs,v,h=>by
  unfold d9 at *;obtain ⟨a,c,hv,hb⟩:=h;exact ⟨a,c,hv,hb.step hs (fun _ _ h=>h) fun x b' o' _ _ hx=>a0J hs hc t x b' o' hx⟩
 | .cut t xs,v,h=>by
  unfold d9 at *;obtain ⟨a,hv,hb⟩:=h;exact ⟨a,hv,hb.step hs (fun _ _ h=>h) fun x b' o' _ _ hx=>a0J hs hc t x b' o' hx⟩
 | .own b,v,h=>by unfold d9 at *; exact h
 | .bp b _,v,h=>by unfold d9 at *; exact h
 | .ap b _ _ _,v,h=>by unfold d9 at *; exact h
 | .vw b _ _ _,v,h=>by unfold d9 at *; exact h
 | .one,v,h=>by unfold d9 at *; exact h
 | .dp t x off,v,h=>by
  unfold d9 at *;obtain ⟨g,o,hv,hg,hn,hx⟩:=h;exact ⟨g,o,hv,Nat.lt_of_lt_of_le hg hs,hn,a0J hs hc t x g o hx⟩
 | .cv _,v,h=>by unfold d9 at *; exact h
 | .agg l,v,h=>by
  unfold d9 at *;obtain ⟨vs,hv,hl⟩:=h;exact ⟨vs,hv,a0g hs hc l _ hl⟩
 | .tup l,v,h=>by
  unfold d9 at *;obtain ⟨vs,hv,hl⟩:=h;exact ⟨vs,hv,a0g hs hc l _ hl⟩
 | .fn f p c,v,h=>by
  unfold d9 at *;obtain ⟨ps,cs,hv,hp,hq⟩:=h;exact ⟨ps,cs,hv,a0g hs hc p _ hp,a0g hs hc c _ hq⟩
theorem a0g {η:Nat→Value} {A:Nat→Prop} {w w':World} (hs:w.heap.size≤w'.heap.size) (hc:∀ (g:Nat) ob,w.heap[g]?=some ob→a3w ob=true→w'.heap[g]?=w.heap[g]?):∀ (l:List AVal) (vs:List Value),d6 η w A l vs→d6 η w' A l vs
 | [],vs,h=>by unfold d6 at *; exact h
 | x::l,vs,h=>by
  unfold d6 at *;obtain ⟨u,us,hv,hx,hl⟩:=h;exact ⟨u,us,hv,a4A hs hc x u hx,a0g hs hc l us hl⟩
end
theorem b2j {A:Nat→Prop} {w w':World} (hs:w.heap.size≤w'.heap.size) (hc:∀ (g:Nat) ob,w.heap[g]?=some ob→a3w ob=true→w'.heap[g]?=w.heap[g]?) {ae:Bool}:∀ {vt:Ty} {x:El vt} {v:Value},a3X w A ae vt x v→a3X w' A ae vt x v
 | .int _,_,_,h=>h
 | .bool,_,_,h=>h
 | .unit,_,_,h=>h
 | .pair _ _,_,_,h=>h
 | .sl t,_,_,h=>by
  obtain ⟨a,c,e,hb⟩:=h;exact ⟨a,c,e,hb.step hs (fun _ _ h=>h) fun x b' o' _ _ hx=>a0J hs hc t x b' o' hx⟩
theorem b3X {η:Nat→Value} {A:Nat→Prop} {w w':World} (hs:w.heap.size≤w'.heap.size) (hc:∀ (g:Nat) ob,w.heap[g]?=some ob→a3w ob=true→w'.heap[g]?=w.heap[g]?) {B:ABlk} {h:Value} (hr:r6 η w A B h):r6 η w' A B h:=by
 cases B with
 | box ty cs =>
  obtain ⟨g,vs,e,hw,hl⟩:=hr;exact ⟨g,vs,e,(hc _ _ hw rfl).trans hw,a0g hs hc cs _ hl⟩
 | obx e cs =>
  rcases hr with hn|⟨g,cap,vs,e1,hw,h1,h2,h3,h4⟩
  ·exact .inl hn
  ·exact .inr ⟨g,cap,vs,e1,(hc _ _ hw rfl).trans hw,h1,h2,h3,a0g hs hc cs _ h4⟩
 | arr e t xs =>
  rcases hr with hn|⟨g,cap,cur,e1,hw,h1,h2,h3,h4⟩
  ·exact .inl hn
  ·exact .inr ⟨g,cap,cur,e1,(hc _ _ hw rfl).trans hw,h1,h2,h3,fun i x hi=>a0J hs hc t x g _ (h4 i x hi)⟩
 | imm t xs =>
  obtain ⟨a,c,e,hb⟩:=hr;exact ⟨a,c,e,hb.step hs (fun _ _ h=>h) fun x b' o' _ _ hx=>a0J hs hc t x b' o' hx⟩
 | map ak ae kt vt xs =>
  obtain ⟨g,es,c,e,hw,hm,hm2⟩:=hr;exact ⟨g,es,c,e,(hc _ _ hw rfl).trans hw,⟨hm.1,fun i e p he hp=>b2j hs hc (hm.2 i e p he hp)⟩,hm2⟩
theorem a6r {A0:Nat→Prop} {η:Nat→Value} {H:l3} {w w':World} (hs:w.heap.size≤w'.heap.size) (hc:∀ (g:Nat) ob,w.heap[g]?=some ob→a3w ob=true→w'.heap[g]?=w.heap[g]?) (h:RelH A0 η H w):RelH A0 η H w' :=
 ⟨fun b B hb=>b3X hs hc (h.blk b B hb),h.inj,fun g hg=>⟨Nat.lt_of_lt_of_le (h.av g hg).1 hs,(h.av g hg).2⟩⟩
section
variable {P:Program} {T:Tab} {n:Nat} {ds:List Deferred} {A0 L0:Nat→Prop} {w0:Old} {η:Nat→Value} {s:ASt} {a:Act} {w:World}
theorem a9Z {M:Nat} (h:w.heap[M]?=some (.deferred (some []))) (o:Obj):∀ (g:Nat) ob,w.heap[g]?=some ob→a3w ob=true→(w.putObj M o).heap[g]?=w.heap[g]?:=by
 intro g ob hg hr;refine World.putObj_heap_other ?_
 rintro rfl
 rw [h] at hg; cases hg; cases hr
theorem Rel.shut {A1:Nat→Prop} {M:Nat} {Ms:List Nat} (h:Rel n [] A0 L0 w0 η s a w) (hn:(M::Ms).Nodup) (hM:∀ k∈M::Ms,w0.heap.size≤k∧¬ A1 k∧w.heap[k]?=some (.deferred (some [])))
  (hU:∀ g,A1 g→¬ w0.U g) (hR:a4w w0 w) (hA:∀ g,A0 g↔A1 g∨w0.U g∨g∈M::Ms) (hJ:s.g.J A1 (fun g=>p9 η s.H g∨w0.U g∨g∈M::Ms) w) (hy:if s.g.yl=true then ∀ g,A1 g→g<w0.heap.size→L0 g else A1=w0.A) :
  Rel n [] (fun g=>A1 g∨w0.U g∨g∈Ms) L0 w0 η s { a with defers:=Ms.map b1a } (w.putObj M (.deferred none))∧(∀ k∈Ms,w0.heap.size≤k∧¬ A1 k∧(w.putObj M (.deferred none)).heap[k]?=some (.deferred (some []))) ∧
   s.g.J A1 (fun g=>p9 η s.H g∨w0.U g∨g∈Ms) (w.putObj M (.deferred none)):=by
 have hc:=a9Z (hM M (by simp)).2.2 (.deferred none);have hs:w.heap.size≤(w.putObj M (.deferred none)).heap.size:=by simp
 have hM':∀ k∈Ms,w0.heap.size≤k∧¬ A1 k∧(w.putObj M (.deferred none)).heap[k]?=some (.deferred (some [])):=fun k hk=>⟨(hM k (by simp [hk])).1,(hM k (by simp [hk])).2.1,by
  rw [World.putObj_heap_other (fun e=>by subst e; exact (List.nodup_cons.1 hn).1 hk)]; exact (hM k (by simp [hk])).2.2⟩
 have hJ':s.g.J A1 (fun g=>p9 η s.H g∨w0.U g∨g∈Ms) (w.putObj M (.deferred none)):=by
  refine s.g.cl _ _ _ _ _ hJ ⟨rfl,rfl,rfl,hs,fun g _ hg=>World.putObj_heap_other fun e=>hg (by subst e; exact .inr (.inr (by simp)))⟩ fun g hg=>.inl ?_;rcases hg with hg|hg|hg
  ·exact .inl hg
  ·exact .inr (.inl hg)
  ·exact .inr (.inr (by simp [hg]))
 have hsub:∀ g,(A1 g∨w0.U g∨g∈Ms)→A0 g:=fun g hg=>(hA g).2 (by
  rcases hg with hg|hg|hg
  ·exact .inl hg
  ·exact .inr (.inl hg)
  ·exact .inr (.inr (by simp [hg])))
 have k:Keeps (Av A0 η s.H) (Av (fun g=>A1 g∨w0.U g∨g∈Ms) η s.H) (w.putObj M (.deferred none)) (w.putObj M (.deferred none)):=⟨Nat.le_refl _,fun _ _ _=>rfl,fun g _ hg=>hg.imp (hsub g) id⟩;have hp:=a6r hs hc h.hp;have hR':a4w w0 (w.putObj M (.deferred none)):=a36 hR fun q hq=>World.putObj_heap_other fun e=>by
  subst e; rw [(hM q (by simp)).2.2] at hq; obtain ⟨r,hq⟩:=hq; cases hq
 refine ⟨⟨h.size,h.few,h.hd,fun i=>d9.step k _ _ (fun _ _=>rfl) (a4A hs hc _ _ (h.tmp i)),⟨fun b B hb=>?_,h.hp.inj,fun g hg=>hp.av g (hsub g hg)⟩,⟨h.fr.os,h.fr.tape,h.fr.output,Nat.le_trans h.fr.size hs,?_⟩,h.old,⟨A1,Ms,by simp,(List.nodup_cons.1 hn).2,hM',hU,hR',fun g=>Iff.rfl,hJ',hy⟩⟩,hM',hJ'⟩
 ·have:=r6.step (K:=[]) (η':=η) (η:=η) k (fun _ _=>rfl) (fun _ _ _=>rfl) (hp.blk b B hb)
  rwa [z9] at this
 ·intro q hq hqL;rw [World.putObj_heap_other (fun e=>by subst e; have h1:w0.heap.size≤q:=(hM q (by simp)).1; have h2:q<w0.heap.size:=hq; omega)]; exact h.fr.heap q hq hqL
theorem a3u {F:Fence} {m:Nat} {fn:Func} {R:Ending→World→Prop} {tmps:Array Value} {A1:Nat→Prop} (hU:∀ g,A1 g→¬ w0.U g) (hy:if s.g.yl=true then ∀ g,A1 g→g<w0.heap.size→L0 g else A1=w0.A)
  (hend:∀ a' w',a'.tmps=tmps→Rel n [] (fun g=>A1 g∨w0.U g∨g∈([]:List Nat)) L0 w0 η s a' w'→s.g.J A1 (fun g=>p9 η s.H g∨w0.U g∨g∈([]:List Nat)) w'→∃ v,(results fn tmps).run P w'=.ok v w'∧R (.returned v) w') :
  ∀ (Ms:List Nat) (A0:Nat→Prop) (a':Act) (w':World),a'.tmps=tmps→Ms.Nodup→(∀ k∈Ms,w0.heap.size≤k∧¬ A1 k∧w'.heap[k]?=some (.deferred (some [])))→a4w w0 w' →
   (∀ g,A0 g↔A1 g∨w0.U g∨g∈Ms)→s.g.J A1 (fun g=>p9 η s.H g∨w0.U g∨g∈Ms) w'→Rel n [] A0 L0 w0 η s a' w'→LeavesInM F m P fn tmps R (Ms.map b1a) .returning w'
 | [],A0,a',w',e3,_,_,_,hA,hJ,hr=>by
  have e:A0=fun g=>A1 g∨w0.U g∨g∈([]:List Nat):=funext fun g=>propext (hA g);subst e;obtain ⟨v,h1,h2⟩:=hend a' w' e3 hr hJ;exact ⟨v,h1,h2⟩
 | M::Ms,A0,a',w',e3,hn,hM,hR,hA,hJ,hr=>by
  refine ⟨by simp,.inl ⟨M,_,rfl,run_takeDeferred (hM M (by simp)).2.2,?_⟩⟩;obtain ⟨h1,h2,h3⟩:=hr.shut hn hM hU hR hA hJ hy
  exact a3u hU hy hend Ms _ { a' with defers:=Ms.map b1a } _ e3 (List.nodup_cons.1 hn).2 h2 (a36 hR fun q hq=>World.putObj_heap_other fun e=>by
   subst e; rw [(hM q (by simp)).2.2] at hq; obtain ⟨r,hq⟩:=hq; cases hq) (fun _=>Iff.rfl) h3 h1
theorem HC.of_body (hT:z5 P T) {f:FuncId} {fn:Func} {c:Code} {hin hout:List (Nat×ABlk)} {l:List AVal} {r:AVal} {res:List ResultVar} (hf:P.funcs[f]?=some fn) (hb:fn.body=some c) (hname:(fn.name=="runtime.NumGoroutine")=false) (hres:fn.results=res.toArray)
  {nt:Nat} (hnt:fn.ntmps=nt) (hfew:nt≤1000) (hl:l.length≤nt) (h:AW P none nt c (b8E T res hout r) ⟨fr (a1W 0 l),b6 hin,gt⟩):HC P f hin l hout r:=by
 refine ⟨⟨fn,hf,by simp [hb],hname⟩,fun η A0 w vs hA hv=>?_⟩;subst hnt;have hlen:=hv.length;have hrel:Rel fn.ntmps [] A0 (p9 η (b6 hin)) { toWorld:=w,ηh:=η,A:=A0 } η ⟨fr (a1W 0 l),b6 hin,gt⟩ { tmps:=vs++Array.replicate (fn.ntmps - vs.size) undef,defers:=[] } w:=by
  refine ⟨by simp; simp at hlen; omega,hfew,fun b _ _=>rfl,fun i=>?_,hA,Fr.refl _ _,fun g hg _=>hg,⟨A0,[],rfl,List.nodup_nil,by simp,fun _ _ h=>h,(fun _ _ h=>by cases h),fun g=>by simp,trivial,rfl⟩⟩
  by_cases hi:i<l.length
  ·have hx:l[i]?=some l[i]:=by simp [hi]
   obtain ⟨v,hv1,hv2⟩:=hv.get hx;have e1:l.getD i .un=l[i]:=by simp [List.getD,hx]
   have hvi:vs[i]?=some v:=by simpa using hv1
   have e2:(vs++Array.replicate (fn.ntmps - vs.size) undef).getD i undef=v:=by
    rw [Array.getD_eq_getD_getElem?,Array.getElem?_append_left (Array.getElem?_eq_some_iff.1 hvi).1,hvi]; rfl
   show d9 η w (Av A0 η (b6 hin)) (fr (a1W 0 l) i) (Array.getD _ i undef);rw [a53,Nat.sub_zero,if_neg (by omega),e1,e2];exact hv2
  ·have:l.getD i .un=.un:=by simp [List.getD,List.getElem?_eq_none (Nat.le_of_not_lt hi)]
   show d9 η w (Av A0 η (b6 hin)) (fr (a1W 0 l) i) (Array.getD _ i undef);rw [a53,Nat.sub_zero,if_neg (by omega),this]; unfold d9; trivial
 have hwp:=h 0 [] A0 _ _ η _ w rfl hrel;have hwide:(fen none)=Fence.wide:=rfl;rw [hwide] at hwp;refine callsIn_wide.1 (callsIn_of_wp_marks (n:=0) hf hb trivial (wpIn_mono hwp ?_) rfl)
 rintro e a' w' ⟨A1,η',s',hQ,hR⟩
 have fin:(s'.g=gt∧∃ (D N:List Nat) (rn:List (Nat×Nat)),E3 (g6 rn) D N hout=true∧a44 T s' res fun xs=>LeV s'.H D N (g6 rn) (one xs) r∧LeH s'.H D N (g6 rn) hout) →
   LeavesInM Fence.wide 0 P fn a'.tmps (fun e w'=>∃ v0 η0,e=.returned v0∧Gave η A0 w hin hout r v0 η0 w') a'.defers .returning w':=by
  rintro ⟨hg,D,N,rn,hok,hk⟩
  obtain ⟨A2,Ms,hMs,hMn,hM,hU2,hRd,hA2,hJ,hA3⟩:=hR.gh;have hA4:A2=A0:=by have h6:=hA3; rw [hg] at h6; exact h6
  subst hA4;obtain ⟨xs,hx,hle,hlh⟩:=a5t hk;have hn:=a1J hok;have hnh:=a1K hok;rw [List.append_nil] at hMs;rw [hMs];refine a3u (s:=s') (η:=η') (w0:={ toWorld:=w,ηh:=η,A:=A2 }) (A1:=A2) hU2 hA3 ?_ Ms A1 a' w' rfl hMn hM hRd hA2 hJ hR;intro a2 w2 e3 hR2 _;obtain ⟨vs',hrun,hvs⟩:=a9U hT hR2 res xs hx;rw [e3] at hrun;have hlive:∀ g,p9 (M6 η' N (g6 rn)) (b6 hout) g→p9 η' s'.H g:=fun g hg=>by
   obtain ⟨c,B,B0,_,_,k3,k4,_,k6⟩:=a2n hlh hg;exact ⟨_,B0,k3,k4,k6⟩
  obtain ⟨r1,r2,_⟩:=a8i (A1:=A2) hR2.hp hn hlh (fun g hg=>(hR2.hp.av g (.inl hg)).1) (fun g hg=>.inl (.inl hg)) (fun g b e t xs hg hb _ hbl=>(hR2.hp.av g (.inl hg)).2 ⟨b,_,hb,rfl,hbl⟩) (fun g hg hl=>(hR2.hp.av g (.inl hg)).2 (hlive g hl)) (.inl (a2m hok));refine ⟨if hs:vs'.toArray.size=1 then vs'.toArray[0] else .tuple vs'.toArray,?_,_,M6 η' N (g6 rn),rfl,?_⟩
  ·rw [a75,hres,List.mapM_toArray];simp only [Sem.run_bind,Sem.run_map,hrun,Result.andThen_ok,Sem.run_pure]
  ·refine ⟨fun b hb hk=>?_,r1,r2 _ _ _ hle (b7Q hvs),hR2.fr,fun g hg hlt=>hR2.old g (hlive g hg) hlt⟩;obtain ⟨B,hB⟩:=l6.1 hk;rcases LeH.get hlh hB with ⟨hc,_⟩|⟨hc,B0,hB0,_⟩
   ·exact absurd hb (hnh.nil b B hB hc)
   ·have e:=hnh.hand b B hB hc hb;have:M6 η' N (g6 rn) b=η' b:=by
     unfold M6;rw [hc,e]; simp
    rw [this];rw [e] at hB0;exact hR2.hd b hb (by rw [hB0]; rfl)
 cases e with
 | normal=>exact fin hQ
 | ret=>exact fin hQ
 | _=>exact hQ.elim
end
end Go.Proofs.YtanaeefeggokkaaGreat
/-! The abstract machine,13: an operation yields one effect,and looks only at what its operands speak of. No program is named here. -/
namespace Go.Proofs.YtanaeefeggokkaaGreat
open Go.RowKit
set_option linter.constructorNameAsVariable false
section
variable {P:Program} {T:Tab} {s:ASt} {K K':Eff→Prop}
theorem b16 {t:TypeId} {x:AVal} (h:M7 T s t x K):∃ e,M7 T s t x (fun y=>y=e)∧K e:=by
 unfold M7 at *
 (repeat' split at h)<;>first|exact h.elim|((repeat (obtain ⟨_,h⟩:=h))<;>subst_vars<;>refine ⟨_,?_,h⟩<;>first|(simp only [*]; done)|(simp only [*,and_self]; done)|(simp only [*]; repeat' apply And.intro)<;>first|trivial|assumption|(simp; done))
theorem b0A {t:TypeId} {x v:AVal} (h:Z4 T s t x v K):∃ e,Z4 T s t x v (fun y=>y=e)∧K e:=by
 unfold Z4 at *
 (repeat' split at h)<;>first|exact h.elim|((repeat (obtain ⟨_,h⟩:=h))<;>subst_vars<;>refine ⟨_,?_,h⟩<;>first|(simp only [*]; done)|(simp only [*,and_self]; done)|(simp only [*]; repeat' apply And.intro)<;>first|trivial|assumption|(simp; done))
theorem b3R {op:BinOp} {x y:AVal} (h:a4V op x y K):∃ e,a4V op x y (fun y=>y=e)∧K e:=by
 unfold a4V at *
 (repeat' split at h)<;>first|exact h.elim|((repeat (obtain ⟨_,h⟩:=h))<;>subst_vars<;>refine ⟨_,?_,h⟩<;>first|(simp only [*]; done)|(simp only [*,and_self]; done)|(simp only [*]; repeat' apply And.intro)<;>first|trivial|assumption|(simp; done))
theorem b0G {t:TypeId} {b:Bool} {x y:AVal} (h:a7U T t b x y K):∃ e,a7U T t b x y (fun y=>y=e)∧K e:=by
 unfold a7U at *
 (repeat' split at h)<;>first|exact h.elim|((repeat (obtain ⟨_,h⟩:=h))<;>subst_vars<;>refine ⟨_,?_,h⟩<;>first|(simp only [*]; done)|(simp only [*,and_self]; done)|(simp only [*]; repeat' apply And.intro)<;>first|trivial|assumption|(simp; done))
theorem b5r {op:UnOp} {x:AVal} (h:a8H op x K):∃ e,a8H op x (fun y=>y=e)∧K e:=by
 unfold a8H at *
 (repeat' split at h)<;>first|exact h.elim|((repeat (obtain ⟨_,h⟩:=h))<;>subst_vars<;>refine ⟨_,?_,h⟩<;>first|(simp only [*]; done)|(simp only [*,and_self]; done)|(simp only [*]; repeat' apply And.intro)<;>first|trivial|assumption|(simp; done))
theorem b2b {t:TypeId} {x:AVal} (h:a2y T t x K):∃ e,a2y T t x (fun y=>y=e)∧K e:=by
 unfold a2y at *
 (repeat' split at h)<;>first|exact h.elim|((repeat (obtain ⟨_,h⟩:=h))<;>subst_vars<;>refine ⟨_,?_,h⟩<;>first|(simp only [*]; done)|(simp only [*,and_self]; done)|(simp only [*]; repeat' apply And.intro)<;>first|trivial|assumption|(simp; done))
theorem a7m {t:TypeId} {x:AVal} {f:Nat} (h:J6 T t x f K):∃ e,J6 T t x f (fun y=>y=e)∧K e:=by
 unfold J6 at *
 (repeat' split at h)<;>first|exact h.elim|((repeat (obtain ⟨_,h⟩:=h))<;>subst_vars<;>refine ⟨_,?_,h⟩<;>first|(simp only [*]; done)|(simp only [*]; repeat' apply And.intro)<;>first|trivial|assumption|(simp; done))
theorem b0F {t:TypeId} {x:AVal} {f:Nat} (h:a0T T t x f K):∃ e,a0T T t x f (fun y=>y=e)∧K e:=by
 unfold a0T at *
 (repeat' split at h)<;>first|exact h.elim|((repeat (obtain ⟨_,h⟩:=h))<;>subst_vars<;>refine ⟨_,?_,h⟩<;>first|(simp only [*]; done)|(simp only [*,and_self]; done)|(simp only [*]; repeat' apply And.intro)<;>first|trivial|assumption|(simp; done))
theorem a7l {t:TypeId} {x y:AVal} (h:w7 T s t x y K):∃ e,w7 T s t x y (fun y=>y=e)∧K e:=by
 unfold w7 at *
 (repeat' split at h)<;>first|exact h.elim|((repeat (obtain ⟨_,h⟩:=h))<;>subst_vars<;>refine ⟨_,?_,h⟩<;>first|(simp only [*]; done)|(simp only [*,and_self]; done)|(simp only [*]; repeat' apply And.intro)<;>first|trivial|assumption|(simp; done))
theorem b0B {t:TypeId} {x:AVal} {lo hi:Option AVal} (h:W5 T s t x lo hi K):∃ e,W5 T s t x lo hi (fun y=>y=e)∧K e:=by
 unfold W5 at *
 (repeat' split at h)<;>first|exact h.elim|((repeat (obtain ⟨_,h⟩:=h))<;>subst_vars<;>refine ⟨_,?_,h⟩<;>first|(simp only [*]; done)|(simp only [*,and_self]; done)|(simp only [*]; repeat' apply And.intro)<;>first|trivial|assumption|(simp; done))
theorem b0K {t:TypeId} {ps:List (Nat×AVal)} (h:W6 T s t ps K):∃ e,W6 T s t ps (fun y=>y=e)∧K e:=by
 unfold W6 at *
 (repeat' split at h)<;>first|exact h.elim|((repeat (obtain ⟨_,h⟩:=h))<;>subst_vars<;>refine ⟨_,?_,h⟩<;>first|(simp only [*]; done)|(simp only [*,and_self]; done)|(simp only [*]; repeat' apply And.intro)<;>first|trivial|assumption|(simp; done))
theorem a6n {nid:Nat} {t:TypeId} {len:Nat} {ps:List (Nat×AVal)} (h:t7 T s nid t len ps K):∃ e,t7 T s nid t len ps (fun y=>y=e)∧K e:=by
 unfold t7 at *
 (repeat' split at h)<;>first|exact h.elim|((repeat (obtain ⟨_,h⟩:=h))<;>subst_vars<;>refine ⟨_,?_,h⟩<;>first|(simp only [*]; done)|(simp only [*,and_self]; done)|(simp only [*]; repeat' apply And.intro)<;>first|trivial|assumption|(simp; done))
theorem a7k {nid:Nat} {t:TypeId} {x y:AVal} (h:J5 T nid t x y K):∃ e,J5 T nid t x y (fun y=>y=e)∧K e:=by
 unfold J5 at *
 (repeat' split at h)<;>first|exact h.elim|((repeat (obtain ⟨_,h⟩:=h))<;>subst_vars<;>refine ⟨_,?_,h⟩<;>first|(simp only [*]; done)|(simp only [*,and_self]; done)|(simp only [*]; repeat' apply And.intro)<;>first|trivial|assumption|(simp; done))
theorem a9S {nid:Nat} {t:TypeId} {x y:AVal} (h:Q5 T s nid t x y K):∃ e,Q5 T s nid t x y (fun y=>y=e)∧K e:=by
 unfold Q5 at *
 (repeat' split at h)<;>first|exact h.elim|((repeat (obtain ⟨_,h⟩:=h))<;>subst_vars<;>refine ⟨_,?_,h⟩<;>first|(simp only [*]; done)|(simp only [*,and_self]; done)|(simp only [*]; repeat' apply And.intro)<;>first|trivial|assumption|(simp; done))
theorem b3Q {t:TypeId} {x:AVal} {lo hi mx:Option AVal} (h:a4T T t x lo hi mx K):∃ e,a4T T t x lo hi mx (fun y=>y=e)∧K e:=by
 unfold a4T at *
 (repeat' split at h)<;>first|exact h.elim|((repeat (obtain ⟨_,h⟩:=h))<;>subst_vars<;>refine ⟨_,?_,h⟩<;>first|(simp only [*]; done)|(simp only [*,and_self]; done)|(simp only [*]; repeat' apply And.intro)<;>first|trivial|assumption|(simp; done))
theorem a9M {t:TypeId} {ok:Bool} {x y:AVal} (h:U2 s P t ok x y K):∃ e,U2 s P t ok x y (fun y=>y=e)∧K e:=by
 unfold U2 at *
 split at h
 ·split at h
  ·rename_i hb;obtain ⟨r,h1,h2⟩:=h;exact ⟨_,⟨r,h1,rfl⟩,h2⟩
  ·exact h.elim
 ·exact h.elim
theorem b3P {x:AVal} (h:a2P s x K):∃ e,a2P s x (fun y=>y=e)∧K e:=by
 unfold a2P at *
 (repeat' split at h)<;>first|exact h.elim|((repeat (obtain ⟨_,h⟩:=h))<;>subst_vars<;>refine ⟨_,?_,h⟩<;>first|(simp only [*]; done)|(simp only [*,and_self]; done)|(simp only [*]; repeat' apply And.intro)<;>first|trivial|assumption|(simp; done))
theorem a8M {x:AVal} {i:Nat} (h:S8 x i K):∃ e,S8 x i (fun y=>y=e)∧K e:=by
 unfold S8 at *
 (repeat' split at h)<;>first|exact h.elim|((repeat (obtain ⟨_,h⟩:=h))<;>subst_vars<;>refine ⟨_,?_,h⟩<;>first|(simp only [*]; done)|(simp only [*,and_self]; done)|(simp only [*]; repeat' apply And.intro)<;>first|trivial|assumption|(simp; done))
theorem b3M {x:AVal} (h:a5B x K):∃ e,a5B x (fun y=>y=e)∧K e:=by
 unfold a5B at *
 (repeat' split at h)<;>first|exact h.elim|((repeat (obtain ⟨_,h⟩:=h))<;>subst_vars<;>refine ⟨_,?_,h⟩<;>first|(simp only [*]; done)|(simp only [*,and_self]; done)|(simp only [*]; repeat' apply And.intro)<;>first|trivial|assumption|(simp; done))
theorem b2c {d:Nat} {f:AVal} {args:List AVal} (h:L2 P s d f args K):∃ e,L2 P s d f args (fun y=>y=e)∧K e:=by
 unfold L2 at *
 split at h
 ·obtain ⟨D,rn,hin,l,hout,r,h1,h2,h3,h4,h5⟩:=h;exact ⟨_,⟨D,rn,hin,l,hout,r,h1,h2,h3,h4,rfl⟩,h5⟩
 ·exact h.elim
theorem a8N {nid:Nat} {b:Builtin} {tys:List TypeId} {args:List AVal} (h:M8 T s nid b tys args K):∃ e,M8 T s nid b tys args (fun y=>y=e)∧K e:=by
 unfold M8 at *
 split at h
 ·obtain ⟨e,h1,h2⟩:=b3P h.2;exact ⟨e,⟨h.1,h1⟩,h2⟩
 ·obtain ⟨e,h1,h2⟩:=a9S h.2;exact ⟨e,⟨h.1,h1⟩,h2⟩
 ·exact ⟨_,⟨h.1,rfl⟩,h.2⟩
 ·exact ⟨_,⟨h.1,rfl⟩,h.2⟩
 ·exact h.elim
theorem a7Q {o:Oper} (h:I8 P T s o K):∃ e,I8 P T s o (fun y=>y=e)∧K e:=by
 unfold I8 at *
 split at h
 case h_1=>exact ⟨_,rfl,h⟩
 case h_2=>exact ⟨_,rfl,h⟩
 case h_3 =>
  split at h
  ·rename_i p _
   cases p
   ·exact ⟨_,⟨fun e=>(by cases e),fun _=>rfl⟩,h.2 rfl⟩
   ·exact ⟨_,⟨fun _=>rfl,fun e=>(by cases e)⟩,h.1 rfl⟩
  ·exact h.elim
 case h_4=>(repeat' split at h)<;>first|exact h.elim|((repeat (obtain ⟨_,h⟩:=h))<;>subst_vars<;>refine ⟨_,?_,h⟩<;>first|(simp only [*]; done)|(simp only [*,and_self]; done))
 case h_5=>(repeat' split at h)<;>first|exact h.elim|((repeat (obtain ⟨_,h⟩:=h))<;>subst_vars<;>refine ⟨_,?_,h⟩<;>first|(simp only [*]; done)|(simp only [*,and_self]; done))
 case h_6=>exact b0K h
 case h_7=>exact a6n h
 case h_8=>exact b16 h
 case h_9=>exact b0A h
 case h_10=>exact b3M h
 case h_11 =>
  split at h
  ·exact b0G h
  ·exact b0G h
  ·exact b3R h
 case h_12=>exact b5r h
 case h_13=>obtain ⟨e,h1,h2⟩:=b2b h.2; exact ⟨e,⟨h.1,h1⟩,h2⟩
 case h_14=>exact ⟨_,rfl,h⟩
 case h_15=>exact a7k h
 case h_16=>exact b0B h
 case h_17=>exact a7m h
 case h_18=>exact b0F h
 case h_19=>exact a7l h
 case h_20=>exact a8M h
 case h_21 =>
  split at h
  ·exact a8N h
  ·exact b2c h
  ·exact h.elim
 case h_22=>exact b3Q h
 case h_23=>exact a9M h
 case h_24=>exact h.elim
theorem b0D {t:TypeId} {x:AVal} (hk:∀ e,K e→K' e) (h:M7 T s t x K):M7 T s t x K':=by
 unfold M7 at *
 (repeat' split at h)<;>first|exact h.elim|((repeat (obtain ⟨_,h⟩:=h))<;>subst_vars<;>have hk2:=hk _ h<;>first|exact hk2|((repeat' apply And.intro)<;>assumption)|(simp only [*]; done)|(simp only [*,and_self]; done)|(simp only [*]; repeat' apply And.intro)<;>first|trivial|assumption|(simp; done))
theorem a9J {t:TypeId} {x v:AVal} (hk:∀ e,K e→K' e) (h:Z4 T s t x v K):Z4 T s t x v K':=by
 unfold Z4 at *
 (repeat' split at h)<;>first|exact h.elim|((repeat (obtain ⟨_,h⟩:=h))<;>subst_vars<;>have hk2:=hk _ h<;>first|exact hk2|((repeat' apply And.intro)<;>assumption)|(simp only [*]; done)|(simp only [*,and_self]; done)|(simp only [*]; repeat' apply And.intro)<;>first|trivial|assumption|(simp; done))
theorem b2e {op:BinOp} {x y:AVal} (hk:∀ e,K e→K' e) (h:a4V op x y K):a4V op x y K':=by
 unfold a4V at *
 (repeat' split at h)<;>first|exact h.elim|((repeat (obtain ⟨_,h⟩:=h))<;>subst_vars<;>have hk2:=hk _ h<;>first|exact hk2|((repeat' apply And.intro)<;>assumption)|(simp only [*]; done)|(simp only [*,and_self]; done)|(simp only [*]; repeat' apply And.intro)<;>first|trivial|assumption|(simp; done))
theorem a83 {t:TypeId} {b:Bool} {x y:AVal} (hk:∀ e,K e→K' e) (h:a7U T t b x y K):a7U T t b x y K':=by
 unfold a7U at *
 (repeat' split at h)<;>first|exact h.elim|((repeat (obtain ⟨_,h⟩:=h))<;>subst_vars<;>have hk2:=hk _ h<;>first|exact hk2|((repeat' apply And.intro)<;>assumption)|(simp only [*]; done)|(simp only [*,and_self]; done)|(simp only [*]; repeat' apply And.intro)<;>first|trivial|assumption|(simp; done))
theorem b3K {op:UnOp} {x:AVal} (hk:∀ e,K e→K' e) (h:a8H op x K):a8H op x K':=by
 unfold a8H at *
 (repeat' split at h)<;>first|exact h.elim|((repeat (obtain ⟨_,h⟩:=h))<;>subst_vars<;>have hk2:=hk _ h<;>first|exact hk2|((repeat' apply And.intro)<;>assumption)|(simp only [*]; done)|(simp only [*,and_self]; done)|(simp only [*]; repeat' apply And.intro)<;>first|trivial|assumption|(simp; done))
theorem b0H {t:TypeId} {x:AVal} (hk:∀ e,K e→K' e) (h:a2y T t x K):a2y T t x K':=by
 unfold a2y at *
 (repeat' split at h)<;>first|exact h.elim|((repeat (obtain ⟨_,h⟩:=h))<;>subst_vars<;>have hk2:=hk _ h<;>first|exact hk2|((repeat' apply And.intro)<;>assumption)|(simp only [*]; done)|(simp only [*,and_self]; done)|(simp only [*]; repeat' apply And.intro)<;>first|trivial|assumption|(simp; done))
theorem a6l {t:TypeId} {x:AVal} {f:Nat} (hk:∀ e,K e→K' e) (h:J6 T t x f K):J6 T t x f K':=by
 unfold J6 at *
 (repeat' split at h)<;>first|exact h.elim|((repeat (obtain ⟨_,h⟩:=h))<;>subst_vars<;>have hk2:=hk _ h<;>first|exact hk2|((repeat' apply And.intro)<;>assumption)|(simp only [*]; done)|(simp only [*]; repeat' apply And.intro)<;>first|trivial|assumption|(simp; done))
theorem a9O {t:TypeId} {x:AVal} {f:Nat} (hk:∀ e,K e→K' e) (h:a0T T t x f K):a0T T t x f K':=by
 unfold a0T at *
 (repeat' split at h)<;>first|exact h.elim|((repeat (obtain ⟨_,h⟩:=h))<;>subst_vars<;>have hk2:=hk _ h<;>first|exact hk2|((repeat' apply And.intro)<;>assumption)|(simp only [*]; done)|(simp only [*,and_self]; done)|(simp only [*]; repeat' apply And.intro)<;>first|trivial|assumption|(simp; done))
theorem a6j {t:TypeId} {x y:AVal} (hk:∀ e,K e→K' e) (h:w7 T s t x y K):w7 T s t x y K':=by
 unfold w7 at *
 (repeat' split at h)<;>first|exact h.elim|((repeat (obtain ⟨_,h⟩:=h))<;>subst_vars<;>have hk2:=hk _ h<;>first|exact hk2|((repeat' apply And.intro)<;>first|assumption|rfl)|(simp only [*]; done)|(simp only [*,and_self]; done)|(simp only [*]; repeat' apply And.intro)<;>first|trivial|assumption|(simp; done))
theorem a9K {t:TypeId} {x:AVal} {lo hi:Option AVal} (hk:∀ e,K e→K' e) (h:W5 T s t x lo hi K):W5 T s t x lo hi K':=by
 unfold W5 at *
 (repeat' split at h)<;>first|exact h.elim|((repeat (obtain ⟨_,h⟩:=h))<;>subst_vars<;>have hk2:=hk _ h<;>first|exact hk2|((repeat' apply And.intro)<;>assumption)|(simp only [*]; done)|(simp only [*,and_self]; done)|(simp only [*]; repeat' apply And.intro)<;>first|trivial|assumption|(simp; done))
theorem a9Q {t:TypeId} {ps:List (Nat×AVal)} (hk:∀ e,K e→K' e) (h:W6 T s t ps K):W6 T s t ps K':=by
 unfold W6 at *
 (repeat' split at h)<;>first|exact h.elim|((repeat (obtain ⟨_,h⟩:=h))<;>subst_vars<;>have hk2:=hk _ h<;>first|exact hk2|((repeat' apply And.intro)<;>assumption)|(simp only [*]; done)|(simp only [*,and_self]; done)|(simp only [*]; repeat' apply And.intro)<;>first|trivial|assumption|(simp; done))
theorem a5E {nid:Nat} {t:TypeId} {len:Nat} {ps:List (Nat×AVal)} (hk:∀ e,K e→K' e) (h:t7 T s nid t len ps K):t7 T s nid t len ps K':=by
 unfold t7 at *
 (repeat' split at h)<;>first|exact h.elim|((repeat (obtain ⟨_,h⟩:=h))<;>subst_vars<;>have hk2:=hk _ h<;>first|exact hk2|((repeat' apply And.intro)<;>assumption)|(simp only [*]; done)|(simp only [*,and_self]; done)|(simp only [*]; repeat' apply And.intro)<;>first|trivial|assumption|(simp; done))
theorem a6i {nid:Nat} {t:TypeId} {x y:AVal} (hk:∀ e,K e→K' e) (h:J5 T nid t x y K):J5 T nid t x y K':=by
 unfold J5 at *
 (repeat' split at h)<;>first|exact h.elim|((repeat (obtain ⟨_,h⟩:=h))<;>subst_vars<;>have hk2:=hk _ h<;>first|exact hk2|((repeat' apply And.intro)<;>assumption)|(simp only [*]; done)|(simp only [*,and_self]; done)|(simp only [*]; repeat' apply And.intro)<;>first|trivial|assumption|(simp; done))
theorem a8P {nid:Nat} {t:TypeId} {x y:AVal} (hk:∀ e,K e→K' e) (h:Q5 T s nid t x y K):Q5 T s nid t x y K':=by
 unfold Q5 at *
 (repeat' split at h)<;>first|exact h.elim|((repeat (obtain ⟨_,h⟩:=h))<;>subst_vars<;>have hk2:=hk _ h<;>first|exact hk2|((repeat' apply And.intro)<;>assumption)|(simp only [*]; done)|(simp only [*,and_self]; done)|(simp only [*]; repeat' apply And.intro)<;>first|trivial|assumption|(simp; done))
theorem b19 {t:TypeId} {x:AVal} {lo hi mx:Option AVal} (hk:∀ e,K e→K' e) (h:a4T T t x lo hi mx K):a4T T t x lo hi mx K':=by
 unfold a4T at *
 (repeat' split at h)<;>first|exact h.elim|((repeat (obtain ⟨_,h⟩:=h))<;>subst_vars<;>have hk2:=hk _ h<;>first|exact hk2|((repeat' apply And.intro)<;>assumption)|(simp only [*]; done)|(simp only [*,and_self]; done)|(simp only [*]; repeat' apply And.intro)<;>first|trivial|assumption|(simp; done))
theorem a8K {t:TypeId} {ok:Bool} {x y:AVal} (hk:∀ e,K e→K' e) (h:U2 s P t ok x y K):U2 s P t ok x y K':=by
 unfold U2 at *
 split at h
 ·split at h
  ·rename_i hb;obtain ⟨r,h1,h2⟩:=h;exact ⟨r,h1,hk _ h2⟩
  ·exact h.elim
 ·exact h.elim
theorem b17 {x:AVal} (hk:∀ e,K e→K' e) (h:a2P s x K):a2P s x K':=by
 unfold a2P at *
 (repeat' split at h)<;>first|exact h.elim|((repeat (obtain ⟨_,h⟩:=h))<;>subst_vars<;>have hk2:=hk _ h<;>first|exact hk2|((repeat' apply And.intro)<;>assumption)|(simp only [*]; done)|(simp only [*,and_self]; done)|(simp only [*]; repeat' apply And.intro)<;>first|trivial|assumption|(simp; done))
theorem a7S {x:AVal} {i:Nat} (hk:∀ e,K e→K' e) (h:S8 x i K):S8 x i K':=by
 unfold S8 at *
 (repeat' split at h)<;>first|exact h.elim|((repeat (obtain ⟨_,h⟩:=h))<;>subst_vars<;>have hk2:=hk _ h<;>first|exact hk2|((repeat' apply And.intro)<;>assumption)|(simp only [*]; done)|(simp only [*,and_self]; done)|(simp only [*]; repeat' apply And.intro)<;>first|trivial|assumption|(simp; done))
theorem b15 {x:AVal} (hk:∀ e,K e→K' e) (h:a5B x K):a5B x K':=by
 unfold a5B at *
 (repeat' split at h)<;>first|exact h.elim|((repeat (obtain ⟨_,h⟩:=h))<;>subst_vars<;>have hk2:=hk _ h<;>first|exact hk2|((repeat' apply And.intro)<;>assumption)|(simp only [*]; done)|(simp only [*,and_self]; done)|(simp only [*]; repeat' apply And.intro)<;>first|trivial|assumption|(simp; done))
theorem b0J {d:Nat} {f:AVal} {args:List AVal} (hk:∀ e,K e→K' e) (h:L2 P s d f args K):L2 P s d f args K':=by
 unfold L2 at *
 split at h
 ·obtain ⟨D,rn,hin,l,hout,r,h1,h2,h3,h4,h5⟩:=h;exact ⟨D,rn,hin,l,hout,r,h1,h2,h3,h4,hk _ h5⟩
 ·exact h.elim
theorem a7V {nid:Nat} {b:Builtin} {tys:List TypeId} {args:List AVal} (hk:∀ e,K e→K' e) (h:M8 T s nid b tys args K):M8 T s nid b tys args K':=by
 unfold M8 at *
 split at h
 ·exact ⟨h.1,b17 hk h.2⟩
 ·exact ⟨h.1,a8P hk h.2⟩
 ·exact ⟨h.1,hk _ h.2⟩
 ·exact ⟨h.1,hk _ h.2⟩
 ·exact h.elim
theorem a62 {o:Oper} (hk:∀ e,K e→K' e) (h:I8 P T s o K):I8 P T s o K':=by
 unfold I8 at *
 split at h
 case h_1=>exact hk _ h
 case h_2=>exact hk _ h
 case h_3 =>
  split at h
  ·exact ⟨fun e=>hk _ (h.1 e),fun e=>hk _ (h.2 e)⟩
  ·exact h.elim
 case h_4=>(repeat' split at h)<;>first|exact h.elim|exact hk _ h
 case h_5=>(repeat' split at h)<;>first|exact h.elim|exact ⟨h.1,h.2.1,h.2.2.1,hk _ h.2.2.2⟩
 case h_6=>exact a9Q hk h
 case h_7=>exact a5E hk h
 case h_8=>exact b0D hk h
 case h_9=>exact a9J hk h
 case h_10=>exact b15 hk h
 case h_11 =>
  split at h
  ·exact a83 hk h
  ·exact a83 hk h
  ·exact b2e hk h
 case h_12=>exact b3K hk h
 case h_13=>exact ⟨h.1,b0H hk h.2⟩
 case h_14=>exact hk _ h
 case h_15=>exact a6i hk h
 case h_16=>exact a9K hk h
 case h_17=>exact a6l hk h
 case h_18=>exact a9O hk h
 case h_19=>exact a6j hk h
 case h_20=>exact a7S hk h
 case h_21 =>
  split at h
  ·exact a7V hk h
  ·exact b0J hk h
  ·exact h.elim
 case h_22=>exact b19 hk h
 case h_23=>exact a8K hk h
 case h_24=>exact h.elim
theorem b4j {ops:List Oper} {o:Oper} (h:R6 P T ops s o K):∃ e,R6 P T ops s o (fun y=>y=e)∧K e:=by
 unfold R6 at *
 cases hg:o.guard with
 | none=>simp only [hg] at h ⊢; exact a7Q h
 | some q =>
  obtain ⟨j,want⟩:=q;simp only [hg] at h ⊢
  cases hj:(ops[j]?).bind (·.dst) with
  | none=>simp [hj] at h
  | some t =>
   simp only [hj] at h ⊢
   cases hσ:s.σ t<;>simp only [hσ] at h ⊢
   case bool p =>
    by_cases hp:p=want
    ·obtain ⟨e,h1,h2⟩:=a7Q (h.1 hp);exact ⟨e,⟨fun _=>h1,fun hn=>absurd hp hn⟩,h2⟩
    ·exact ⟨_,⟨fun hn=>absurd hn hp,fun _=>rfl⟩,h.2 hp⟩
   case cv u=>exact ⟨_,⟨h.1,rfl⟩,h.2⟩
theorem a8r {ops:List Oper} {o:Oper} (hk:∀ e,K e→K' e) (h:R6 P T ops s o K):R6 P T ops s o K':=by
 unfold R6 at *
 cases hg:o.guard with
 | none=>simp only [hg] at h ⊢; exact a62 hk h
 | some q =>
  obtain ⟨j,want⟩:=q;simp only [hg] at h ⊢
  cases hj:(ops[j]?).bind (·.dst) with
  | none=>simp [hj] at h
  | some t =>
   simp only [hj] at h ⊢
   cases hσ:s.σ t<;>simp only [hσ] at h ⊢
   case bool p=>exact ⟨fun hp=>a62 hk (h.1 hp),fun hp=>hk _ (h.2 hp)⟩
   case cv u=>exact ⟨h.1,hk _ h.2⟩
end
end Go.Proofs.YtanaeefeggokkaaGreat
/-! The abstract machine,14: an operation looks only at the blocks that its operands speak of. No program is named here. -/
namespace Go.Proofs.YtanaeefeggokkaaGreat
open Go.RowKit
set_option linter.constructorNameAsVariable false
section
variable {H H':l3}
theorem b2H (x:AVal) (h:∀ b∈x.ids,H' b=H b):x.cell H'=x.cell H:=by
 cases x<;>simp only [AVal.cell]
 case own b=>rw [h b (by simp [AVal.ids])]
theorem a2v:∀ (l:List AVal),(∀ b∈AVal.idsL l,H' b=H b)→l.all (AVal.cell H')=l.all (AVal.cell H)
 | [],_=>rfl
 | x::l,h=>by
  rw [List.all_cons,List.all_cons,b2H x fun b hb=>h b (by simp [AVal.idsL,hb]),a2v l fun b hb=>h b (by simp [AVal.idsL,hb])]
theorem b0v {t:Ty} {l r:List AVal} {x:List (El t)} (h:a9H H t l=some (x,r)):∃ p,l=p++r:=by
 unfold a9H at h
 split at h
 ·rename_i t' xs l'
  split at h
  ·injection h with h; injection h with _ h; subst h; exact ⟨[_],rfl⟩
  ·cases h
 ·rename_i b l'
  split at h
  ·split at h
   ·injection h with h; injection h with _ h; subst h; exact ⟨[_],rfl⟩
   ·cases h
  ·split at h
   ·injection h with h; injection h with _ h; subst h; exact ⟨[_],rfl⟩
   ·cases h
  ·cases h
 ·split at h
  ·injection h with h; injection h with _ h; subst h; exact ⟨[_],rfl⟩
  ·cases h
 ·cases h
theorem a32:∀ (t:Ty) (l r:List AVal) (x:El t),C6 H t l=some (x,r)→∃ p,l=p++r
 | .int k,l,r,x,h=>by
  unfold C6 a6Y at h
  split at h
  ·split at h
   ·injection h with h; injection h with _ h; subst h; exact ⟨[_],rfl⟩
   ·cases h
  ·cases h
 | .bool,l,r,x,h=>by
  unfold C6 a6g at h
  split at h
  ·injection h with h; injection h with _ h; subst h; exact ⟨[_],rfl⟩
  ·cases h
 | .unit,l,r,x,h=>by
  unfold C6 at h;injection h with h; injection h with _ h; subst h; exact ⟨[],rfl⟩
 | .pair a b,l,r,x,h=>by
  unfold C6 at h
  split at h
  ·rename_i x1 r1 h1
   split at h
   ·rename_i x2 r2 h2;injection h with h; injection h with _ h; subst h;obtain ⟨p1,e1⟩:=a32 a l r1 x1 h1;obtain ⟨p2,e2⟩:=a32 b r1 r2 x2 h2;exact ⟨p1++p2,by rw [e1,e2,List.append_assoc]⟩
   ·cases h
  ·cases h
 | .sl t,l,r,x,h=>b0v (by unfold C6 at h; exact h)
theorem b1W (t:Ty) (l:List AVal) (h:∀ b∈AVal.idsL l,H' b=H b):a9H H' t l=a9H H t l:=by
 unfold a9H
 cases l with
 | nil=>rfl
 | cons x l =>
  cases x<;>try rfl
  case own b=>simp only; rw [h b (by simp [AVal.idsL,AVal.ids])]
theorem a3l:∀ (t:Ty) (l:List AVal),(∀ b∈AVal.idsL l,H' b=H b)→C6 H' t l=C6 H t l
 | .int k,l,h=>rfl
 | .bool,l,h=>rfl
 | .unit,l,h=>rfl
 | .pair a b,l,h=>by
  unfold C6;rw [a3l a l h]
  split
  ·rename_i x1 r1 h1;obtain ⟨p,e⟩:=a32 a l r1 x1 h1;rw [a3l b r1 fun c hc=>h c (by rw [e,v9]; simp [hc])]
  ·rfl
 | .sl t,l,h=>by unfold C6; exact b1W t l h
theorem a6Z (t:Ty):∀ (l:List AVal),(∀ b∈AVal.idsL l,H' b=H b)→a3J H' t l=a3J H t l
 | [],_=>rfl
 | v::r,h=>by
  unfold a3J;rw [a3l t (r5 v) fun b hb=>h b (by rw [R5] at hb; simp [AVal.idsL,hb]),a6Z t r fun b hb=>h b (by simp [AVal.idsL,hb])]
theorem a3o:∀ (ids:List Nat),(∀ b∈ids,H' b=H b)→rest H' ids=rest H ids
 | [],_=>rfl
 | b::r,h=>by
  unfold rest;rw [h b (by simp),a3o r fun c hc=>h c (by simp [hc])]
mutual
theorem b2X {D N:List Nat} {ρ:Nat→Nat}:∀ (x y:AVal),x.ids=[]→LeV H D N ρ x y→LeV H' D N ρ x y
 | .own b,y,h,_=>by simp [AVal.ids] at h
 | .agg l,y,h,hl=>by
  unfold LeV at *
  split at hl<;>first|trivial|exact a0S l _ (by simpa [AVal.ids] using h) hl
 | .tup l,y,h,hl=>by
  unfold LeV at *
  split at hl<;>first|trivial|exact a0S l _ (by simpa [AVal.ids] using h) hl
 | .fn f p c,y,h,hl=>by
  unfold LeV at *;simp only [AVal.ids,List.append_eq_nil_iff] at h
  split at hl<;>first|trivial|exact ⟨hl.1,a0S p _ h.1 hl.2.1,a0S c _ h.2 hl.2.2⟩
 | .bp b o,y,h,_=>by simp [AVal.ids] at h
 | .ap b _ _ _,y,h,_=>by simp [AVal.ids] at h
 | .vw b _ _ _,y,h,_=>by simp [AVal.ids] at h
 | .one,y,_,hl=>by unfold LeV at *; exact hl
 | .un,y,_,hl=>by unfold LeV at *; exact hl
 | .int _ _,y,_,hl=>by unfold LeV at *; exact hl
 | .bool _,y,_,hl=>by unfold LeV at *; exact hl
 | .sl _ _,y,_,hl=>by unfold LeV at *; exact hl
 | .cut _ _,y,_,hl=>by unfold LeV at *; exact hl
 | .dp _ _ _,y,_,hl=>by unfold LeV at *; exact hl
 | .cv _,y,_,hl=>by unfold LeV at *; exact hl
theorem a0S {D N:List Nat} {ρ:Nat→Nat}:∀ (l m:List AVal),AVal.idsL l=[]→LeL H D N ρ l m→LeL H' D N ρ l m
 | [],m,_,hl=>by unfold LeL at *; exact hl
 | x::l,m,h,hl=>by
  unfold LeL at *;simp only [AVal.idsL,List.append_eq_nil_iff] at h
  split at hl
  ·exact hl.elim
  ·exact ⟨b2X x _ h.1 hl.1,a0S l _ h.2 hl.2⟩
end
end
theorem b1j {l:List AVal} {b:Nat} (k m:Nat) (h:b∈AVal.idsL (l.take k)∨b∈AVal.idsL (l.drop m)):b∈AVal.idsL l:=by
 rcases h with h|h
 ·rw [← List.take_append_drop k l,v9]; simp [h]
 ·rw [← List.take_append_drop m l,v9]; simp [h]
section
variable {P:Program} {T:Tab} {s s':ASt} {K:Eff→Prop}
theorem a3t (x:AVal) (h:∀ b∈x.ids,s'.H b=s.H b):L4 s' x=L4 s x:=by
 cases x<;>simp only [L4]
 case own b=>rw [h b (by simp [AVal.ids])]
theorem a9N {t:TypeId} {x:AVal} (h:∀ b∈x.ids,s'.H b=s.H b):M7 T s' t x K=M7 T s t x K:=by
 unfold M7
 cases x<;>simp only
 case bp b _=>rw [h b (by simp [AVal.ids])]
 case ap b _ _ _=>rw [h b (by simp [AVal.ids])]
theorem a8I {t:TypeId} {x v:AVal} (h:∀ b∈x.ids,s'.H b=s.H b) (hv:∀ b∈v.ids,s'.H b=s.H b):Z4 T s' t x v K=Z4 T s t x v K:=by
 unfold Z4;rw [a2v (H':=s'.H) (H:=s.H) (r5 v) (fun b hb=>hv b (by rwa [R5] at hb)),a3o v.ids hv]
 have htoEl:∀ (τ:Ty) (y:El τ) (off:Nat),C6 s'.H τ (g5 (cellsOf τ y) off (r5 v))=C6 s.H τ (g5 (cellsOf τ y) off (r5 v)):=fun τ y off=>a3l τ _ fun b hb=>hv b (by
  unfold g5 at hb;rw [v9,v9,List.mem_append,List.mem_append] at hb;rcases hb with (hb|hb)|hb
  ·have:=b1j off 0 (.inl hb); rw [G7] at this; simp at this
  ·rwa [R5] at hb
  ·have:=b1j 0 _ (.inr hb); rw [G7] at this; simp at this)
 cases x<;>simp only [htoEl]
 case bp b _=>rw [h b (by simp [AVal.ids])]
 case ap b _ _ _=>rw [h b (by simp [AVal.ids])]
theorem a5C {t:TypeId} {x y:AVal} (h:∀ b∈x.ids,s'.H b=s.H b):w7 T s' t x y K=w7 T s t x y K:=by
 unfold w7
 cases x<;>simp only
 case own b=>rw [h b (by simp [AVal.ids])]
 case vw b _ _ _=>rw [h b (by simp [AVal.ids])]
theorem a8J {t:TypeId} {x:AVal} {lo hi:Option AVal} (h:∀ b∈x.ids,s'.H b=s.H b):W5 T s' t x lo hi K=W5 T s t x lo hi K:=by
 unfold W5;rw [a3t x h,a3o x.ids h]
theorem a96 {ps:List (Nat×AVal)} {p:Nat×AVal} (hp:p∈ps) {b:Nat} (hb:b∈p.2.ids):b∈AVal.idsL (ps.map (·.2)):=by
 induction ps with
 | nil=>simp at hp
 | cons q ps ih =>
  rw [List.map_cons];unfold AVal.idsL;rcases List.mem_cons.1 hp with rfl|hp
  ·simp [hb]
  ·simp [ih hp]
theorem a67 {ps:List (Nat×AVal)} (h:∀ b∈AVal.idsL (ps.map (·.2)),s'.H b=s.H b):(ps.all fun p=>(r5 p.2).all (AVal.cell s'.H))=ps.all fun p=>(r5 p.2).all (AVal.cell s.H):=by
 induction ps with
 | nil=>rfl
 | cons q ps ih =>
  rw [List.all_cons,List.all_cons,a2v (r5 q.2) fun b hb=>h b (a96 (p:=q) (by simp) (by rwa [R5] at hb)),ih fun b hb=>h b (by rw [List.map_cons]; unfold AVal.idsL; simp [hb])]
theorem a8O {t:TypeId} {ps:List (Nat×AVal)} (h:∀ b∈AVal.idsL (ps.map (·.2)),s'.H b=s.H b):W6 T s' t ps K=W6 T s t ps K:=by
 unfold W6;rw [a67 h]
theorem a48 {nid:Nat} {t:TypeId} {len:Nat} {ps:List (Nat×AVal)} (h:∀ b∈AVal.idsL (ps.map (·.2)),s'.H b=s.H b):t7 T s' nid t len ps K=t7 T s nid t len ps K:=by
 unfold t7;rw [a67 h,a3o _ h];have:∀ τ:Ty,a3J s'.H τ (ps.map (·.2))=a3J s.H τ (ps.map (·.2)):=fun τ=>a6Z τ _ h;simp only [this]
theorem a7W {nid:Nat} {t:TypeId} {x y:AVal} (hx:∀ b∈x.ids,s'.H b=s.H b) (hy:∀ b∈y.ids,s'.H b=s.H b):Q5 T s' nid t x y K=Q5 T s nid t x y K:=by
 unfold Q5;rw [a3t y hy]
 cases x<;>simp only
 case own b=>rw [hx b (by simp [AVal.ids])]
theorem b0E {x:AVal} (h:∀ b∈x.ids,s'.H b=s.H b):a2P s' x K=a2P s x K:=by
 unfold a2P;rw [a3t x h]
theorem a5D {d:Nat} {f:AVal} {args:List AVal} (hH:s'.H=s.H∨(f.ids=[]∧AVal.idsL args=[])) (h:L2 P s d f args K):L2 P s' d f args K:=by
 unfold L2 at *
 split at h
 ·rename_i g p c;obtain ⟨D,rn,hin,l,hout,r,h1,h2,h3,h4,h5⟩:=h;refine ⟨D,rn,hin,l,hout,r,h1,h2,?_⟩;rcases hH with hH|⟨hf,ha⟩
  ·rw [hH]; exact ⟨h3,h4,h5⟩
  ·have hids:AVal.idsL (p++args++c)=[]:=by
    simp only [AVal.ids,List.append_eq_nil_iff] at hf;rw [v9,v9,hf.1,ha,hf.2]; rfl
   unfold a0R at h2;simp only [Bool.and_eq_true] at h2;obtain ⟨⟨⟨⟨⟨⟨⟨_,k5⟩,_⟩,_⟩,_⟩,_⟩,_⟩,_⟩:=h2;rw [hids] at k5;simp at k5
   obtain ⟨rfl,rfl⟩:=k5;exact ⟨a0S _ _ hids h3,trivial,h5⟩
 ·exact h.elim
theorem a7n {nid:Nat} {b:Builtin} {tys:List TypeId} {args:List AVal} (ha:∀ b∈AVal.idsL args,s'.H b=s.H b):M8 T s' nid b tys args K=M8 T s nid b tys args K:=by
 unfold M8
 split
 ·rw [b0E fun b hb=>ha b (by simp [AVal.idsL,hb])]
 ·rw [a7W (fun b hb=>ha b (by simp [AVal.idsL,hb])) (fun b hb=>ha b (by simp [AVal.idsL,hb]))]
 ·rfl
 ·rfl
 ·rfl
theorem a3s {l:List Operand} (h:∀ x∈l,s'.ev x=s.ev x):l.map s'.ev=l.map s.ev:=List.map_congr_left h
def P1:Op→Bool
 | .call c=>match c.callee with
  | .value _=>true
  | _=>false
 | _=>false
theorem W4 {o:Oper} (hev:∀ x∈o.op.operands,s'.ev x=s.ev x) (hH:∀ b∈AVal.idsL (o.op.operands.toList.map s.ev),s'.H b=s.H b) (hC:P1 o.op=true→s'.H=s.H∨AVal.idsL (o.op.operands.toList.map s.ev)=[]∨∀ d f args,(∀ b∈f.ids++AVal.idsL args,b∈AVal.idsL (o.op.operands.toList.map s.ev))→L2 P s d f args K→L2 P s' d f args K) (h:I8 P T s o K):I8 P T s' o K:=by
 have hid:∀ {x:Operand},x∈o.op.operands→∀ b∈(s.ev x).ids,s'.H b=s.H b:=by
  intro x hx b hb;refine hH b ?_;have hx':x∈o.op.operands.toList:=by simpa using hx
  generalize o.op.operands.toList=l at hx'
  induction l with
  | nil=>simp at hx'
  | cons y l ih =>
   rw [List.map_cons];unfold AVal.idsL;rcases List.mem_cons.1 hx' with rfl|hx'
   ·simp [hb]
   ·simp [ih hx']
 have hidL:∀ {l:List Operand},(∀ x∈l,x∈o.op.operands)→∀ b∈AVal.idsL (l.map s.ev),s'.H b=s.H b:=by
  intro l
  induction l with
  | nil=>intro _ b hb; simp [AVal.idsL] at hb
  | cons y l ih =>
   intro hl b hb;rw [List.map_cons] at hb;unfold AVal.idsL at hb;rcases List.mem_append.1 hb with hb|hb
   ·exact hid (hl y (by simp)) b hb
   ·exact ih (fun x hx=>hl x (by simp [hx])) b hb
 unfold I8 at *
 split at h
 case h_1 x ho=>rw [hev x (by simp [ho,Op.operands])]; exact h
 case h_2 x ho=>rw [hev x (by simp [ho,Op.operands])]; exact h
 case h_3 c x y ho =>
  rw [hev c (by simp [ho,Op.operands]),hev x (by simp [ho,Op.operands]),hev y (by simp [ho,Op.operands])]; exact h
 case h_4=>exact h
 case h_5 t x ho =>
  have hx:x∈o.op.operands:=by simp [ho,Op.operands]
  rw [hev x hx,a2v (H':=s'.H) (H:=s.H) _ (fun b hb=>hid hx b (by rwa [R5] at hb))]; exact h
 case h_6 t parts ho =>
  have e:(parts.toList.map fun p=>(p.1,s'.ev p.2))=parts.toList.map fun p=>(p.1,s.ev p.2):=List.map_congr_left fun p hp=>by rw [hev p.2 (by simp [ho,Op.operands]; exact ⟨p.1,by simpa using hp⟩)]
  rw [e,a8O fun b hb=>?_]
  ·exact h
  ·rw [List.map_map] at hb;refine hidL (l:=parts.toList.map (·.2)) (fun x hx=>?_) b (by simpa [Function.comp_def] using hb);obtain ⟨p,hp,rfl⟩:=List.mem_map.1 hx;simp [ho,Op.operands]; exact ⟨p.1,by simpa using hp⟩
 case h_7 t len parts ho =>
  have e:(parts.toList.map fun p=>(p.1,s'.ev p.2))=parts.toList.map fun p=>(p.1,s.ev p.2):=List.map_congr_left fun p hp=>by rw [hev p.2 (by simp [ho,Op.operands]; exact ⟨p.1,by simpa using hp⟩)]
  rw [e,a48 fun b hb=>?_]
  ·exact h
  ·rw [List.map_map] at hb;refine hidL (l:=parts.toList.map (·.2)) (fun x hx=>?_) b (by simpa [Function.comp_def] using hb);obtain ⟨p,hp,rfl⟩:=List.mem_map.1 hx;simp [ho,Op.operands]; exact ⟨p.1,by simpa using hp⟩
 case h_8 t x ho =>
  have hx:x∈o.op.operands:=by simp [ho,Op.operands]
  rw [hev x hx,a9N (hid hx)]; exact h
 case h_9 t x v ho =>
  have hx:x∈o.op.operands:=by simp [ho,Op.operands]
  have hv:v∈o.op.operands:=by simp [ho,Op.operands]
  rw [hev x hx,hev v hv,a8I (hid hx) (hid hv)]; exact h
 case h_10 x ho=>rw [hev x (by simp [ho,Op.operands])]; exact h
 case h_11 op t x y yt ho =>
  rw [hev x (by simp [ho,Op.operands]),hev y (by simp [ho,Op.operands])]; exact h
 case h_12 op t x ho=>rw [hev x (by simp [ho,Op.operands])]; exact h
 case h_13 src dst x ho=>rw [hev x (by simp [ho,Op.operands])]; exact h
 case h_14 f fst cap ho =>
  rw [a3s fun x hx=>hev x (by simp [ho,Op.operands]; exact .inl (by simpa using hx)),a3s fun x hx=>hev x (by simp [ho,Op.operands]; exact .inr (by simpa using hx))]; exact h
 case h_15 t l c ho =>
  rw [hev l (by simp [ho,Op.operands]),hev c (by simp [ho,Op.operands])]; exact h
 case h_16 t x lo hi ho =>
  have hx:x∈o.op.operands:=by simp [ho,Op.operands]
  have e1:lo.map s'.ev=lo.map s.ev:=by cases lo<;>simp [hev _,ho,Op.operands]
  have e2:hi.map s'.ev=hi.map s.ev:=by cases hi<;>simp [hev _,ho,Op.operands]
  rw [hev x hx,e1,e2,a8J (hid hx)]; exact h
 case h_17 t x f ho=>rw [hev x (by simp [ho,Op.operands])]; exact h
 case h_18 t x f ho=>rw [hev x (by simp [ho,Op.operands])]; exact h
 case h_19 t x ix ho =>
  have hx:x∈o.op.operands:=by simp [ho,Op.operands]
  rw [hev x hx,hev ix (by simp [ho,Op.operands]),a5C (hid hx)]; exact h
 case h_20 x i ho=>rw [hev x (by simp [ho,Op.operands])]; exact h
 case h_21 c ho =>
  have hargs:∀ x∈c.args.toList,x∈o.op.operands:=fun x hx=>by simp [ho,Op.operands,Call.operands]; exact .inr (by simpa using hx)
  rw [a3s fun x hx=>hev x (hargs x hx)]
  split at h
  ·rename_i b hc;rw [a7n (hidL hargs)]; exact h
  ·rename_i f hc;have hf:f∈o.op.operands:=by simp [ho,Op.operands,Call.operands,hc]
   rw [hev f hf];rcases hC (by simp [ho,P1,hc]) with hH0|hH0|hH0
   ·exact a5D (.inl hH0) h
   ·refine a5D (.inr ?_) h;have hz:∀ (l:List Operand),AVal.idsL (l.map s.ev)=[]→∀ x∈l,(s.ev x).ids=[]:=by
     intro l
     induction l with
     | nil=>intro _ x hx; simp at hx
     | cons y l ih =>
      intro h0 x hx;simp only [List.map_cons,AVal.idsL,List.append_eq_nil_iff] at h0;rcases List.mem_cons.1 hx with rfl|hx
      ·exact h0.1
      ·exact ih h0.2 x hx
    have hy:∀ (l:List Operand),(∀ x∈l,(s.ev x).ids=[])→AVal.idsL (l.map s.ev)=[]:=by
     intro l
     induction l with
     | nil=>intro _; rfl
     | cons y l ih =>
      intro h0;simp only [List.map_cons,AVal.idsL,h0 y (by simp),ih (fun x hx=>h0 x (by simp [hx])),List.append_nil]
    exact ⟨hz _ hH0 f (by simpa using hf),hy _ fun x hx=>hz _ hH0 x (by simpa using hargs x hx)⟩
   ·have hm:∀ (l:List Operand),∀ x∈l,∀ b∈(s.ev x).ids,b∈AVal.idsL (l.map s.ev):=by
     intro l
     induction l with
     | nil=>intro x hx; simp at hx
     | cons y l ih =>
      intro x hx b hb;simp only [List.map_cons,AVal.idsL,List.mem_append];rcases List.mem_cons.1 hx with rfl|hx
      ·exact .inl hb
      ·exact .inr (ih x hx b hb)
    have hq:∀ (l:List Operand),(∀ x∈l,x∈o.op.operands)→∀ b∈AVal.idsL (l.map s.ev),b∈AVal.idsL (o.op.operands.toList.map s.ev):=by
     intro l
     induction l with
     | nil=>intro _ b hb; simp [AVal.idsL] at hb
     | cons y l ih =>
      intro hx b hb;simp only [List.map_cons,AVal.idsL,List.mem_append] at hb;rcases hb with hb|hb
      ·exact hm _ y (by simpa using hx y (by simp)) b hb
      ·exact ih (fun z hz=>hx z (by simp [hz])) b hb
    exact hH0 _ _ _ (fun b hb=>by
     rcases List.mem_append.1 hb with hb|hb
     ·exact hm _ f (by simpa using hf) b hb
     ·exact hq _ hargs b hb) h
  ·exact h.elim
 case h_22 t x lo hi mx ho =>
  have hx:x∈o.op.operands:=by simp [ho,Op.operands]
  have e1:lo.map s'.ev=lo.map s.ev:=by cases lo<;>simp [hev _,ho,Op.operands]
  have e2:hi.map s'.ev=hi.map s.ev:=by cases hi<;>simp [hev _,ho,Op.operands]
  rw [hev x hx,e1,e2,hev mx (by simp [ho,Op.operands])]; exact h
 case h_23 t x y ok ho =>
  have hx:x∈o.op.operands:=by simp [ho,Op.operands]
  rw [hev x hx,hev y (by simp [ho,Op.operands])];unfold U2 at *
  split at h
  ·rename_i b hxb;rw [hid hx b (by rw [hxb]; simp [AVal.ids])];exact h
  ·exact h.elim
 case h_24=>exact h.elim
theorem b1q {ops:List Oper} {o:Oper} (hev:∀ x∈o.op.operands,s'.ev x=s.ev x) (hg0:∀ j want t,o.guard=some (j,want)→(ops[j]?).bind (·.dst)=some t→s'.σ t=s.σ t)
  (hH:∀ b∈AVal.idsL (o.op.operands.toList.map s.ev),s'.H b=s.H b) (hC:P1 o.op=true→s'.H=s.H∨AVal.idsL (o.op.operands.toList.map s.ev)=[]∨∀ d f args,(∀ b∈f.ids++AVal.idsL args,b∈AVal.idsL (o.op.operands.toList.map s.ev))→L2 P s d f args K→L2 P s' d f args K) (h:R6 P T ops s o K):R6 P T ops s' o K:=by
 unfold R6 at *
 cases hg:o.guard with
 | none=>simp only [hg] at h ⊢; exact W4 hev hH hC h
 | some q =>
  obtain ⟨j,want⟩:=q;simp only [hg] at h ⊢
  cases hj:(ops[j]?).bind (·.dst) with
  | none=>simp [hj] at h
  | some t =>
   simp only [hj] at h ⊢;rw [hg0 j want t hg hj]
   cases hσ:s.σ t<;>simp only [hσ] at h ⊢
   case bool p=>exact ⟨fun hp=>W4 hev hH hC (h.1 hp),h.2⟩
   case cv u=>exact h
end
end Go.Proofs.YtanaeefeggokkaaGreat
/-! The abstract machine,15: regions that draw their order. No program is named here. -/
namespace Go.Proofs.YtanaeefeggokkaaGreat
open Go.RowKit
set_option linter.constructorNameAsVariable false
mutual
def b5F:AVal→Bool
 | .un=>false
 | .int _ _=>true
 | .bool _=>true
 | .sl _ _=>true
 | .cut _ _=>true
 | .own _=>true
 | .bp _ _=>true
 | .ap _ _ _ _=>true
 | .vw _ _ _ _=>true
 | .one=>true
 | .dp _ _ _=>true
 | .cv _=>true
 | .agg l=>S5 l
 | .tup l=>S5 l
 | .fn _ p c=>S5 p&&S5 c
def S5:List AVal→Bool
 | []=>true
 | x::l=>b5F x&&S5 l
end
def a7j (a b:List Nat):Bool:=a.all b.contains
def ovl (a b:List Nat):Bool:=a.any b.contains
theorem Q4 {a b:List Nat} (h:a7j a b=true) {x:Nat} (hx:x∈a):x∈b:=by
 have:=List.all_eq_true.1 h x hx;simpa using this
theorem G9 {a b:List Nat} (h:ovl a b=false) {x:Nat} (hx:x∈a) (hx':x∈b):False:=by
 have:ovl a b=true:=List.any_eq_true.2 ⟨x,hx,by simpa using hx'⟩;rw [h] at this; cases this
def m8:List (Nat×ABlk)→List Nat
 | []=>[]
 | (c,_)::r=>c::m8 r
theorem N0:∀ {h:List (Nat×ABlk)} {b:Nat} {B:ABlk},b6 h b=some B→b∈m8 h
 | [],b,B,h=>by cases h
 | (c,C)::r,b,B,h=>by
  unfold b6 at h;unfold m8
  split at h
  ·rename_i e; subst e; exact List.mem_cons_self
  ·exact List.mem_cons_of_mem _ (N0 h)
theorem G6 {x:AVal} (h:x.ids=[]) (K:List Nat):x.clean K=x:=by
 unfold AVal.clean;rw [if_neg];intro hc;obtain ⟨b,_,hb⟩:=List.any_eq_true.1 hc;have:=a5O x b hb;rw [h] at this;simp at this
theorem M1 {x:AVal} {K:List Nat} (h:∀ b∈x.ids,b ∉ K):x.clean K=x:=by
 unfold AVal.clean;rw [if_neg];intro hc;obtain ⟨b,hb,hx⟩:=List.any_eq_true.1 hc;exact h b (a5O x b hx) hb
theorem a4t {x:AVal} {K:List Nat} (h:b5F (x.clean K)=true):x.clean K=x:=by
 unfold AVal.clean at *
 split at h
 ·cases h
 ·rename_i hc; rw [if_neg hc]
theorem a3C {K:List Nat}:∀ {l:List AVal},S5 (l.map (AVal.clean K))=true→l.map (AVal.clean K)=l
 | [],_=>rfl
 | x::l,h=>by
  simp only [List.map_cons,S5,Bool.and_eq_true] at h;rw [List.map_cons,a4t h.1,a3C h.2]
theorem a1e {K:List Nat}:∀ {l:List AVal},(∀ b∈AVal.idsL l,b ∉ K)→l.map (AVal.clean K)=l
 | [],_=>rfl
 | x::l,h=>by
  rw [List.map_cons,M1 (fun b hb=>h b (by unfold AVal.idsL; exact List.mem_append_left _ hb)),a1e (fun b hb=>h b (by unfold AVal.idsL; exact List.mem_append_right _ hb))]
theorem a5s (x:AVal) (K K':List Nat):(x.clean K).clean K'=(x.clean K').clean K:=by
 unfold AVal.clean
 by_cases h1:(K.any fun b=>x.has b)=true<;>by_cases h2:(K'.any fun b=>x.has b)=true<;>simp [h1,h2,AVal.has]
theorem a7f (B:ABlk) (K K':List Nat):(B.clean K).clean K'=(B.clean K').clean K:=by
 cases B with
 | box ty cs=>simp only [ABlk.clean,List.map_map]; congr 1; apply List.map_congr_left; intro x _; exact a5s x K K'
 | obx ty cs=>simp only [ABlk.clean,List.map_map]; congr 1; apply List.map_congr_left; intro x _; exact a5s x K K'
 | arr=>rfl
 | imm=>rfl
 | map=>rfl
def J2 (φ:List Nat):ABlk→Bool
 | .box _ cs=>S5 cs&&a7j (AVal.idsL cs) φ
 | .obx _ cs=>S5 cs&&a7j (AVal.idsL cs) φ
 | .arr _ _ _=>true
 | .imm _ _=>true
 | .map _ _ _ _ _=>true
theorem a42 {φ K:List Nat} {B:ABlk} (h:J2 φ (B.clean K)=true):B.clean K=B:=by
 cases B with
 | box ty cs =>
  simp only [ABlk.clean,J2,Bool.and_eq_true] at *;rw [a3C h.1]
 | obx ty cs =>
  simp only [ABlk.clean,J2,Bool.and_eq_true] at *;rw [a3C h.1]
 | arr=>rfl
 | imm=>rfl
 | map=>rfl
theorem a52 {φ K:List Nat} {B:ABlk} (h:J2 φ B=true) (hd:∀ b∈φ,b ∉ K):B.clean K=B:=by
 cases B with
 | box ty cs =>
  simp only [J2,Bool.and_eq_true] at h;simp only [ABlk.clean];rw [a1e fun b hb=>hd b (Q4 h.2 hb)]
 | obx ty cs =>
  simp only [J2,Bool.and_eq_true] at h;simp only [ABlk.clean];rw [a1e fun b hb=>hd b (Q4 h.2 hb)]
 | arr=>rfl
 | imm=>rfl
 | map=>rfl
def H3 (l:List (Nat×List Nat)) (i:Nat):Option (List Nat) :=
 match l with
 | []=>none
 | (j,x)::r=>if i=j then some x else H3 r i
def X6 (o:Oper):Bool:=match o.op with
 | .move _=>true
 | _=>false
def bpB (s:ASt) (o:Oper):Bool:=match o.op with
 | .indexAddr _ x _=>(match s.ev x with
  | .bp _ _=>true
  | _=>false)
 | .nilCheck x=>(match s.ev x with
  | .bp _ _=>true
  | _=>false)
 | _=>false
def bl (φ:List Nat) (o:Oper):Bool:=X6 o || φ.contains 999999
def a4F (F:List (Nat×List Nat)) (i:Nat) (τ:List Nat):List Nat:=match H3 F (i+100000) with
 | some κ=>κ
 | none=>τ
def unm (φ:List Nat):List Nat:=φ.filter fun b=>!φ.contains (b+1000000000)
theorem b2Z {φ:List Nat} {b:Nat} (h:b∈φ) (hm:φ.contains (b+1000000000)=false):b∈unm φ:=List.mem_filter.2 ⟨h,by rw [hm]; rfl⟩
theorem b9b {a c:List Nat} (h:∀ b∈a,b ∉ c):ovl a c=false:=by
 rw [Bool.eq_false_iff];intro ho;obtain ⟨b,hb,hc⟩:=List.any_eq_true.1 ho;exact h b hb (by simpa using hc)
def a8t (X F:List (Nat×List Nat)) (bi bj:Bool) (i j:Nat):Bool :=
 match H3 X i,H3 X j with
 | none,none=>true
 | some τ,none=>match H3 F j with
  | some φ=>!ovl τ φ || ((bj || φ.contains 999999)&&!ovl (a4F F i τ) φ) || (!ovl τ (unm φ)&&!ovl (a4F F i τ) φ)
  | none=>false
 | none,some τ'=>match H3 F i with
  | some φ=>!ovl τ' φ || ((bi || φ.contains 999999)&&!ovl (a4F F j τ') φ) || (!ovl τ' (unm φ)&&!ovl (a4F F j τ') φ)
  | none=>false
 | some τ,some τ'=>match H3 F i,H3 F j with
  | some φ,some φ'=>!ovl τ φ'&&!ovl τ' φ&&!ovl τ τ'
  | _,_=>false
def Q1 (s:ASt) (φ:List Nat):Bool :=
 φ.contains 999998&&φ.all fun b=>!φ.contains (b+1000000000)&&match s.H b with|some B=>J2 φ B|none=>true
section
variable (P:Program) (T:Tab)
def a35 (s:ASt) (φ:List Nat) (o:Oper):Bool :=
 S5 (o.op.operands.toList.map s.ev)&&a7j (AVal.idsL (o.op.operands.toList.map s.ev)) φ&&(bl φ o || (AVal.idsL (o.op.operands.toList.map s.ev)).all fun b=>match s.H b with|some B=>J2 φ B|none=>true)&&(!φ.contains 999999 || bpB s o) &&
  (!P1 o.op || (AVal.idsL (o.op.operands.toList.map s.ev)).isEmpty || Q1 s φ)&&(AVal.idsL (o.op.operands.toList.map s.ev)).all fun b=>!φ.contains (b+1000000000)
def a57 (X F:List (Nat×List Nat)) (i:Nat) (e:Eff):Bool :=
 (match H3 X i with
 | some τ=>a7j e.kill τ&&a7j (m8 e.hp) τ
 | none=>e.kill.isEmpty&&e.hp.isEmpty) &&
 (match H3 F i with
 | some φ=>a7j e.v.ids φ&&a7j (a2D e.hp) φ&&(!φ.contains 999998 || (a7j e.kill φ&&a7j (m8 e.hp) φ))
 | none=>true) &&
 (match H3 F (i+100000) with
 | some κ=>a7j e.kill κ
 | none=>true)
def I6 (ops:List Oper) (X F:List (Nat×List Nat)):Nat→List Oper→ASt→(ASt→Prop)→Prop
 | _,[],s,K=>K s
 | i,o::r,s,K=>(match H3 F i with|some φ=>a35 s φ o=true|none=>True)∧R6 P T ops s o fun e=>a57 X F i e=true∧I6 ops X F (i+1) r (s.app o.dst e) K
structure StepF (ops:List Oper) (X F:List (Nat×List Nat)) (i:Nat) (o:Oper) (s:ASt) (e:Eff):Prop where
 sol:∀ φ,H3 F i=some φ→a35 s φ o=true
 eff:a57 X F i e=true
 step:R6 P T ops s o fun y=>y=e
def b4y (ops:List Oper) (X F:List (Nat×List Nat)) (E:Nat→Eff) (Q:ASt→Prop):Nat→Array Bool→ASt→Prop
 | 0,listed,s=>Region.ready .any ops.toArray listed=[]∧Q s
 | I3+1,listed,s=>(Region.ready .any ops.toArray listed=[]→Q s) ∧
  ∀ i∈Region.ready .any ops.toArray listed,∃ o,ops[i]?=some o∧StepF P T ops X F i o s (E i)∧b4y ops X F E Q I3 (listed.setIfInBounds i true) (s.app o.dst (E i))
def trF (ops:List Oper) (X F:List (Nat×List Nat)) (E:Nat→Eff) (Q:ASt→Prop):Nat→List Oper→ASt→Prop
 | _,[],s=>Q s
 | i,o::r,s=>StepF P T ops X F i o s (E i)∧trF ops X F E Q (i+1) r (s.app o.dst (E i))
end
section
variable {P:Program} {T:Tab} {ops:List Oper} {X F:List (Nat×List Nat)} {E:Nat→Eff} {Q:ASt→Prop}
theorem a81 {E':Nat→Eff}:∀ (l:List Oper) (i:Nat) (s:ASt),(∀ j,i≤j→E' j=E j)→trF P T ops X F E Q i l s→trF P T ops X F E' Q i l s
 | [],_,_,_,h=>h
 | o::r,i,s,he,h=>by
  unfold trF at *;rw [he i (Nat.le_refl _)];exact ⟨h.1,a81 r (i+1) _ (fun j hj=>he j (by omega)) h.2⟩
theorem b1V:∀ (l:List Oper) (i:Nat) (s:ASt),I6 P T ops X F i l s Q→∃ E,trF P T ops X F E Q i l s
 | [],_,_,h=>⟨fun _=>{ v:=.un },h⟩
 | o::r,i,s,h=>by
  unfold I6 at h;obtain ⟨hsol,h⟩:=h;obtain ⟨e,h1,h2,h4⟩:=b4j h;obtain ⟨E,hE⟩:=b1V r (i+1) _ h4;refine ⟨fun j=>if j=i then e else E j,?_⟩;unfold trF;simp only [if_true];refine ⟨⟨fun φ hφ=>?_,h2,h1⟩,a81 r (i+1) _ (fun j hj=>by rw [if_neg (by omega)]) hE⟩;rw [hφ] at hsol;exact hsol
theorem V9 (s:ASt) (d:Option Nat) (e:Eff) (t:Nat):(s.app d e).σ t=if d=some t then e.v else (s.σ t).clean e.kill:=rfl
theorem a18 (s:ASt) (d:Option Nat) (e:Eff) (b:Nat):(s.app d e).H b=match b6 e.hp b with|some B=>some B|none=>if e.kill.contains b then none else (s.H b).map (ABlk.clean e.kill):=rfl
theorem J8 {s:ASt} {d:Option Nat} {e:Eff} (h:e.kill=[]∧e.hp=[]):(s.app d e).H=s.H:=by
 funext b
 rw [a18,h.1,h.2];simp only [b6,List.contains_nil,Bool.false_eq_true,if_false];rw [show ABlk.clean []=id from funext z9];simp
theorem R8 {s:ASt} {d:Option Nat} {e:Eff} (h:e.kill=[]∧e.hp=[]) {t:Nat} (hd:d≠some t):(s.app d e).σ t=s.σ t:=by
 rw [V9,if_neg hd,h.1,a0p]
theorem a2Y {o:Oper} {t:Nat} (h:Operand.tmp t∈o.op.operands):t∈o.looksAt ops.toArray :=
 List.mem_append_left _ (List.mem_filterMap.2 ⟨.tmp t,by simpa using h,rfl⟩)
theorem a04 {o:Oper} {j t:Nat} {want:Bool} (hg:o.guard=some (j,want)) (hj:(ops[j]?).bind (·.dst)=some t):t∈o.looksAt ops.toArray:=by
 refine List.mem_append_right _ ?_;simp only [hg];have:(ops.toArray[j]?).bind (·.dst)=some t:=by simpa using hj
 rw [this]; simp
theorem b9L {s s':ASt} {o:Oper} (h:∀ t,t∈o.looksAt ops.toArray→s'.σ t=s.σ t):∀ x∈o.op.operands,s'.ev x=s.ev x:=by
 intro x hx
 cases x with
 | tmp t=>exact h t (a2Y hx)
 | const v=>rfl
 | global g=>rfl
 | func f=>rfl
theorem a3g {o:Oper} {s s':ASt} (hev:∀ x∈o.op.operands,s'.ev x=s.ev x):bpB s' o=bpB s o:=by
 unfold bpB
 cases hop:o.op<;>try rfl
 case indexAddr t x y =>
  rw [hop] at hev;simp only;rw [hev x (by simp [Op.operands])]
 case nilCheck x =>
  rw [hop] at hev;simp only;rw [hev x (by simp [Op.operands])]
theorem StepF.congr {i:Nat} {o:Oper} {s s':ASt} {e:Eff} (hσ:∀ t,t∈o.looksAt ops.toArray→s'.σ t=s.σ t) (hH:s'.H=s.H) (h:StepF P T ops X F i o s e):StepF P T ops X F i o s' e:=by
 have hev:=b9L hσ;have hmap:o.op.operands.toList.map s'.ev=o.op.operands.toList.map s.ev:=List.map_congr_left fun x hx=>hev x (by simpa using hx);exact ⟨fun φ hf=>by have:=h.sol φ hf; unfold a35 at *; rw [hmap,hH,a3g hev,show Q1 s' φ=Q1 s φ by unfold Q1; rw [hH]]; exact this,h.eff,b1q hev (fun j want t hg hj=>hσ t (a04 hg hj)) (fun b _=>by rw [hH]) (fun _=>.inl hH) h.step⟩
theorem a4L {i:Nat} {e:Eff} {τ:List Nat} (h:a57 X F i e=true) (hx:H3 X i=some τ):(∀ b∈e.kill,b∈τ)∧∀ b B,b6 e.hp b=some B→b∈τ:=by
 unfold a57 at h;rw [hx] at h;simp only [Bool.and_eq_true] at h;exact ⟨fun b hb=>Q4 h.1.1.1 hb,fun b B hb=>Q4 h.1.1.2 (N0 hb)⟩
theorem a56 {i:Nat} {e:Eff} {τ:List Nat} (h:a57 X F i e=true) (hx:H3 X i=some τ):∀ b∈e.kill,b∈a4F F i τ:=by
 intro b hb;unfold a4F
 cases hk:H3 F (i+100000) with
 | none=>exact (a4L h hx).1 b hb
 | some κ =>
  unfold a57 at h;rw [hk] at h;simp only [Bool.and_eq_true] at h;exact Q4 h.2 hb
theorem a7H {i:Nat} {e:Eff} {φ:List Nat} (h:a57 X F i e=true) (hf:H3 F i=some φ):(∀ b∈e.v.ids,b∈φ)∧∀ b∈a2D e.hp,b∈φ:=by
 unfold a57 at h;rw [hf] at h;simp only [Bool.and_eq_true] at h;exact ⟨fun b hb=>Q4 h.1.2.1.1 hb,fun b hb=>Q4 h.1.2.1.2 hb⟩
theorem b1x {i:Nat} {e:Eff} {φ:List Nat} (h:a57 X F i e=true) (hf:H3 F i=some φ) (hc:φ.contains 999998=true):(∀ b∈e.kill,b∈φ)∧∀ b∈m8 e.hp,b∈φ:=by
 unfold a57 at h;rw [hf] at h;simp only [Bool.and_eq_true,hc,Bool.not_true,Bool.false_or] at h;exact ⟨fun b hb=>Q4 h.1.2.2.1 hb,fun b hb=>Q4 h.1.2.2.2 hb⟩
theorem a6N {i:Nat} {e:Eff} (h:a57 X F i e=true) (hx:H3 X i=none):e.kill=[]∧e.hp=[]:=by
 unfold a57 at h;rw [hx] at h;simp only [Bool.and_eq_true,List.isEmpty_iff] at h;exact h.1.1
structure Sees (s:ASt) (φ:List Nat) (o:Oper):Prop where
 known:∀ x∈o.op.operands,b5F (s.ev x)=true
 ids:∀ x∈o.op.operands,∀ b∈(s.ev x).ids,b∈φ
 all:∀ b∈AVal.idsL (o.op.operands.toList.map s.ev),b∈φ
 blk:bl φ o=false→∀ b∈AVal.idsL (o.op.operands.toList.map s.ev),∀ B,s.H b=some B→J2 φ B=true
 call:P1 o.op=true→AVal.idsL (o.op.operands.toList.map s.ev)=[]∨Q1 s φ=true
 bp:φ.contains 999999=true→bpB s o=true
 own:∀ b∈AVal.idsL (o.op.operands.toList.map s.ev),φ.contains (b+1000000000)=false
theorem a7w {s:ASt} {φ:List Nat} {o:Oper} (h:a35 s φ o=true):Sees s φ o:=by
 unfold a35 at h;simp only [Bool.and_eq_true,Bool.or_eq_true,Bool.not_eq_true',List.isEmpty_iff] at h;obtain ⟨⟨⟨⟨⟨h1,h2⟩,h3⟩,h5⟩,h4⟩,h6⟩:=h;have hm:∀ (l:List Operand),S5 (l.map s.ev)=true→∀ x∈l,b5F (s.ev x)=true:=by
  intro l
  induction l with
  | nil=>intro _ x hx; simp at hx
  | cons y l ih =>
   intro h x hx;simp only [List.map_cons,S5,Bool.and_eq_true] at h;rcases List.mem_cons.1 hx with rfl|hx
   ·exact h.1
   ·exact ih h.2 x hx
 have hi:∀ (l:List Operand),∀ x∈l,∀ b∈(s.ev x).ids,b∈AVal.idsL (l.map s.ev):=by
  intro l
  induction l with
  | nil=>intro x hx; simp at hx
  | cons y l ih =>
   intro x hx b hb;simp only [List.map_cons,AVal.idsL,List.mem_append];rcases List.mem_cons.1 hx with rfl|hx
   ·exact .inl hb
   ·exact .inr (ih x hx b hb)
 refine ⟨fun x hx=>hm _ h1 x (by simpa using hx),fun x hx b hb=>Q4 h2 (hi _ x (by simpa using hx) b hb),fun b hb=>Q4 h2 hb,fun hbl b hb B hB=>?_,fun hc=>?_,fun hc=>h5.resolve_left (by rw [hc]; simp),fun b hb=>by simpa using List.all_eq_true.1 h6 b hb⟩
 ·rcases h3 with h3|h3
  ·rw [hbl] at h3; cases h3
  have:=List.all_eq_true.1 h3 b hb;rw [hB] at this;exact this
 ·rcases h4 with (h4|h4)|h4
  ·rw [hc] at h4; cases h4
  ·exact .inl h4
  ·exact .inr h4
mutual
theorem b2W {H H':l3} {D D' N:List Nat} {ρ:Nat→Nat} {φ:List Nat} (hH:∀ b∈φ,H' b=H b) (hD:∀ b∈φ,D'.contains b=D.contains b) (hD2:∀ b∈φ,D'.contains (b+1000000000)=D.contains (b+1000000000)):∀ (x y:AVal),(∀ b∈x.ids,b∈φ)→LeV H D N ρ x y→LeV H' D' N ρ x y
 | .own b,y,h,hl=>by
  have hb:=h b (by simp [AVal.ids]);unfold LeV at *;rw [hH b hb,hD b hb]; exact hl
 | .agg l,y,h,hl=>by
  unfold LeV at *
  split at hl<;>first|trivial|exact W3 hH hD hD2 l _ (by simpa [AVal.ids] using h) hl
 | .tup l,y,h,hl=>by
  unfold LeV at *
  split at hl<;>first|trivial|exact W3 hH hD hD2 l _ (by simpa [AVal.ids] using h) hl
 | .fn f p c,y,h,hl=>by
  unfold LeV at *;have h1:∀ b∈AVal.idsL p,b∈φ:=fun b hb=>h b (by simp [AVal.ids,hb]);have h2:∀ b∈AVal.idsL c,b∈φ:=fun b hb=>h b (by simp [AVal.ids,hb])
  split at hl<;>first|trivial|exact ⟨hl.1,W3 hH hD hD2 p _ h1 hl.2.1,W3 hH hD hD2 c _ h2 hl.2.2⟩
 | .bp b o,y,h,hl=>by
  have hb:=h b (by simp [AVal.ids]);unfold LeV at *;rw [hH b hb,hD2 b hb]; exact hl
 | .ap b _ _ _,y,h,hl=>by unfold LeV at *; exact hl
 | .vw b _ _ _,y,h,hl=>by
  have hb:=h b (by simp [AVal.ids]);unfold LeV at *;rw [hH b hb,hD b hb,hD2 b hb]; exact hl
 | .one,y,_,hl=>by unfold LeV at *; exact hl
 | .un,y,_,hl=>by unfold LeV at *; exact hl
 | .int _ _,y,_,hl=>by unfold LeV at *; exact hl
 | .bool _,y,_,hl=>by unfold LeV at *; exact hl
 | .sl _ _,y,_,hl=>by unfold LeV at *; exact hl
 | .cut _ _,y,_,hl=>by unfold LeV at *; exact hl
 | .dp _ _ _,y,_,hl=>by unfold LeV at *; exact hl
 | .cv _,y,_,hl=>by unfold LeV at *; exact hl
theorem W3 {H H':l3} {D D' N:List Nat} {ρ:Nat→Nat} {φ:List Nat} (hH:∀ b∈φ,H' b=H b) (hD:∀ b∈φ,D'.contains b=D.contains b) (hD2:∀ b∈φ,D'.contains (b+1000000000)=D.contains (b+1000000000)):∀ (l m:List AVal),(∀ b∈AVal.idsL l,b∈φ)→LeL H D N ρ l m→LeL H' D' N ρ l m
 | [],m,_,hl=>by unfold LeL at *; exact hl
 | x::l,m,h,hl=>by
  unfold LeL at *
  split at hl
  ·exact hl.elim
  ·exact ⟨b2W hH hD hD2 x _ (fun b hb=>h b (by simp [AVal.idsL,hb])) hl.1,W3 hH hD hD2 l _ (fun b hb=>h b (by simp [AVal.idsL,hb])) hl.2⟩
end
theorem a8G {H H':l3} {D D':List Nat} {ρ:Nat→Nat} {φ:List Nat} (hH:∀ b∈φ,H' b=H b) (hD:∀ b∈φ,D'.contains b=D.contains b) (hD2:∀ b∈φ,D'.contains (b+1000000000)=D.contains (b+1000000000)) (hg:∀ b∈φ,∀ B,H b=some B→J2 φ B=true):∀ (l:List (Nat×ABlk)),(∀ c,i8 l c=true→ρ c∈φ)→LeH H D [] ρ l→LeH H' D' [] ρ l
 | [],_,_=>by unfold LeH; trivial
 | (c,B)::r,h,hl=>by
  unfold LeH at *;have hc:ρ c∈φ:=h c (by simp [i8]);simp only [List.contains_nil,Bool.false_eq_true,if_false] at hl ⊢;rw [hH _ hc];refine ⟨?_,a8G hH hD hD2 hg r (fun c' hc'=>h c' (by simp [i8,hc'])) hl.2⟩
  cases hB:H (ρ c) with
  | none=>rw [hB] at hl; exact hl.1
  | some B0 =>
   rw [hB] at hl;have h1:LeB H D [] ρ B0 B:=hl.1;show LeB H' D' [] ρ B0 B;have hgb:=hg _ hc _ hB
   cases B0 with
   | box ty cs =>
    unfold J2 at hgb;simp only [Bool.and_eq_true] at hgb
    cases B with
    | box ty' cs' =>
     have h2:ty=ty'∧LeL H D [] ρ cs cs':=h1;exact (show ty=ty'∧LeL H' D' [] ρ cs cs' from ⟨h2.1,W3 hH hD hD2 cs _ (fun b hb=>Q4 hgb.2 hb) h2.2⟩)
    | arr=>exact (show False from h1).elim
    | obx=>exact (show False from h1).elim
    | imm=>exact (show False from h1).elim
    | map=>exact (show False from h1).elim
   | obx ty cs =>
    unfold J2 at hgb;simp only [Bool.and_eq_true] at hgb
    cases B with
    | obx ty' cs' =>
     have h2:ty=ty'∧LeL H D [] ρ cs cs':=h1;exact (show ty=ty'∧LeL H' D' [] ρ cs cs' from ⟨h2.1,W3 hH hD hD2 cs _ (fun b hb=>Q4 hgb.2 hb) h2.2⟩)
    | arr=>exact (show False from h1).elim
    | box=>exact (show False from h1).elim
    | imm=>exact (show False from h1).elim
    | map=>exact (show False from h1).elim
   | arr e t xs=>unfold LeB at *; exact h1
   | imm t xs=>unfold LeB at *; exact h1
   | map ak ae kt vt xs=>unfold LeB at *; exact h1
theorem a3v:∀ (a b:List (Nat×ABlk)),m8 (a++b)=m8 a++m8 b
 | [],b=>rfl
 | (c,B)::r,b=>by
  show c::m8 (r++b)=c::(m8 r++m8 b);rw [a3v r b]
theorem a65 {H H':l3} {φ:List Nat} (hH:∀ b∈φ,H' b=H b):∀ (D:List Nat),(∀ b∈m8 (rest H D),b∈φ)→rest H' (D.filter fun b=>φ.contains b)=rest H D
 | [],_=>rfl
 | b::r,h=>by
  have key:∀ t xs e,H b=some (.arr e t xs)→b∈φ:=fun t xs e hB=>h b (by unfold rest; rw [hB]; simp [m8])
  have hr:∀ c∈m8 (rest H r),c∈φ:=fun c hc=>h c (by
   unfold rest
   split
   ·simp [m8,hc]
   ·exact hc)
  have ih:=a65 hH r hr
  by_cases hb:b∈φ
  ·rw [List.filter_cons_of_pos (by simpa using hb)];unfold rest;rw [hH b hb]
   split<;>rw [ih]
  ·rw [List.filter_cons_of_neg (by simpa using hb)]
   conv=>rhs; unfold rest
   split
   ·rename_i e t xs hB;exact (hb (key _ _ _ hB)).elim
   ·exact ih
theorem a9j {ρ:Nat→Nat}:∀ (l:List (Nat×ABlk)) (c:Nat),i8 l c=true→ρ c∈m8 (D9 ρ l)
 | [],c,h=>by cases h
 | (c',B)::r,c,h=>by
  unfold i8 at h;unfold D9 m8;rcases Bool.or_eq_true_iff.1 h with h|h
  ·have:c'=c:=by simpa using h
   subst this; simp
  ·simp [a9j r c h]
theorem a8f {rn:List (Nat×Nat)} {hout:List (Nat×ABlk)}:∀ (l:List (Nat×ABlk)) (c:Nat),i8 l c=true→i8 hout c=false→g6 rn c∈U4 rn hout l
 | [],c,h,_=>by cases h
 | (c',B)::r,c,h,ho=>by
  unfold i8 at h;unfold U4;rcases Bool.or_eq_true_iff.1 h with h|h
  ·have:c'=c:=by simpa using h
   subst this;rw [ho]; simp
  ·have:=a8f (rn:=rn) r c h ho
   split
   ·exact this
   ·simp [this]
theorem a4U {s s':ASt} {d:Nat} {f:AVal} {args:List AVal} {e:Eff} {φ:List Nat} (hH:∀ b∈φ,s'.H b=s.H b) (hg:∀ b∈φ,∀ B,s.H b=some B→J2 φ B=true) (hids:∀ b∈f.ids++AVal.idsL args,b∈φ)
  (he:(∀ b∈e.kill,b∈φ)∧∀ b∈m8 e.hp,b∈φ) (h:L2 P s d f args (fun y=>y=e)):L2 P s' d f args (fun y=>y=e):=by
 unfold L2 at *
 split at h
 ·rename_i g p c;obtain ⟨D,rn,hin,l,hout,r,h1,h2,h3,h4,h5⟩:=h;have hD:∀ b∈φ,(D.filter fun b=>φ.contains b || decide (1000000000≤b)).contains b=D.contains b:=fun b hb=>by
   rw [Bool.eq_iff_iff];simp [List.mem_filter,hb]
  have hD2:∀ b∈φ,(D.filter fun b=>φ.contains b || decide (1000000000≤b)).contains (b+1000000000)=D.contains (b+1000000000):=fun b hb=>by
   rw [Bool.eq_iff_iff];simp [List.mem_filter]
  have hsub:∀ b,(D.filter fun b=>φ.contains b || decide (1000000000≤b)).contains b=true→D.contains b=true:=fun b hb=>by
   simp [List.mem_filter] at hb
   simpa using hb.1
  subst h5;have hk:∀ c',i8 hin c'=true→g6 rn c'∈φ:=fun c' hc'=>by
   cases ho:i8 hout c' with
   | false=>exact he.1 _ (List.mem_append_left _ (a8f hin c' hc' ho))
   | true =>
    refine he.2 _ ?_;rw [a3v];refine List.mem_append_left _ ?_;have:=a9j (ρ:=E7 d rn hin) hout c' ho;have e1:E7 d rn hin c'=g6 rn c':=by unfold E7; rw [if_pos hc']
    rwa [e1] at this
  refine ⟨D.filter fun b=>φ.contains b || decide (1000000000≤b),rn,hin,l,hout,r,h1,?_,?_,a8G hH hD hD2 hg hin hk h4,?_⟩
  ·unfold a0R at h2 ⊢;simp only [Bool.and_eq_true] at h2 ⊢;obtain ⟨⟨⟨⟨⟨⟨⟨⟨⟨⟨a1,a2⟩,a3⟩,a4⟩,a5⟩,a6⟩,a7⟩,a8⟩,a9⟩,a10⟩,a11⟩:=h2;refine ⟨⟨⟨⟨⟨⟨⟨⟨⟨⟨a1,a2⟩,a3⟩,a4⟩,?_⟩,a6⟩,?_⟩,a8⟩,a9⟩,?_⟩,?_⟩
   ·rcases Bool.or_eq_true_iff.1 a5 with h0|h0
    ·simp only [Bool.and_eq_true,List.isEmpty_iff] at h0;rw [h0.1,h0.2]; rfl
    ·rw [h0]; simp
   ·refine List.all_eq_true.2 fun q hq=>?_;have:=List.all_eq_true.1 a7 q hq
    cases hc:(D.filter fun b=>φ.contains b || decide (1000000000≤b)).contains (g6 rn q.1) with
    | false=>rfl
    | true=>rw [hsub _ hc] at this; exact this
   ·refine List.all_eq_true.2 fun q hq=>?_;have:=List.all_eq_true.1 a10 q hq
    cases hc:(D.filter fun b=>φ.contains b || decide (1000000000≤b)).contains (g6 rn q.1+1000000000) with
    | false=>rfl
    | true=>rw [hsub _ hc] at this; exact this
   ·rcases Bool.or_eq_true_iff.1 a11 with h0|h0
    ·rw [h0]; rfl
    ·refine Bool.or_eq_true_iff.2 (.inr (List.all_eq_true.2 fun b hb=>List.all_eq_true.1 h0 b (List.mem_filter.1 hb).1))
  ·refine W3 hH hD hD2 _ _ (fun b hb=>?_) h3;rw [v9,v9] at hb;refine hids b ?_;simp only [AVal.ids,List.mem_append] at hb ⊢;rcases hb with (hb|hb)|hb
   ·exact .inl (.inl hb)
   ·exact .inr hb
   ·exact .inl (.inr hb)
  ·cases hdry:(r.dry&&a09 hout) with
   | true=>simp
   | false =>
    have hfew:(D.filter fun b=>φ.contains b || decide (1000000000≤b))=D.filter fun b=>φ.contains b:=by
     unfold a0R at h2;simp only [Bool.and_eq_true] at h2;have:=h2.2;rw [hdry,Bool.false_or] at this;refine List.filter_congr fun b hb=>?_;have:=List.all_eq_true.1 this b hb;simp only [decide_eq_true_eq] at this;rw [decide_eq_false (by omega),Bool.or_false]
    rw [hfew];simp only [hdry,Bool.false_eq_true,if_false] at he ⊢;rw [a65 hH D fun b hb=>he.2 b (by rw [a3v]; exact List.mem_append_right _ hb)]
 ·exact h.elim
theorem a3G {s:ASt} {φ:List Nat} (h:Q1 s φ=true):φ.contains 999998=true:=by
 unfold Q1 at h;simp only [Bool.and_eq_true] at h;exact h.1
theorem a16 {s:ASt} {φ:List Nat} (h:Q1 s φ=true) {b:Nat} (hb:b∈φ):φ.contains (b+1000000000)=false∧∀ B,s.H b=some B→J2 φ B=true:=by
 unfold Q1 at h;simp only [Bool.and_eq_true] at h;have:=List.all_eq_true.1 h.2 b hb;simp only [Bool.and_eq_true,Bool.not_eq_true'] at this;refine ⟨this.1,fun B hB=>?_⟩;have h2:=this.2;rw [hB] at h2;exact h2
theorem a43 {s s':ASt} {φ:List Nat} (hH:∀ b∈φ,s'.H b=s.H b) (h:Q1 s φ=true):Q1 s' φ=true:=by
 have hm:=a3G h;unfold Q1;simp only [Bool.and_eq_true];refine ⟨hm,List.all_eq_true.2 fun b hb=>?_⟩;obtain ⟨h1,h2⟩:=a16 h hb;rw [h1,hH b hb]
 cases hB:s.H b with
 | none=>rfl
 | some B=>simp [h2 B hB]
theorem a3H {o:Oper} {s s':ASt} (hb:X6 o=true∨bpB s o=true) {K:Eff→Prop} (hev:∀ x∈o.op.operands,s'.ev x=s.ev x) (h:I8 P T s o K):I8 P T s' o K:=by
 rcases hb with hb|hb
 case inr =>
  unfold bpB at hb;unfold I8 at h ⊢
  cases hop:o.op<;>simp only [hop,Bool.false_eq_true] at hb
  case indexAddr t x y =>
   rw [hop] at h hev;simp only at h ⊢;rw [hev x (by simp [Op.operands]),hev y (by simp [Op.operands])]
   cases hx:s.ev x<;>rw [hx] at hb<;>simp only [Bool.false_eq_true] at hb
   rw [hx] at h;unfold w7 at h ⊢;exact h
  case nilCheck x =>
   rw [hop] at h hev;simp only at h ⊢;rw [hev x (by simp [Op.operands])];exact h
 unfold X6 at hb;unfold I8 at h ⊢
 cases hop:o.op<;>simp only [hop,Bool.false_eq_true] at hb
 case move x =>
  rw [hop] at h hev;simp only at h ⊢;rw [hev x (by simp [Op.operands])];exact h
theorem StepF.blindBefore {i:Nat} {o:Oper} {s:ASt} {e e':Eff} {d:Option Nat} {φ:List Nat} (hbl:bl φ o=true) (hd:∀ t,d=some t→t ∉ o.looksAt ops.toArray) (hf:H3 F i=some φ)
  (h:StepF P T ops X F i o (s.app d e') e):StepF P T ops X F i o s e:=by
 have hsee:=a7w (h.sol φ hf);have hev:∀ x∈o.op.operands,s.ev x=(s.app d e').ev x:=by
  intro x hx
  cases x with
  | tmp t =>
   have hdt:d≠some t:=fun he=>hd t he (a2Y hx);have hb:=hsee.known _ hx;show s.σ t=(s.app d e').σ t;have:(s.app d e').ev (.tmp t)=(s.σ t).clean e'.kill:=by show (s.app d e').σ t=_; rw [V9,if_neg hdt]
   rw [this] at hb;rw [V9,if_neg hdt,a4t hb]
  | const v=>rfl
  | global g=>rfl
  | func f=>rfl
 have hbl':X6 o=true∨bpB (s.app d e') o=true:=by
  unfold bl at hbl;rcases Bool.or_eq_true_iff.1 hbl with h1|h1
  ·exact .inl h1
  ·exact .inr (hsee.bp h1)
 have hmap:o.op.operands.toList.map s.ev=o.op.operands.toList.map (s.app d e').ev:=List.map_congr_left fun x hx=>hev x (by simpa using hx);refine ⟨fun φ' hφ'=>?_,h.eff,?_⟩
 ·have h9:=h.sol φ' hφ';have eφ:φ'=φ:=by rw [hf] at hφ'; injection hφ' with hφ'; exact hφ'.symm
  subst eφ;have hfn:P1 o.op=false:=by
   rcases hbl' with hb|hb
   ·unfold X6 at hb
    cases hop:o.op<;>simp only [hop,Bool.false_eq_true] at hb<;>rfl
   ·unfold bpB at hb
    cases hop:o.op<;>simp only [hop,Bool.false_eq_true] at hb<;>rfl
  unfold a35 at *;rw [hmap,a3g hev];rw [hbl,hfn] at h9 ⊢;exact h9
 ·have hs:=h.step;unfold R6 at hs ⊢
  cases hg:o.guard with
  | none=>simp only [hg] at hs ⊢; exact a3H hbl' hev hs
  | some q =>
   obtain ⟨j,want⟩:=q;simp only [hg] at hs ⊢
   cases hj:(ops[j]?).bind (·.dst) with
   | none=>simp [hj] at hs
   | some t =>
    simp only [hj] at hs ⊢;have hdt:d≠some t:=fun he=>hd t he (a04 hg hj);have h9:(s.app d e').σ t=.un∨s.σ t=(s.app d e').σ t:=by
     rw [V9,if_neg hdt];unfold AVal.clean
     split
     ·exact .inl rfl
     ·exact .inr rfl
    rcases h9 with h9|h9
    ·rw [h9] at hs; exact hs.elim
    ·rw [h9]
     cases hσ:(s.app d e').σ t<;>simp only [hσ] at hs ⊢
     case bool p=>exact ⟨fun hp=>a3H hbl' hev (hs.1 hp),hs.2⟩
     case cv u=>exact hs
theorem StepF.blindBehind {i:Nat} {o:Oper} {s:ASt} {e e':Eff} {d:Option Nat} {φ κ:List Nat} (hbl:bl φ o=true) (hd:∀ t,d=some t→t ∉ o.looksAt ops.toArray) (hf:H3 F i=some φ) (ho:ovl κ φ=false) (hk:∀ b∈e'.kill,b∈κ)
  (h:StepF P T ops X F i o s e):StepF P T ops X F i o (s.app d e') e:=by
 have hsee:=a7w (h.sol φ hf);have hno:∀ b∈φ,b ∉ e'.kill:=fun b hb hb'=>G9 ho (hk b hb') hb;have hev:∀ x∈o.op.operands,(s.app d e').ev x=s.ev x:=by
  intro x hx
  cases x with
  | tmp t =>
   have hdt:d≠some t:=fun he=>hd t he (a2Y hx);show (s.app d e').σ t=s.σ t;rw [V9,if_neg hdt];exact M1 (x:=s.σ t) fun b hb=>hno b (hsee.ids (.tmp t) hx b hb)
  | const v=>rfl
  | global g=>rfl
  | func f=>rfl
 have hbl':X6 o=true∨bpB s o=true:=by
  unfold bl at hbl;rcases Bool.or_eq_true_iff.1 hbl with h1|h1
  ·exact .inl h1
  ·exact .inr (hsee.bp h1)
 have hmap:o.op.operands.toList.map (s.app d e').ev=o.op.operands.toList.map s.ev:=List.map_congr_left fun x hx=>hev x (by simpa using hx);refine ⟨fun φ' hφ'=>?_,h.eff,?_⟩
 ·have h9:=h.sol φ' hφ';have eφ:φ'=φ:=by rw [hf] at hφ'; injection hφ' with hφ'; exact hφ'.symm
  subst eφ;have hfn:P1 o.op=false:=by
   rcases hbl' with hb|hb
   ·unfold X6 at hb
    cases hop:o.op<;>simp only [hop,Bool.false_eq_true] at hb<;>rfl
   ·unfold bpB at hb
    cases hop:o.op<;>simp only [hop,Bool.false_eq_true] at hb<;>rfl
  unfold a35 at *;rw [hmap,a3g hev];rw [hbl,hfn] at h9 ⊢;exact h9
 ·have hs:=h.step;unfold R6 at hs ⊢
  cases hg:o.guard with
  | none=>simp only [hg] at hs ⊢; exact a3H hbl' hev hs
  | some q =>
   obtain ⟨j,want⟩:=q;simp only [hg] at hs ⊢
   cases hj:(ops[j]?).bind (·.dst) with
   | none=>simp [hj] at hs
   | some t =>
    simp only [hj] at hs ⊢;have hdt:d≠some t:=fun he=>hd t he (a04 hg hj)
    cases hσ:s.σ t<;>simp only [hσ] at hs
    case bool p =>
     rw [V9,if_neg hdt,hσ,G6 rfl];exact ⟨fun hp=>a3H hbl' hev (hs.1 hp),hs.2⟩
    case cv u =>
     rw [V9,if_neg hdt,hσ,G6 rfl];exact hs
theorem StepF.beforeG {i:Nat} {o:Oper} {s:ASt} {e e':Eff} {d:Option Nat} {φ:List Nat} (hd:∀ t,d=some t→t ∉ o.looksAt ops.toArray) (hf:H3 F i=some φ) (hk:∀ b∈e'.kill,b ∉ φ) (hp:∀ b B,b6 e'.hp b=some B→b∈φ→φ.contains (b+1000000000)=true)
  (h:StepF P T ops X F i o (s.app d e') e):StepF P T ops X F i o s e:=by
 cases hbl:bl φ o with
 | true=>exact StepF.blindBefore hbl hd hf h
 | false =>
 have hsee:=a7w (h.sol φ hf);have hev:∀ x∈o.op.operands,s.ev x=(s.app d e').ev x:=by
  intro x hx
  cases x with
  | tmp t =>
   have hdt:d≠some t:=fun he=>hd t he (a2Y hx);have hb:=hsee.known _ hx;show s.σ t=(s.app d e').σ t;have:(s.app d e').ev (.tmp t)=(s.σ t).clean e'.kill:=by show (s.app d e').σ t=_; rw [V9,if_neg hdt]
   rw [this] at hb;rw [V9,if_neg hdt,a4t hb]
  | const v=>rfl
  | global g=>rfl
  | func f=>rfl
 have hmap:o.op.operands.toList.map s.ev=o.op.operands.toList.map (s.app d e').ev:=List.map_congr_left fun x hx=>hev x (by simpa using hx);have hH:∀ b∈AVal.idsL (o.op.operands.toList.map (s.app d e').ev),s.H b=(s.app d e').H b:=by
  intro b hb;have hbφ:=hsee.all b hb;have h1:b6 e'.hp b=none:=by
   cases hg:b6 e'.hp b with
   | none=>rfl
   | some B=>have:=hp b B hg hbφ; rw [hsee.own b hb] at this; cases this
  have h2:e'.kill.contains b=false:=by
   cases hc:e'.kill.contains b with
   | false=>rfl
   | true=>exact (hk b (by simpa using hc) hbφ).elim
  rw [a18,h1,h2];simp only [Bool.false_eq_true,if_false]
  cases hB:s.H b with
  | none=>rfl
  | some B =>
   have hg:(s.app d e').H b=some (B.clean e'.kill):=by rw [a18,h1,h2,hB]; rfl
   have:=hsee.blk hbl b hb _ hg;rw [Option.map_some,a42 this]
 have hHφ:Q1 (s.app d e') φ=true→∀ b∈φ,s.H b=(s.app d e').H b:=by
  intro hcs b hbφ;obtain ⟨c1,c2⟩:=a16 hcs hbφ;have h1:b6 e'.hp b=none:=by
   cases hg:b6 e'.hp b with
   | none=>rfl
   | some B=>have:=hp b B hg hbφ; rw [c1] at this; cases this
  have h2:e'.kill.contains b=false:=by
   cases hc:e'.kill.contains b with
   | false=>rfl
   | true=>exact (hk b (by simpa using hc) hbφ).elim
  rw [a18,h1,h2];simp only [Bool.false_eq_true,if_false]
  cases hB:s.H b with
  | none=>rfl
  | some B =>
   have hg:(s.app d e').H b=some (B.clean e'.kill):=by rw [a18,h1,h2,hB]; rfl
   rw [Option.map_some,a42 (c2 _ hg)]
 have hcs:(!P1 o.op || (AVal.idsL (o.op.operands.toList.map (s.app d e').ev)).isEmpty || Q1 s φ)=true:=by
  cases hfc:P1 o.op with
  | false=>rfl
  | true =>
   rcases hsee.call hfc with h0|h0
   ·rw [h0]; rfl
   ·rw [a43 (hHφ h0) h0]; simp
 have hcall:P1 o.op=true→s.H=(s.app d e').H∨AVal.idsL (o.op.operands.toList.map (s.app d e').ev)=[]∨∀ d0 f args,(∀ b∈f.ids++AVal.idsL args,b∈AVal.idsL (o.op.operands.toList.map (s.app d e').ev))→L2 P (s.app d e') d0 f args (fun y=>y=e)→L2 P s d0 f args (fun y=>y=e):=fun hc =>
  (hsee.call hc).elim (fun h0=>.inr (.inl h0)) fun h0=>.inr (.inr fun d0 f args hids hst=>a4U (hHφ h0) (fun b hb=>(a16 h0 hb).2) (fun b hb=>hsee.all b (hids b hb)) (b1x h.eff hf (a3G h0)) hst)
 refine ⟨fun φ' hφ'=>?_,h.eff,?_⟩
 ·have h9:=h.sol φ' hφ';have eφ:φ'=φ:=by rw [hf] at hφ'; injection hφ' with hφ'; exact hφ'.symm
  subst eφ;unfold a35 at *;rw [hmap,a3g hev];have:((AVal.idsL (o.op.operands.toList.map (s.app d e').ev)).all fun b=>match s.H b with|some B=>J2 φ' B|none=>true)=((AVal.idsL (o.op.operands.toList.map (s.app d e').ev)).all fun b=>match (s.app d e').H b with|some B=>J2 φ' B|none=>true):=by
   rw [Bool.eq_iff_iff,List.all_eq_true,List.all_eq_true];exact ⟨fun h b hb=>by rw [← hH b hb]; exact h b hb,fun h b hb=>by rw [hH b hb]; exact h b hb⟩
  rw [this];simp only [Bool.and_eq_true] at h9 ⊢;exact ⟨⟨h9.1.1,hcs⟩,h9.2⟩
 ·have hs:=h.step;have hg0:∀ j want t,o.guard=some (j,want)→(ops[j]?).bind (·.dst)=some t→(s.app d e').σ t=.un∨s.σ t=(s.app d e').σ t:=by
   intro j want t hg hj;have hdt:d≠some t:=fun he=>hd t he (a04 hg hj);rw [V9,if_neg hdt];unfold AVal.clean
   split
   ·exact .inl rfl
   ·exact .inr rfl
  unfold R6 at hs ⊢
  cases hg:o.guard with
  | none=>simp only [hg] at hs ⊢; exact W4 hev hH hcall hs
  | some q =>
   obtain ⟨j,want⟩:=q;simp only [hg] at hs ⊢
   cases hj:(ops[j]?).bind (·.dst) with
   | none=>simp [hj] at hs
   | some t =>
    simp only [hj] at hs ⊢;rcases hg0 j want t hg hj with h9|h9
    ·rw [h9] at hs; exact hs.elim
    ·rw [h9]
     cases hσ:(s.app d e').σ t<;>simp only [hσ] at hs ⊢
     case bool p=>exact ⟨fun hp=>W4 hev hH hcall (hs.1 hp),hs.2⟩
     case cv u=>exact hs
theorem StepF.before {i:Nat} {o:Oper} {s:ASt} {e e':Eff} {d:Option Nat} {φ τ:List Nat} (hd:∀ t,d=some t→t ∉ o.looksAt ops.toArray) (hf:H3 F i=some φ) (ho:ovl τ φ=false) (hk:∀ b∈e'.kill,b∈τ) (hp:∀ b B,b6 e'.hp b=some B→b∈τ)
  (h:StepF P T ops X F i o (s.app d e') e):StepF P T ops X F i o s e :=
 StepF.beforeG hd hf (fun b hb hφ=>G9 ho (hk b hb) hφ) (fun b B hg hφ=>(G9 ho (hp b B hg) hφ).elim) h
theorem StepF.behindG {i:Nat} {o:Oper} {s:ASt} {e e':Eff} {d:Option Nat} {φ:List Nat} (hd:∀ t,d=some t→t ∉ o.looksAt ops.toArray) (hf:H3 F i=some φ) (hk:∀ b∈e'.kill,b ∉ φ) (hp:∀ b B,b6 e'.hp b=some B→b∈φ→φ.contains (b+1000000000)=true)
  (h:StepF P T ops X F i o s e):StepF P T ops X F i o (s.app d e') e:=by
 cases hbl:bl φ o with
 | true=>exact StepF.blindBehind hbl hd hf (b9b hk) (fun b hb=>hb) h
 | false =>
 have hsee:=a7w (h.sol φ hf);have hno:∀ b∈φ,b ∉ e'.kill:=fun b hb hb'=>hk b hb' hb;have hev:∀ x∈o.op.operands,(s.app d e').ev x=s.ev x:=by
  intro x hx
  cases x with
  | tmp t =>
   have hdt:d≠some t:=fun he=>hd t he (a2Y hx);show (s.app d e').σ t=s.σ t;rw [V9,if_neg hdt];exact M1 (x:=s.σ t) fun b hb=>hno b (hsee.ids (.tmp t) hx b hb)
  | const v=>rfl
  | global g=>rfl
  | func f=>rfl
 have hmap:o.op.operands.toList.map (s.app d e').ev=o.op.operands.toList.map s.ev:=List.map_congr_left fun x hx=>hev x (by simpa using hx);have hH:∀ b∈AVal.idsL (o.op.operands.toList.map s.ev),(s.app d e').H b=s.H b:=by
  intro b hb;have hbφ:=hsee.all b hb;have h1:b6 e'.hp b=none:=by
   cases hg:b6 e'.hp b with
   | none=>rfl
   | some B=>have:=hp b B hg hbφ; rw [hsee.own b hb] at this; cases this
  have h2:e'.kill.contains b=false:=by
   cases hc:e'.kill.contains b with
   | false=>rfl
   | true=>exact (hno b hbφ (by simpa using hc)).elim
  rw [a18,h1,h2];simp only [Bool.false_eq_true,if_false]
  cases hB:s.H b with
  | none=>rfl
  | some B=>rw [Option.map_some,a52 (hsee.blk hbl b hb B hB) hno]
 have hHφ:Q1 s φ=true→∀ b∈φ,(s.app d e').H b=s.H b:=by
  intro hcs b hbφ;obtain ⟨c1,c2⟩:=a16 hcs hbφ;have h1:b6 e'.hp b=none:=by
   cases hg:b6 e'.hp b with
   | none=>rfl
   | some B=>have:=hp b B hg hbφ; rw [c1] at this; cases this
  have h2:e'.kill.contains b=false:=by
   cases hc:e'.kill.contains b with
   | false=>rfl
   | true=>exact (hno b hbφ (by simpa using hc)).elim
  rw [a18,h1,h2];simp only [Bool.false_eq_true,if_false]
  cases hB:s.H b with
  | none=>rfl
  | some B=>rw [Option.map_some,a52 (c2 B hB) hno]
 have hcs:(!P1 o.op || (AVal.idsL (o.op.operands.toList.map s.ev)).isEmpty || Q1 (s.app d e') φ)=true:=by
  cases hfc:P1 o.op with
  | false=>rfl
  | true =>
   rcases hsee.call hfc with h0|h0
   ·rw [h0]; rfl
   ·rw [a43 (hHφ h0) h0]; simp
 have hcall:P1 o.op=true→(s.app d e').H=s.H∨AVal.idsL (o.op.operands.toList.map s.ev)=[]∨∀ d0 f args,(∀ b∈f.ids++AVal.idsL args,b∈AVal.idsL (o.op.operands.toList.map s.ev))→L2 P s d0 f args (fun y=>y=e)→L2 P (s.app d e') d0 f args (fun y=>y=e):=fun hc =>
  (hsee.call hc).elim (fun h0=>.inr (.inl h0)) fun h0=>.inr (.inr fun d0 f args hids hst=>a4U (hHφ h0) (fun b hb=>(a16 h0 hb).2) (fun b hb=>hsee.all b (hids b hb)) (b1x h.eff hf (a3G h0)) hst)
 refine ⟨fun φ' hφ'=>?_,h.eff,?_⟩
 ·have h9:=h.sol φ' hφ';have eφ:φ'=φ:=by rw [hf] at hφ'; injection hφ' with hφ'; exact hφ'.symm
  subst eφ;unfold a35 at *;rw [hmap,a3g hev];have:((AVal.idsL (o.op.operands.toList.map s.ev)).all fun b=>match (s.app d e').H b with|some B=>J2 φ' B|none=>true)=((AVal.idsL (o.op.operands.toList.map s.ev)).all fun b=>match s.H b with|some B=>J2 φ' B|none=>true):=by
   rw [Bool.eq_iff_iff,List.all_eq_true,List.all_eq_true];exact ⟨fun h b hb=>by rw [← hH b hb]; exact h b hb,fun h b hb=>by rw [hH b hb]; exact h b hb⟩
  rw [this];simp only [Bool.and_eq_true] at h9 ⊢;exact ⟨⟨h9.1.1,hcs⟩,h9.2⟩
 ·have hs:=h.step;unfold R6 at hs ⊢
  cases hg:o.guard with
  | none=>simp only [hg] at hs ⊢; exact W4 hev hH hcall hs
  | some q =>
   obtain ⟨j,want⟩:=q;simp only [hg] at hs ⊢
   cases hj:(ops[j]?).bind (·.dst) with
   | none=>simp [hj] at hs
   | some t =>
    simp only [hj] at hs ⊢;have hdt:d≠some t:=fun he=>hd t he (a04 hg hj)
    cases hσ:s.σ t<;>simp only [hσ] at hs
    case bool p =>
     rw [V9,if_neg hdt,hσ,G6 rfl];exact ⟨fun hp=>W4 hev hH hcall (hs.1 hp),hs.2⟩
    case cv u =>
     rw [V9,if_neg hdt,hσ,G6 rfl];exact hs
theorem StepF.behind {i:Nat} {o:Oper} {s:ASt} {e e':Eff} {d:Option Nat} {φ τ:List Nat} (hd:∀ t,d=some t→t ∉ o.looksAt ops.toArray) (hf:H3 F i=some φ) (ho:ovl τ φ=false) (hk:∀ b∈e'.kill,b∈τ) (hp:∀ b B,b6 e'.hp b=some B→b∈τ)
  (h:StepF P T ops X F i o s e):StepF P T ops X F i o (s.app d e') e :=
 StepF.behindG hd hf (fun b hb hφ=>G9 ho (hk b hb) hφ) (fun b B hg hφ=>(G9 ho (hp b B hg) hφ).elim) h
theorem a7O {e:Eff} {τ:List Nat} (hk:∀ b∈e.kill,b∈τ) (hp:∀ b B,b6 e.hp b=some B→b∈τ) {b:Nat} (hb:b ∉ τ):b6 e.hp b=none∧e.kill.contains b=false:=by
 refine ⟨?_,?_⟩
 ·cases hg:b6 e.hp b with
  | none=>rfl
  | some B=>exact absurd (hp b B hg) hb
 ·cases hc:e.kill.contains b with
  | false=>rfl
  | true=>exact absurd (hk b (by simpa using hc)) hb
theorem b1l {e:Eff} {K:List Nat} (h:∀ b∈a2D e.hp,b ∉ K) {b:Nat} {B:ABlk} (hg:b6 e.hp b=some B):B.clean K=B:=by
 cases B with
 | box ty cs =>
  simp only [ABlk.clean];rw [a1e fun b' hb'=>h b' (a2Z (.inl (y6 hg)) b' hb')]
 | obx ty cs =>
  simp only [ABlk.clean];rw [a1e fun b' hb'=>h b' (a2Z (.inr (y6 hg)) b' hb')]
 | arr=>rfl
 | imm=>rfl
 | map=>rfl
theorem b4x {s:ASt} {d d':Option Nat} {e e':Eff} {τ τ':List Nat} (hdd:∀ t,d=some t→d'≠some t) (hk:∀ b∈e.kill,b∈τ) (hp:∀ b B,b6 e.hp b=some B→b∈τ) (hk':∀ b∈e'.kill,b∈τ') (hp':∀ b B,b6 e'.hp b=some B→b∈τ')
  (hττ:ovl τ τ'=false) (hv:∀ b∈e.v.ids,b ∉ e'.kill) (hv':∀ b∈e'.v.ids,b ∉ e.kill) (hi:∀ b∈a2D e.hp,b ∉ e'.kill) (hi':∀ b∈a2D e'.hp,b ∉ e.kill):(s.app d e).app d' e'=(s.app d' e').app d e:=by
 have h1:((s.app d e).app d' e').σ=((s.app d' e').app d e).σ:=by
  funext t
  rw [V9,V9,V9,V9]
  by_cases h1:d=some t
  ·rw [if_neg (hdd t h1),if_pos h1,if_pos h1,M1 hv]
  ·by_cases h2:d'=some t
   ·rw [if_pos h2,if_neg h1,if_pos h2,M1 hv']
   ·rw [if_neg h2,if_neg h1,if_neg h1,if_neg h2,a5s]
 have h2:((s.app d e).app d' e').H=((s.app d' e').app d e).H:=by
  funext b
  rw [a18 (s.app d e),a18 (s.app d' e'),a18 s d e,a18 s d' e']
  by_cases hb:b∈τ
  ·have hb':b ∉ τ':=fun h=>G9 hττ hb h;obtain ⟨x1,x2⟩:=a7O hk' hp' hb';simp only [x1,x2,Bool.false_eq_true,if_false]
   cases hg:b6 e.hp b with
   | some B=>simp only [Option.map_some,b1l hi hg]
   | none =>
    simp only
    split
    ·rfl
    ·cases s.H b with
     | none=>rfl
     | some B=>simp only [Option.map_some,a7f]
  ·obtain ⟨x1,x2⟩:=a7O hk hp hb;simp only [x1,x2,Bool.false_eq_true,if_false]
   cases hg:b6 e'.hp b with
   | some B=>simp only [Option.map_some,b1l hi' hg]
   | none =>
    simp only
    split
    ·rfl
    ·cases s.H b with
     | none=>rfl
     | some B=>simp only [Option.map_some,a7f]
 calc (s.app d e).app d' e'=⟨((s.app d e).app d' e').σ,((s.app d e).app d' e').H,s.g⟩:=rfl
  _=⟨((s.app d' e').app d e).σ,((s.app d' e').app d e).H,s.g⟩:=by rw [h1,h2]
  _=(s.app d' e').app d e:=rfl
theorem a17 {s:ASt} {d d':Option Nat} {e e':Eff} (hdd:∀ t,d=some t→d'≠some t) (hq:e.kill=[]∧e.hp=[]) (hv:e.v.clean e'.kill=e.v):(s.app d e).app d' e'=(s.app d' e').app d e:=by
 have h1:((s.app d e).app d' e').σ=((s.app d' e').app d e).σ:=by
  funext t
  rw [V9,V9,V9,V9,hq.1,a0p]
  by_cases h1:d=some t
  ·rw [if_neg (hdd t h1),if_pos h1,if_pos h1,hv]
  ·by_cases h2:d'=some t
   ·rw [if_pos h2,if_neg h1,a0p]; rw [if_pos h2]
   ·rw [if_neg h2,if_neg h1,if_neg h1,if_neg h2,a0p]
 have h2:((s.app d e).app d' e').H=((s.app d' e').app d e).H:=by
  have e1:(s.app d e).H=s.H:=J8 hq;rw [J8 (s:=s.app d' e') hq]
  funext b
  rw [a18 (s.app d e),e1,a18 s]
 calc (s.app d e).app d' e'=⟨((s.app d e).app d' e').σ,((s.app d e).app d' e').H,s.g⟩:=rfl
  _=⟨((s.app d' e').app d e).σ,((s.app d' e').app d e).H,s.g⟩:=by rw [h1,h2]
  _=(s.app d' e').app d e:=rfl
def T1 (ops:Array Oper):Nat→Nat→Nat→Bool
 | 0,_,_=>false
 | I3+1,j,i=>match ops[j]? with
  | some oj=>(oj.after.any fun e=>Region.binds .any e&&e.on==i) || (oj.after.any fun e=>Region.binds .any e&&T1 ops I3 e.on i)
  | none=>false
def a2K (ops:Array Oper) (listed:Array Bool):Prop :=
 ∀ j oj,ops[j]?=some oj→listed.getD j true=true→∀ e∈oj.after,Region.binds .any e=true→listed.getD e.on false=true
theorem b3i {l:Array Bool} {i:Nat} (h:l.getD i false=true):l.getD i true=true:=by
 rw [Array.getD_eq_getD_getElem?] at *
 cases hc:l[i]? with
 | none=>rw [hc] at h; cases h
 | some b=>rw [hc] at h; exact h
theorem a1u {ops:Array Oper} {listed:Array Bool} (hc:a2K ops listed):∀ (I3 j i:Nat) (oj:Oper),ops[j]?=some oj→(∀ e∈oj.after,Region.binds .any e=true→listed.getD e.on false=true)→T1 ops I3 j i=true→listed.getD i false=true
 | 0,j,i,oj,hj,hall,hw=>by cases hw
 | I3+1,j,i,oj,hj,hall,hw=>by
  unfold T1 at hw;rw [hj] at hw;simp only at hw;rw [Bool.or_eq_true,Array.any_eq_true,Array.any_eq_true] at hw;rcases hw with ⟨k,hk,h2⟩|⟨k,hk,h2⟩
  ·simp only [Bool.and_eq_true,beq_iff_eq] at h2;have hl:=hall oj.after[k] (by simp) h2.1;rw [← h2.2]; exact hl
  ·simp only [Bool.and_eq_true] at h2;have hl:=hall oj.after[k] (by simp) h2.1
   cases hq:ops[(oj.after[k]).on]? with
   | none=>cases I3<;>simp [T1,hq] at h2
   | some oq=>exact a1u hc I3 _ i oq hq (hc _ oq hq (b3i hl)) h2.2
theorem a3B {ops:Array Oper} {listed:Array Bool} (hc:a2K ops listed) {i:Nat} {oi:Oper} (hi:ops[i]?=some oi) (hall:∀ e∈oi.after,Region.binds .any e=true→listed.getD e.on false=true):a2K ops (listed.setIfInBounds i true):=by
 have hup:∀ k,listed.getD k false=true→(listed.setIfInBounds i true).getD k false=true:=by
  intro k hk;rw [Array.getD_eq_getD_getElem?] at *;rw [Array.getElem?_setIfInBounds]
  split
  ·rename_i e;subst e
   split
   ·rfl
   ·rename_i hlt;rw [Array.getElem?_eq_none (by omega)] at hk
    cases hk
  ·exact hk
 intro j oj hj hl e he hb
 by_cases hji:j=i
 ·subst hji;rw [hi] at hj;injection hj with hj;subst hj;exact hup _ (hall e he hb)
 ·rw [getD_set_ne true (fun h=>hji h.symm)] at hl;exact hup _ (hc j oj hj hl e he hb)
theorem b2Q {i:Nat} {oi:Oper} (hi:ops[i]?=some oi) (wf:Nat):∀ (I3:Nat) (listed:Array Bool) (s:ASt),a2K ops.toArray listed→i∈Region.ready .any ops.toArray listed→StepF P T ops X F i oi s (E i) →
  (∀ j oj,ops[j]?=some oj→j≠i→listed.getD j true=false→T1 ops.toArray wf j i=false→oi.apart ops.toArray oj=true∧a8t X F (X6 oi) (X6 oj) i j=true) →
  b4y P T ops X F E Q I3 (listed.setIfInBounds i true) (s.app oi.dst (E i))→b4y P T ops X F E Q (I3+1) listed s:=by
 intro I3
 induction I3 with
 | zero =>
  intro listed s hcl hr hst hfree H;refine ⟨fun h=>(by rw [h] at hr; cases hr),fun j hj=>?_⟩
  by_cases hji:j=i
  ·subst hji; exact ⟨oi,hi,hst,H⟩
  ·have:=ready_mono hj hji;rw [H.1] at this
   cases this
 | succ I3 ih =>
  intro listed s hcl hr hst hfree H;refine ⟨fun h=>(by rw [h] at hr; cases hr),fun j hj=>?_⟩
  by_cases hji:j=i
  ·subst hji; exact ⟨oi,hi,hst,H⟩
  ·obtain ⟨oj,hoj,hstj,Hj⟩:=H.2 j (ready_mono hj hji);obtain ⟨hjun,oj',hoj',hall⟩:=mem_ready.1 hj;have hoj'':ops[j]?=some oj':=by simpa using hoj'
   rw [hoj] at hoj'';injection hoj'' with hoj'';subst hoj'';have hnot:T1 ops.toArray wf j i=false:=by
    cases hw:T1 ops.toArray wf j i with
    | false=>rfl
    | true =>
     have h1:=a1u hcl wf j i oj (by simpa using hoj) hall hw;have h0:=(mem_ready.1 hr).1;have:=b3i h1;rw [h0] at this; cases this
   obtain ⟨hap,hco⟩:=hfree j oj hoj hji hjun hnot;obtain ⟨a1,a2,a3⟩:=Oper.apart_spec hap;have a2':∀ t,oj.dst=some t→oi.dst≠some t:=fun t ht h=>a2 t h ht
   -- the other one first
   have key:StepF P T ops X F j oj s (E j)∧StepF P T ops X F i oi (s.app oj.dst (E j)) (E i)∧(s.app oi.dst (E i)).app oj.dst (E j)=(s.app oj.dst (E j)).app oi.dst (E i):=by
    unfold a8t at hco
    cases hxi:H3 X i with
    | none =>
     have qi:=a6N hst.eff hxi
     cases hxj:H3 X j with
     | none =>
      have qj:=a6N hstj.eff hxj;refine ⟨hstj.congr (fun t ht=>(R8 qi fun h=>a1 t h ht).symm) (J8 qi).symm,hst.congr (fun t ht=>R8 qj fun h=>a3 t h ht) (J8 qj),?_⟩;exact a17 a2 qi (by rw [qj.1,a0p])
     | some τ' =>
      rw [hxi,hxj] at hco;simp only at hco
      cases hfi:H3 F i with
      | none=>simp [hfi] at hco
      | some φ =>
       simp only [hfi,Bool.or_eq_true,Bool.and_eq_true,Bool.not_eq_true'] at hco;obtain ⟨t1,t2⟩:=a4L hstj.eff hxj;obtain ⟨i1,_⟩:=a7H hst.eff hfi;rcases hco with (hco|⟨hbl0,hco⟩)|⟨hω,hco⟩
       rotate_right
       ·have k1:=a56 hstj.eff hxj;refine ⟨hstj.congr (fun t ht=>(R8 qi fun h=>a1 t h ht).symm) (J8 qi).symm,hst.behindG a3 hfi (fun b hb hφ=>G9 hco (k1 b hb) hφ) (fun b B hg hφ=>?_),?_⟩
        ·cases hm:φ.contains (b+1000000000) with
         | true=>rfl
         | false=>exact (G9 hω (t2 b B hg) (b2Z hφ hm)).elim
        ·exact a17 a2 qi (M1 fun b hb hb'=>G9 hco (k1 b hb') (i1 b hb))
       ·refine ⟨hstj.congr (fun t ht=>(R8 qi fun h=>a1 t h ht).symm) (J8 qi).symm,hst.behind a3 hfi hco t1 t2,?_⟩;exact a17 a2 qi (M1 fun b hb hb'=>G9 hco (t1 b hb') (i1 b hb))
       ·have k1:=a56 hstj.eff hxj;refine ⟨hstj.congr (fun t ht=>(R8 qi fun h=>a1 t h ht).symm) (J8 qi).symm,hst.blindBehind (by unfold bl; rw [Bool.or_eq_true]; exact hbl0) a3 hfi hco k1,?_⟩;exact a17 a2 qi (M1 fun b hb hb'=>G9 hco (k1 b hb') (i1 b hb))
    | some τ =>
     obtain ⟨s1,s2⟩:=a4L hst.eff hxi
     cases hxj:H3 X j with
     | none =>
      have qj:=a6N hstj.eff hxj;rw [hxi,hxj] at hco;simp only at hco
      cases hfj:H3 F j with
      | none=>simp [hfj] at hco
      | some φ =>
       simp only [hfj,Bool.or_eq_true,Bool.and_eq_true,Bool.not_eq_true'] at hco;obtain ⟨i1,_⟩:=a7H hstj.eff hfj;rcases hco with (hco|⟨hbl0,hco⟩)|⟨hω,hco⟩
       rotate_right
       ·have k1:=a56 hst.eff hxi;refine ⟨hstj.beforeG a1 hfj (fun b hb hφ=>G9 hco (k1 b hb) hφ) (fun b B hg hφ=>?_),hst.congr (fun t ht=>R8 qj fun h=>a3 t h ht) (J8 qj),?_⟩
        ·cases hm:φ.contains (b+1000000000) with
         | true=>rfl
         | false=>exact (G9 hω (s2 b B hg) (b2Z hφ hm)).elim
        ·exact (a17 a2' qj (M1 fun b hb hb'=>G9 hco (k1 b hb') (i1 b hb))).symm
       ·refine ⟨hstj.before a1 hfj hco s1 s2,hst.congr (fun t ht=>R8 qj fun h=>a3 t h ht) (J8 qj),?_⟩;exact (a17 a2' qj (M1 fun b hb hb'=>G9 hco (s1 b hb') (i1 b hb))).symm
       ·have k1:=a56 hst.eff hxi;refine ⟨hstj.blindBefore (by unfold bl; rw [Bool.or_eq_true]; exact hbl0) a1 hfj,hst.congr (fun t ht=>R8 qj fun h=>a3 t h ht) (J8 qj),?_⟩;exact (a17 a2' qj (M1 fun b hb hb'=>G9 hco (k1 b hb') (i1 b hb))).symm
     | some τ' =>
      rw [hxi,hxj] at hco;simp only at hco
      cases hfi:H3 F i with
      | none=>simp [hfi] at hco
      | some φ =>
       cases hfj:H3 F j with
       | none=>simp [hfi,hfj] at hco
       | some φ' =>
        simp only [hfi,hfj,Bool.and_eq_true,Bool.not_eq_true'] at hco;obtain ⟨⟨c1,c2⟩,c3⟩:=hco;obtain ⟨t1,t2⟩:=a4L hstj.eff hxj;obtain ⟨i1,i2⟩:=a7H hst.eff hfi;obtain ⟨j1,j2⟩:=a7H hstj.eff hfj;refine ⟨hstj.before a1 hfj c1 s1 s2,hst.behind a3 hfi c2 t1 t2,?_⟩;exact b4x a2 s1 s2 t1 t2 c3 (fun b hb hb'=>G9 c2 (t1 b hb') (i1 b hb)) (fun b hb hb'=>G9 c1 (s1 b hb') (j1 b hb)) (fun b hb hb'=>G9 c2 (t1 b hb') (i2 b hb)) (fun b hb hb'=>G9 c1 (s1 b hb') (j2 b hb))
   obtain ⟨k1,k2,k3⟩:=key;refine ⟨oj,hoj,k1,ih _ _ (a3B hcl (by simpa using hoj) hall) (ready_mono hr (Ne.symm hji)) k2 (fun q oq hq hqi hun hno=>?_) ?_⟩
   ·refine hfree q oq hq hqi ?_ hno
    by_cases hjq:j=q
    ·subst hjq; exact hjun
    ·rw [getD_set_ne true hjq] at hun; exact hun
   ·rw [Array.setIfInBounds_comm _ _ hji,← k3];exact Hj
def b1s (ops:Array Oper) (X F:List (Nat×List Nat)) (listed:Array Bool) (i:Nat):Bool :=
 match ops[i]? with
 | none=>false
 | some oi=>(List.range ops.size).all fun j=>j==i || listed.getD j true || match ops[j]? with
   | some oj=>T1 ops ops.size j i || (oi.apart ops oj&&a8t X F (X6 oi) (X6 oj) i j)
   | none=>true
def a1M (ops:Array Oper) (X F:List (Nat×List Nat)):Nat→Nat→Array Bool→Bool
 | 0,_,listed=>(Region.ready .any ops listed).isEmpty
 | I3+1,k,listed=>(Region.ready .any ops listed).contains k&&b1s ops X F listed k&&a1M ops X F I3 (k+1) (listed.setIfInBounds k true)
def b9g (ops:List Oper) (X F:List (Nat×List Nat)):Bool:=a1M ops.toArray X F ops.length 0 (Array.replicate ops.length false)
theorem b2C {i:Nat} {oi:Oper} {listed:Array Bool} (hi:ops[i]?=some oi) (h:b1s ops.toArray X F listed i=true) (j:Nat) (oj:Oper) (hj:ops[j]?=some oj) (hne:j≠i) (hun:listed.getD j true=false)
  (hno:T1 ops.toArray ops.toArray.size j i=false):oi.apart ops.toArray oj=true∧a8t X F (X6 oi) (X6 oj) i j=true:=by
 unfold b1s at h;have hi':ops.toArray[i]?=some oi:=by simpa using hi
 have hj':ops.toArray[j]?=some oj:=by simpa using hj
 simp only [hi'] at h;have hlt:j<ops.toArray.size:=(Array.getElem?_eq_some_iff.1 hj').1;have:=List.all_eq_true.1 h j (List.mem_range.2 hlt);simp only [hj',hun,Bool.or_false,Bool.or_eq_true,beq_iff_eq,hne,false_or,Bool.and_eq_true,hno,Bool.false_eq_true] at this;exact this
theorem a8A:∀ (l:List Oper) (k:Nat) (listed:Array Bool) (s:ASt),a2K ops.toArray listed→(∀ j,l[j]?=ops[k+j]?)→a1M ops.toArray X F l.length k listed=true→trF P T ops X F E Q k l s→b4y P T ops X F E Q l.length listed s
 | [],k,listed,s,_,_,hB,h=>⟨by simpa [a1M] using hB,h⟩
 | o::l,k,listed,s,hcl,hl,hB,h=>by
  have h0:ops[k]?=some o:=by simpa using (hl 0).symm
  simp only [List.length_cons,a1M,Bool.and_eq_true] at hB;obtain ⟨⟨hr,hf⟩,hB'⟩:=hB;unfold trF at h;have hrk:k∈Region.ready .any ops.toArray listed:=by simpa using hr
  obtain ⟨_,o',ho',hall⟩:=mem_ready.1 hrk;have hcl':=a3B hcl ho' hall;exact b2Q h0 _ l.length listed s hcl hrk h.1 (b2C h0 hf) (a8A l (k+1) _ _ hcl' (fun j=>by have:=hl (j+1); simpa [Nat.add_assoc,Nat.add_comm 1 j] using this) hB' h.2)
variable {n:Nat} {ds:List Deferred} {A0 L0:Nat→Prop} {w0:Old}
theorem Rel.drew {η:Nat→Value} {s:ASt} {a:Act} {w:World} (h:Rel n ds A0 L0 w0 η s a w):Rel n ds A0 L0 w0 η s a { w with drawn:=w.drawn+1 }:=by
 have hA:∀ (A:Nat→Prop),Keeps A A w { w with drawn:=w.drawn+1 }:=fun A=>⟨Nat.le_refl _,fun _ _ _=>rfl,fun _ _ h=>h⟩;refine ⟨h.size,h.few,h.hd,fun i=>d9.step (hA _) _ _ (fun _ _=>rfl) (h.tmp i),⟨fun b B hb=>?_,h.hp.inj,h.hp.av⟩,⟨h.fr.os,h.fr.tape,h.fr.output,h.fr.size,h.fr.heap⟩,h.old,a1N h.gh h.hp rfl ⟨rfl,rfl,rfl,Nat.le_refl _,fun _ _ _=>rfl⟩ fun g hg=>.inl hg⟩;have:=r6.step (K:=[]) (hA (Av A0 η s.H)) (fun _ _=>rfl) (fun g _ _=>rfl) (h.hp.blk b B hb)
 rwa [z9] at this
theorem a8z (hT:z5 P T) {ro:Option Nat} {m:Nat} {Q':Exit→Act→World→Prop} (hd:J7 n ops=true) (hQ:∀ s η a w,Q s→Rel n ds A0 L0 w0 η s a w→Q' .normal a w) :
  ∀ (I3:Nat) (listed:Array Bool) (s:ASt) (η:Nat→Value) (a:Act) (w:World),Rel n ds A0 L0 w0 η s a w→b4y P T ops X F E Q I3 listed s→wpAnyIn (fen ro) m P .any ops.toArray Q' I3 listed a w
 | 0,listed,s,η,a,w,hr,h=>⟨h.1,hQ s η a w h.2 hr⟩
 | I3+1,listed,s,η,a,w,hr,h=>by
  refine ⟨fun h0=>hQ s η a w (h.1 h0) hr,fun i hi=>?_⟩;obtain ⟨o,ho,hst,hrest⟩:=h.2 i hi;have hoi:ops.toArray[i]?=some o:=by simpa using ho
  have hdo:∀ t,o.dst=some t→t<n:=fun t ht=>by
   have:=List.all_eq_true.1 hd o (List.mem_of_getElem? ho);rw [ht] at this; simpa using this
  unfold wpOpIn;simp only [hoi];exact a4o hT hdo hr hst.step fun e η' a' w' he hr'=>by
   subst he;exact a8z hT hd hQ I3 _ _ η' a' w' hr' hrest
theorem AW.draw (hT:z5 P T) (hm:P.follows .mixedOrders=true) {ro:Option Nat} {id:Nat} {Q:Exit→ASt→Prop} {s:ASt} (X F:List (Nat×List Nat)) (hd:J7 n ops=true) (hB:b9g ops X F=true) (h:I6 P T ops X F 0 ops s (Q .normal)):AW P ro n (.region id ops.toArray true) Q s:=by
 intro m ds A0 L0 w0 η a w hq0 hr;refine wpIn_region_any hm ?_;obtain ⟨E,hE⟩:=b1V ops 0 s h;have hcl:a2K ops.toArray (Array.replicate ops.length false):=fun j oj hj hl=>by
  have hlt:j<ops.length:=by simpa using (Array.getElem?_eq_some_iff.1 hj).1
  rw [Array.getD_eq_getD_getElem?] at hl;simp [hlt] at hl
 have:=a8A ops 0 (Array.replicate ops.length false) s hcl (fun j=>by rw [Nat.zero_add]) hB hE;have h2:=a8z (ro:=ro) (m:=m) (Q':=b2V n ds L0 w0 Q) hT hd (fun s η a w hQ hR=>⟨A0,η,s,hQ,hR⟩) _ _ s η a _ hr.drew this;simpa using h2
end
end Go.Proofs.YtanaeefeggokkaaGreat
/-! The abstract machine,16: states written out,and what a walk asks. No program is named here. -/
namespace Go.Proofs.YtanaeefeggokkaaGreat
open Go.RowKit
set_option linter.constructorNameAsVariable false
def a14 (K:List Nat):List (Nat×AVal)→List (Nat×AVal)
 | []=>[]
 | (i,x)::r=>(i,x.clean K)::a14 K r
def a1r (K:List Nat):List (Nat×ABlk)→List (Nat×ABlk)
 | []=>[]
 | (b,B)::r=>if K.contains b then a1r K r else (b,B.clean K)::a1r K r
theorem a6J (K:List Nat):∀ (l:List (Nat×AVal)) (i:Nat),fr (a14 K l) i=(fr l i).clean K
 | [],i=>by simp [a14,fr,AVal.clean]
 | (j,x)::r,i=>by
  unfold a14 fr
  split
  ·rfl
  ·exact a6J K r i
theorem a4I (K:List Nat):∀ (h:List (Nat×ABlk)) (b:Nat),b6 (a1r K h) b=if K.contains b then none else (b6 h b).map (ABlk.clean K)
 | [],b=>by simp [a1r,b6]
 | (c,B)::r,b=>by
  unfold a1r
  by_cases hc:K.contains c=true
  ·rw [if_pos hc,a4I K r b]
   by_cases hb:K.contains b=true
   ·rw [if_pos hb,if_pos hb]
   ·rw [if_neg hb,if_neg hb];congr 1
    conv=>rhs; unfold b6
    rw [if_neg (fun e=>hb (by rw [e]; exact hc))]
  ·rw [if_neg hc];unfold b6
   by_cases hb:b=c
   ·subst hb;rw [if_pos rfl,if_pos rfl,if_neg hc]; rfl
   ·rw [if_neg hb,if_neg hb];exact a4I K r b
theorem a4J:∀ (h k:List (Nat×ABlk)) (b:Nat),b6 (h++k) b=match b6 h b with|some B=>some B|none=>b6 k b
 | [],k,b=>rfl
 | (c,B)::r,k,b=>by
  show (if b=c then some B else b6 (r++k) b)=match (if b=c then some B else b6 r b) with|some B=>some B|none=>b6 k b
  split
  ·rfl
  ·exact a4J r k b
theorem b6l (l:List (Nat×AVal)) (h:List (Nat×ABlk)) (g:Gh) (d:Nat) (e:Eff):(ASt.mk (fr l) (b6 h) g).app (some d) e=⟨fr ((d,e.v)::a14 e.kill l),b6 (e.hp++a1r e.kill h),g⟩:=by
 have h1:((ASt.mk (fr l) (b6 h) g).app (some d) e).σ=fr ((d,e.v)::a14 e.kill l):=by
  funext i
  rw [V9]
  conv=>rhs; unfold fr
  by_cases hi:i=d
  ·subst hi; simp
  ·rw [if_neg (by simpa using Ne.symm hi),if_neg hi,a6J]
 have h2:((ASt.mk (fr l) (b6 h) g).app (some d) e).H=b6 (e.hp++a1r e.kill h):=by
  funext b
  rw [a18,a4J,a4I]
  try rfl
 calc (ASt.mk (fr l) (b6 h) g).app (some d) e=⟨((ASt.mk (fr l) (b6 h) g).app (some d) e).σ,((ASt.mk (fr l) (b6 h) g).app (some d) e).H,g⟩:=rfl
  _=_:=by rw [h1,h2]
theorem b6m (l:List (Nat×AVal)) (h:List (Nat×ABlk)) (g:Gh) (e:Eff):(ASt.mk (fr l) (b6 h) g).app none e=⟨fr (a14 e.kill l),b6 (e.hp++a1r e.kill h),g⟩:=by
 have h1:((ASt.mk (fr l) (b6 h) g).app none e).σ=fr (a14 e.kill l):=by
  funext i
  rw [V9,if_neg (by simp),a6J]
 have h2:((ASt.mk (fr l) (b6 h) g).app none e).H=b6 (e.hp++a1r e.kill h):=by
  funext b
  rw [a18,a4J,a4I]
  try rfl
 calc (ASt.mk (fr l) (b6 h) g).app none e=⟨((ASt.mk (fr l) (b6 h) g).app none e).σ,((ASt.mk (fr l) (b6 h) g).app none e).H,g⟩:=rfl
  _=_:=by rw [h1,h2]
theorem a8w:∀ (l:List (Nat×AVal)),a14 [] l=l
 | []=>rfl
 | (i,x)::r=>by unfold a14; rw [a0p,a8w r]
theorem a8v:∀ (h:List (Nat×ABlk)),a1r [] h=h
 | []=>rfl
 | (b,B)::r=>by unfold a1r; rw [z9,a8v r]; rfl
theorem b59 (K:List Nat):AVal.clean K .un=.un:=by simp [AVal.clean]
theorem b4t (K:List Nat) (k:IntKind) (n:Int):AVal.clean K (.int k n)=.int k n:=G6 rfl K
theorem b2G (K:List Nat) (b:Bool):AVal.clean K (.bool b)=.bool b:=G6 rfl K
theorem b6a (K:List Nat) (t:Ty) (xs:List (El t)):AVal.clean K (.sl t xs)=.sl t xs:=G6 rfl K
theorem b4v (K:List Nat) (t:Ty) (xs:List (El t)):AVal.clean K (.cut t xs)=.cut t xs:=G6 rfl K
theorem b6c (K:List Nat) (t:Ty) (x:El t) (o:Nat):AVal.clean K (.dp t x o)=.dp t x o:=G6 rfl K
theorem b6d (K:List Nat) (v:Value):AVal.clean K (.cv v)=.cv v:=G6 rfl K
theorem b4r (K:List Nat) (b:Nat):AVal.clean K (.own b)=if K.contains b then .un else .own b:=by
 unfold AVal.clean; congr 1; simp [AVal.has]
theorem b6e (K:List Nat) (b o:Nat):AVal.clean K (.bp b o)=if K.contains b then .un else .bp b o:=by
 unfold AVal.clean; congr 1; simp [AVal.has]
theorem b6f (K:List Nat) (b z i o:Nat):AVal.clean K (.ap b z i o)=if K.contains b then .un else .ap b z i o:=by
 unfold AVal.clean; congr 1; simp [AVal.has]
theorem b4s (K:List Nat):AVal.clean K .one=.one:=G6 rfl K
theorem b58 (K:List Nat) (b z i o:Nat):AVal.clean K (.vw b z i o)=if K.contains b then .un else .vw b z i o:=by
 unfold AVal.clean; congr 1; simp [AVal.has]
theorem b4w (K:List Nat) (l:List AVal):AVal.clean K (.agg l)=if K.any (fun b=>AVal.hasL l b) then .un else .agg l:=by unfold AVal.clean; rfl
theorem b6b (K:List Nat) (f:Fn) (p c:List AVal):AVal.clean K (.fn f p c)=if K.any (fun b=>AVal.hasL p b || AVal.hasL c b) then .un else .fn f p c:=by unfold AVal.clean; rfl
theorem b4q (K:List Nat) (l:List AVal):AVal.clean K (.tup l)=if K.any (fun b=>AVal.hasL l b) then .un else .tup l:=by unfold AVal.clean; rfl
theorem b2M (K:List Nat) (ty:TypeId) (cs:List AVal):ABlk.clean K (.box ty cs)=.box ty (cs.map (AVal.clean K)):=rfl
theorem b2N (K:List Nat) (e:TypeId) (t:Ty) (xs:List (El t)):ABlk.clean K (.arr e t xs)=.arr e t xs:=rfl
theorem b2K (K:List Nat) (ak ae:Bool) (kt vt:Ty) (xs:List (El kt×El vt)):ABlk.clean K (.map ak ae kt vt xs)=.map ak ae kt vt xs:=rfl
theorem b2L (K:List Nat) (t:Ty) (xs:List (El t)):ABlk.clean K (.imm t xs)=.imm t xs:=rfl
theorem b9q (i:Nat):fr [] i=.un:=rfl
theorem b7Z (j:Nat) (v:AVal) (r:List (Nat×AVal)) (i:Nat):fr ((j,v)::r) i=if i=j then v else fr r i:=rfl
theorem b9p (b:Nat):b6 [] b=none:=rfl
theorem b7W (c:Nat) (B:ABlk) (r:List (Nat×ABlk)) (b:Nat):b6 ((c,B)::r) b=if b=c then some B else b6 r b:=rfl
section
variable {P:Program} {T:Tab} {ro:Option Nat} {n:Nat} {Q:Exit→ASt→Prop} {s:ASt} {σ:Nat→AVal} {H:l3} {g:Gh}
theorem a9z {ops:List Oper} {K K':ASt→Prop} (hk:∀ s,K s→K' s):∀ (l:List Oper) (s:ASt),a6S P T ops l s K→a6S P T ops l s K'
 | [],s,h=>hk s h
 | o::r,s,h=>by
  unfold a6S at *;exact a8r (fun e he=>a9z hk r _ he) h
theorem d7 {ops l:List Oper} {X F:List (Nat×List Nat)} {K:ASt→Prop} {i:Nat} (k:Nat) (h:∀ K':ASt→Prop,(∀ s,I6 P T ops X F (i+k) (l.drop k) s K→K' s)→I6 P T ops X F i (l.take k) s K'):I6 P T ops X F i l s K:=by
 have:∀ (l:List Oper) (k i:Nat) (s:ASt) ,I6 P T ops X F i (l.take k) s (fun s=>I6 P T ops X F (i+k) (l.drop k) s K)→I6 P T ops X F i l s K:=by
  intro l
  induction l with
  | nil=>intro k i s h; simpa [I6] using h
  | cons o l ih =>
   intro k i s h
   cases k with
   | zero=>simpa [I6] using h
   | succ k =>
    rw [List.take_succ_cons,List.drop_succ_cons] at h;unfold I6 at h ⊢;refine ⟨h.1,a8r (fun e he=>⟨he.1,ih k (i+1) _ ?_⟩) h.2⟩;have:=he.2
    rwa [show i+1+k=i+(k+1) by omega]
 exact this l k i s (h _ fun _ h=>h)
theorem AO.segF (hT:z5 P T) (k:Nat) {ops l:List Oper} (hd:J7 n (l.take k)=true) (l':List (Nat×AVal)) (h':List (Nat×ABlk)) (h:a6S P T ops (l.take k) ⟨σ,H,g⟩ (fits l' h' g)) (h2:AO P ro n ops (l.drop k) Q ⟨fr l',b6 h',g⟩):AO P ro n ops l Q ⟨σ,H,g⟩ :=
 AO.seg hT k hd _ (a9z (fun _ hs=>Wk.to hs) _ _ h) h2
theorem AO.allF (hT:z5 P T) {ops l:List Oper} (hd:J7 n l=true) (l':List (Nat×AVal)) (h':List (Nat×ABlk)) (h:a6S P T ops l ⟨σ,H,g⟩ (fits l' h' g)) (h2:Q .normal ⟨fr l',b6 h',g⟩):AO P ro n ops l Q ⟨σ,H,g⟩:=by
 refine AO.segF hT l.length (by rwa [List.take_length]) l' h' (by rwa [List.take_length]) ?_;rw [List.drop_length];exact AO.nil h2
end
/-! ### What a walk reckons by itself -/
theorem b4l {α:Type} (x:α) (d:α):(some x).getD d=x:=rfl
theorem b2y {α:Type} (x:α) (l:List α) (d:α):(x::l).headD d=x:=rfl
theorem b2I {α β:Type} (x:α) (f:α→Option β):(some x).bind f=f x:=rfl
theorem b5Z (d c:Nat):Z1 d c=10000+1000*d+(c - 2000):=by unfold Z1; rfl
theorem a8S:b28 undef=true:=rfl
theorem b2A (b:Nat):i8 [] b=false:=rfl
theorem b1p (c:Nat) (B:ABlk) (r:List (Nat×ABlk)) (b:Nat):i8 ((c,B)::r) b=(c==b || i8 r b):=rfl
attribute [go_sem] a6S I6 R6 I8 M7 Z4 a4V a7U a8H a2y J6 a0T
attribute [go_sem] w7 b1F b1G E0 W5 a4T U2 a55 W6 a3J t7 J5 a0q a9x Q5 a2P S8
attribute [go_sem] a5B M8 ASt.ev N8 cellsOf r5 b0V TDesc.agg a6Y a6g a9H
theorem b3S (l:List AVal) (off:Nat) (us:List AVal):g5 l off us=l.take off++us++l.drop (off+us.length):=rfl
attribute [go_sem low] b3S
attribute [go_sem] a6A C6 AVal.ids AVal.idsL rest L4 AVal.cell Ty.size Ty.dflt a1W b9q
attribute [go_sem] b7Z b9p b7W b6l b6m a8w a8v a14 a1r b59 b4t b2G
attribute [go_sem] b6a b4v b6c b6d b4r b6e b6f b58 b4s b4w b4q b6b List.isEmpty_nil b2M b2N b2L b2K a9w AVal.has
attribute [go_sem] AVal.hasL fits b1w b3j a3i a5w a44 one b5F S5 a7j J2 H3 a35 a57 X6 bl bpB m8 a2D P1 a3Z
attribute [go_sem] LeV LeL LeB LeH leF g6 b2A b1p AVal.ren AVal.renL ABlk.ren D9
attribute [go_sem] AVal.dry AVal.dryL ABlk.dry a09 Ty.dry b5Z E7 U4 a0E a8S List.length_cons List.length_nil
attribute [go_sem] List.all_cons List.all_nil List.any_cons List.any_nil List.contains_nil List.contains_cons List.append_nil List.nil_append List.cons_append List.take_succ_cons List.take_zero List.take_nil
attribute [go_sem] List.drop_succ_cons List.drop_zero List.drop_nil List.map_cons List.map_nil List.getElem?_cons_zero List.getElem?_cons_succ List.getElem?_nil b2y b4l b2I Option.map_some
attribute [go_sem] Option.map_none Option.bind_none List.range_succ List.range_zero Bool.and_self Bool.and_true Bool.true_and Bool.and_false Bool.false_and Bool.or_false Bool.or_true Bool.false_or
attribute [go_sem] Bool.true_or Bool.not_true Bool.not_false true_and and_true false_and and_false true_or or_true false_or or_false not_true_eq_false
attribute [go_sem] not_false_eq_true implies_true forall_const Bool.false_eq_true ne_eq eq_self beq_self_eq_true Option.isSome_some Option.isSome_none if_true if_false Op.operands
attribute [go_sem] Call.operands Array.toList Int.toNat_natCast Int.toNat_zero decide_true decide_false Int.cast_ofNat_Int
attribute [go_sem] Bool.true_eq_false false_implies true_implies reduceDIte reduceIte Int.reduceToNat Int.reduceLE Int.reduceLT
attribute [go_sem] Nat.reduceAdd Nat.reduceSub Nat.reduceEqDiff Nat.reduceLeDiff Nat.reduceLT Nat.reduceMul Nat.reduceBEq
end Go.Proofs.YtanaeefeggokkaaGreat
