import Derived.Test.YtanaeefeggokkaaGreatAvp
namespace Go.Proofs.YtanaeefeggokkaaGreat
open Go.RowKit
set_option linter.constructorNameAsVariable false
set_option linter.unusedVariables false
set_option linter.unusedSimpArgs false
section
variable {P:Program} {T:Tab} {n:Nat} {ro:Option Nat} {Q:Exit→ASt→Prop} {σ:Nat→AVal} {H:l3} {g:Gh} {ops rs:List Oper} {ds:List Deferred} {A0 L0:Nat→Prop} {w0:Old} {η:Nat→Value} {s:ASt} {a:Act} {w:World}
theorem AO.appendCut (hT:z5 P T) {o1 o2 o3 o4:Oper} {t1 t2 t3 t4:Nat} {x h1 h2 y:Operand} {t e:TypeId} {i ie:TInfo} {k k1 k2:IntKind} {z v:Int} {xs:List Int}
  (hd1:J7 n [o1]=true) (hd2:J7 n [o2]=true) (hd3:J7 n [o3]=true) (hd4:J7 n [o4]=true) (hne:t1≠t2∧t1≠t3∧t2≠t3∧t3<1000∧t4<1000)
  (hg1:o1.guard=none) (hg2:o2.guard=none) (hg3:o3.guard=none) (hg4:o4.guard=none) (e1:o1.dst=some t1) (e2:o2.dst=some t2) (e3:o3.dst=some t3) (e4:o4.dst=some t4)
  (ho1:o1.op=.slice t x none (some h1) (some h2)) (ho2:o2.op=.move y) (ho3:o3.op=.buildSlice t 1 #[(0,.tmp t2)])
  (ho4:o4.op=.call { callee:=.builtin .append,args:=#[.tmp t1,.tmp t3],argTypes:=#[t,t] })
  (ht:T t=some i) (hi:i.desc=.sl e) (he:T e=some ie) (hdt:ie.dt=some (.int k)) (hsz:ie.size=1)
  (hx:(ASt.mk σ H g).ev x=.sl (.int k) xs) (hh1:(ASt.mk σ H g).ev h1=.int k1 z) (hh2:(ASt.mk σ H g).ev h2=.int k2 z) (hy:((ASt.mk σ H g).app (some t1) { v:=.sl (.int k) (xs.take z.toNat) }).ev y=.int k v)
  (hz0:0≤z) (hz1:z≤(xs.length:Int)) (hb:((xs.take z.toNat).length+1)*ie.bytes≤140737488355328) (hb1:1≤ie.bytes)
  (h5:AO P ro n ops rs Q (((((ASt.mk σ H g).app (some t1) { v:=.sl (.int k) (xs.take z.toNat) }).app (some t2) { v:=.int k v }).app (some t3) { v:=.own t3,kill:=[t3],hp:=[(t3,.arr e (.int k) [v])] }).app (some t4) { v:=.own t4,kill:=[t4],hp:=[(t4,.arr e (.int k) (xs.take z.toNat++[v]))] })) :
  AO P ro n ops (o1::o2::o3::o4::rs) Q ⟨σ,H,g⟩:=by
 obtain ⟨n12,n13,n23,f3,f4⟩:=hne;intro m ds A0 L0 w0 η a w hq0 hr;obtain ⟨N,rfl⟩:∃ N:Nat,z=N:=⟨z.toNat,by omega⟩;rw [Int.toNat_natCast] at h5 hb;have hN:N≤xs.length:=by omega
 have hlt:(xs.take N).length=N:=by rw [List.length_take]; omega
 -- the slice
 have hxv:=hr.ev x;have hv1:=hr.ev h1;have hv2:=hr.ev h2;rw [hx] at hxv;rw [hh1] at hv1;rw [hh2] at hv2;unfold d9 at hxv hv1 hv2;obtain ⟨ad,cap,exv,hbody⟩:=hxv;have hcap:=hbody.1;have hcm:=hbody.2.1;have hrun1:=a72 (P:=P) (w:=w) hT ht hi he ad xs.length cap k1 k2 N (by omega);have hs3:∃ ad',sliced ad 0 N N ie.size=.slice ad' (xs.take N).length (xs.take N).length∧A3 w.heap.size (Av A0 η H) (Ty.int k).size (fun y b o=>i9 w (Av A0 η H) (.int k) y b o) (xs.take N) ad' (xs.take N).length:=by
  refine ⟨if N=0 then ad else ad.map (·.add (0*ie.size)),by unfold sliced; rw [hlt]; simp,Nat.le_refl _,by omega,fun h0=>?_⟩;rw [hlt] at h0;obtain ⟨b,o,ead,hb2,hA,hel⟩:=hbody.2.2 (by omega);refine ⟨b,o,?_,hb2,hA,fun q u hq=>?_⟩
  ·rw [if_neg (by omega),ead]; simp [U1]
  ·rw [List.getElem?_take] at hq
   split at hq
   ·exact hel q u hq
   ·cases hq
 obtain ⟨ad',es,hbody'⟩:=hs3;rw [es] at hrun1;unfold wpListIn;rw [if_pos (X9 hg1 _)];refine n7 (u:=.slice ad' (xs.take N).length (xs.take N).length) (w':=w) (by simp [ho1]) (by simp [execOp,ho1,exv,hv1,hv2,hrun1,-List.length_take]) ?_;have hr1:=hr.pure (v:=.sl (.int k) (xs.take N)) (a0k hd1) (u:=.slice ad' (xs.take N).length (xs.take N).length) (by unfold d9; exact ⟨ad',_,rfl,hbody'⟩)
 -- the number
 rw [Int.toNat_natCast] at hy;rw [e1] at hr1;have hd2':=a0k hd2 t2 e2;have hd1':=a0k hd1 t1 e1;have hd3':=a0k hd3 t3 e3;have hy1:=hr1.ev y;rw [hy] at hy1;unfold d9 at hy1;unfold wpListIn;rw [if_pos (X9 hg2 _),e1];refine n7 (u:=.int k v) (w':=w) (by simp [ho2]) (by simp [execOp,ho2,hy1,-List.length_take]) ?_;have hr2:=hr1.pure (v:=.int k v) (a0k hd2) (u:=.int k v) (by unfold d9; rfl);rw [e2] at hr2
 -- its row
 have hv:((a.put (some t1) (Value.slice ad' (xs.take N).length (xs.take N).length)).put (some t2) (Value.int k v)).tmps.getD t2 undef=Value.int k v:=by
  rw [a2U,a5I,hr.size,if_pos ⟨rfl,hd2'⟩]
 have hv':((a.put (some t1) (Value.slice ad' (xs.take N).length (xs.take N).length)).put (some t2) (Value.int k v)).eval (.tmp t2)=Value.int k v:=hv;obtain ⟨e',u3,w3,η3,he',hrun3,hr3⟩:=a2f hT hr2 (a0k hd3) (nid:=t3) f3 (t:=t) (len:=1) (parts:=[(0,.int k v)]) (vparts:=#[(0,.int k v)]) rfl
  (d6.cons (by unfold d9; rfl) d6.nil) (K:=fun e'=>e'={ v:=.own t3,kill:=[t3],hp:=[(t3,.arr e (.int k) [v])] })
  (by unfold t7; simp [ht,hi,he,hdt,hsz,a3J,r5,C6,a6Y,AVal.cell,AVal.ids,AVal.idsL,rest])
 subst he';unfold wpListIn;rw [if_pos (X9 hg3 _),e2];refine n7 (u:=u3) (w':=w3) (by simp [ho3]) (by simp [execOp,ho3,hv',hrun3,-List.length_take]) ?_;rw [e3] at hr3 ⊢
 -- what is put together
 have hx3:=hr3.tmp t1;have hy3:=hr3.tmp t3;have s1:((((ASt.mk σ H g).app (some t1) { v:=.sl (.int k) (xs.take N) }).app (some t2) { v:=.int k v }).app (some t3) { v:=.own t3,kill:=[t3],hp:=[(t3,.arr e (.int k) [v])] }).σ t1=.sl (.int k) (xs.take N):=by
  simp [ASt.app,AVal.clean,AVal.has,n12.symm,n13.symm]
 have s3:((((ASt.mk σ H g).app (some t1) { v:=.sl (.int k) (xs.take N) }).app (some t2) { v:=.int k v }).app (some t3) { v:=.own t3,kill:=[t3],hp:=[(t3,.arr e (.int k) [v])] }).σ t3=.own t3:=by
  simp [ASt.app]
 have v1:(((a.put (some t1) (Value.slice ad' (xs.take N).length (xs.take N).length)).put (some t2) (Value.int k v)).put (some t3) u3).tmps.getD t1 undef=Value.slice ad' (xs.take N).length (xs.take N).length:=by
  rw [a2U,if_neg (fun c=>n13 (Option.some.inj c.1).symm),a2U,if_neg (fun c=>n12 (Option.some.inj c.1).symm),a2U,hr.size,if_pos ⟨rfl,hd1'⟩]
 have v3:(((a.put (some t1) (Value.slice ad' (xs.take N).length (xs.take N).length)).put (some t2) (Value.int k v)).put (some t3) u3).tmps.getD t3 undef=u3:=by
  rw [a2U,a5I,a5I,hr.size,if_pos ⟨rfl,hd3'⟩]
 rw [s1,v1] at hx3;rw [s3,v3] at hy3;have hle:(xs.take N).length+1≤((xs.take N).length+1)*ie.bytes:=Nat.le_mul_of_pos_right _ hb1;obtain ⟨e',u4,w4,η4,he',hrun4,hr4⟩:=a4v hT hr3 (a0k hd4) (nid:=t4) f4 (ty:=o4.type) ht hi he hdt hx3 (xs:=xs.take N) (ys:=[v]) rfl rfl hy3
  (by simp [L4,ASt.app,b6]) (by simp) hb (by simp only [List.length_cons,List.length_nil,maxLen]; omega) (K:=fun e'=>e'={ v:=.own t4,kill:=[t4],hp:=[(t4,.arr e (.int k) (xs.take N++[v]))] }) rfl
 subst he';unfold wpListIn;rw [if_pos (X9 hg4 _)];refine n7 (u:=u4) (w':=w4) (by simp [ho4]) (by simp [execOp,ho4,resolve,invoke,builtin,Act.eval,v1,v3,hrun4,-List.length_take]) (h5 m ds A0 L0 w0 η4 _ w4 hq0 ?_);rw [e4] at hr4 ⊢;exact hr4
end
end Go.Proofs.YtanaeefeggokkaaGreat
