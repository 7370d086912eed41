import Derived.Test.YtcddbfdbhjkjgaaGreatDoorQh
import Derived.Test.YtcddbfdbhjkjgaaGreatDoorQXtB
import Derived.Test.YtcddbfdbhjkjgaaGreatDoorYC
import Derived.Test.YtcddbfdbhjkjgaaGreatDoorQVaX
import Derived.Test.YtcddbfdbhjkjgaaGreatDoorYD
import Derived.Lib.AppendZeros
set_option maxHeartbeats 12800000
set_option maxRecDepth 20000
namespace Go.Proofs.YtcddbfdbhjkjgaaGreatDoor
open Go.RowKit
theorem wordAt_ge {ts:List Tk}:∀{l:List (List UInt8)} {k:Nat},wordAt ts l k=0∨k≤wordAt ts l k
 |[],_=>.inl rfl
 |u::l,k=>by
  rw [wordAt]
  split
  ·exact .inr (n_ _)
  ·rcases wordAt_ge (ts:=ts) (l:=l) (k:=k+1) with h|h
   ·exact .inl h
   ·exact .inr (by omega)
theorem isAt_text {k:Int} {u v:List UInt8} {ts:List Tk} (h:isAt k u ts=true) (h':isAt k v ts=true):u=v:=by
 obtain ⟨t,r,hs⟩:=isAt_cons h
 rw [hs] at h h'
 have h1:isTk k u t=true:=h
 have h2:isTk k v t=true:=h'
 unfold isTk at h1 h2
 simp only [Bool.and_eq_true,decide_eq_true_eq] at h1 h2
 rw [←h1.2,h2.2]
theorem word_at {ts:List Tk}:∀{us:List (List UInt8)} {k i:Nat} {u:List UInt8},us.Nodup→0<k→us[i]?=some u→isAt 2 u ts=decide (wordAt ts us k=k+i)
 |[],_,_,_,_,_,h=>by simp at h
 |v::l,k,0,u,hn,hk,h=>by
  obtain rfl:v=u:=by simpa using h
  rw [wordAt]
  cases hv:isAt 2 v ts with
  |true=>simp
  |false =>
   rw [if_neg (by decide)]
   rcases wordAt_ge (ts:=ts) (l:=l) (k:=k+1) with h|h
   ·rw [h];symm;exact decide_eq_false (by omega)
   ·symm;exact decide_eq_false (by omega)
 |v::l,k,i+1,u,hn,hk,h=>by
  rw [List.nodup_cons] at hn
  have h':l[i]?=some u:=by simpa using h
  rw [wordAt]
  cases hv:isAt 2 v ts with
  |true =>
   rw [if_pos rfl,decide_eq_false (by omega)]
   cases hu:isAt 2 u ts with
   |false=>rfl
   |true =>
    have:=isAt_text hv hu
    subst this
    exact absurd (List.mem_of_getElem? h') hn.1
  |false =>
   rw [if_neg (by decide),word_at (us:=l) (k:=k+1) hn.2 (by omega) h']
   congr 1
   rw [show k+1+i=k+(i+1) from by omega]
theorem XS.cells {w:World} {b:Nat} {K:Kx} {D:Int} {m:Rs Unit} (h:XS w b K D m):∃(t:Tk) (g o q:Nat) (r:Rv),K.A=some ⟨g,o,none⟩∧q<K.n∧TokAt K m t∧XvM K r m∧r.D=D ∧
  ∀W:World,(∀(p:Addr) (u:Value),w.cell? p=some u→W.cell? p=some u)→W.cell? ⟨b,0,none⟩=some (.slice (some ⟨g,o,none⟩) K.n K.c)∧W.cell? ⟨b,1,none⟩=some (.int .i64 (q:Int))∧W.cell? ⟨b,2,none⟩=some (.int .i64 r.N)∧W.cell? ⟨b,3,none⟩=some (.int .i64 r.M)∧W.cell? ⟨b,4,none⟩=some (.int .i64 r.C)∧W.cell? ⟨b,5,none⟩=some (.int .i64 r.D)∧W.cell? ⟨b,6,none⟩=some (.int .i64 r.code) ∧
   W.cell? ⟨g,o+q*4,none⟩=some (.int .i64 t.kind)∧W.cell? ⟨g,o+q*4+3,none⟩=some (.int .i64 t.at_):=by
 obtain ⟨r,t,h1,h0,h2,h4,h5,h6,h7⟩:=h.tok
 obtain ⟨g,o,hA,x0,x1,x2,x3⟩:=h.at_.2 r.q t h6
 refine ⟨t,g,o,r.q,r,hA,h2,h7,h5,h4,fun W hW=>⟨?_,hW _ _ h1.c1,hW _ _ h1.c2,hW _ _ h1.c3,hW _ _ h1.c4,hW _ _ h1.c5,hW _ _ h1.c6,hW _ _ x0,hW _ _ x3⟩⟩
 have:=h1.c0
 rw [h0.1,h0.2.1,h0.2.2,hA] at this
 exact hW _ _ this
theorem XS.sets {w:World} {b:Nat} {K:Kx} {D:Int} {m:Rs Unit} (h:XS w b K D m) {g:Nat} (hg:b<g) (i:Nat) (l:List Value):XS (sets w g i l) b K D m:=h.ch (Ch.of_mv (sets_mv w g i l)) (fun k e=>by have e':k=g:=e;omega)
theorem b7_refl (u:World):Hid (Below u.heap.size u u):=b_ _ u
theorem b7_alloc {u W:World} (h:Hid (Below u.heap.size u W)) (o:Obj):Hid (Below u.heap.size u (W.alloc o)):=h.out.alloc h.out.size o
theorem b7_drew {u W:World} (h:Hid (Below u.heap.size u W)):Hid (Below u.heap.size u W.drew):=h.out.drew
def tkR (W0:World) (b gt ot q:Nat) (L:Value) (at_:Int) (T:TypeId) (zs:List Value) (bv kv:Value) (role:Nat) (u:Value) (w:World):Prop:=match role with
 |0=>u=kv
 |1=>u=.pointer (some ⟨b,0,none⟩)
 |3=>u=L
 |4=>u=.pointer (some ⟨b,1,none⟩)
 |5=>u=.int .i64 (q:Int)
 |6=>u=.pointer (some ⟨gt,ot+q*4,none⟩)
 |7=>u=.pointer (some ⟨gt,ot+q*4+3,none⟩)
 |8=>u=.int .i64 at_
 |9=>u=bv
 |10=>∃g:Nat,u=.pointer (some ⟨g,0,none⟩)∧W0.heap.size≤g∧CB w g T zs
 |_=>True
theorem tkR_mono {W0:World} {b gt ot q:Nat} {L:Value} {at_:Int} {T:TypeId} {zs:List Value} {bv kv:Value} {role:Nat} {u:Value} {w w':World} (h:tkR W0 b gt ot q L at_ T zs bv kv role u w) (hb:Below w.heap.size w w'):tkR W0 b gt ot q L at_ T zs bv kv role u w':=by
 unfold tkR at h ⊢
 split at h
 all_goals first|exact h|skip
 obtain ⟨g,h1,h2,h3⟩:=h
 exact ⟨g,h1,h2,h3.below hb⟩
def acRole (i:Nat):Nat:=match i with
 |0=>1
 |1=>1
 |2=>1
 |3=>3
 |4=>1
 |5=>1
 |6=>4
 |7=>5
 |8=>6
 |9=>7
 |10=>8
 |11=>9
 |12=>10
 |_=>11
theorem stop_ne {α:Type} {c:Int} {ts:List Tk} {x:α} {s:Ss}:(stopR c ts:Rs α)≠.ok x s:=by
 intro h
 cases ts with
 |nil=>cases h
 |cons t r=>cases h
theorem wrong_ne2 {α:Type} {ts:List Tk} {x:α} {s:Ss}:(wrongR ts:Rs α)≠.ok x s:=by
 obtain ⟨c,p,e⟩:=wrong_bad' (α:=α) ts
 rw [e]
 intro h;cases h
theorem stop_void {α:Type} (c:Int) (ts:List Tk):(stopR c ts:Rs α).void=stopR c ts:=by cases ts <;> rfl
theorem word_kind {ts:List Tk} {us:List (List UInt8)} {k:Nat} (h:wordAt ts us k≠0):kindOf ts≠5:=by
 induction us generalizing k with
 |nil=>exact absurd rfl h
 |cons u l ih =>
  rw [wordAt] at h
  split at h
  ·rename_i hu
   exact isAt_kind (s:=⟨ts,0,0,0⟩) hu (by decide)
  ·exact ih h
theorem act_end2 (m:Rs Unit) (nx:List UInt8) (p:Int):(m.go fun s1=>(actV 2 s1).bind fun v s2=>(mustR 4 [59] s2).bind fun _ s3=>(.ok ⟨((2:Nat):Int),nx,v,p⟩ s3:Rs SyAct))=(m.go (mustR 4 [59])).go fun s3=>.ok ⟨((2:Nat):Int),nx,none,p⟩ s3:=by
 cases m with
 |out=>rfl
 |bad c p=>rfl
 |ok x s =>
  have e:actV 2 s=.ok none s:=by unfold actV;rw [if_pos rfl]
  rw [Rs.go_ok,Rs.go_ok,e,Rs.bind_ok]
  cases mustR 4 [59] s <;> rfl
theorem act_end {k:Nat} {nx:List UInt8} {p:Int} {m m8 m9:Rs Unit} {y:Option Ex} (hk:k≠2) (h8:m.go (mustR 4 [61])=m8) (h9:(m8.go exprR).void=m9) (hy:∀x s,m8.go exprR=.ok x s→y=some x) :
  (m.go fun s1=>(actV k s1).bind fun v s2=>(mustR 4 [59] s2).bind fun _ s3=>(.ok ⟨(k:Int),nx,v,p⟩ s3:Rs SyAct))=(m9.go (mustR 4 [59])).go fun s3=>.ok ⟨(k:Int),nx,y,p⟩ s3:=by
 have e1:m.go (actV k)=(m8.go exprR).bind fun x s=>.ok (some x) s:=by
  rw [←h8,go_go,←go_bind]
  congr 1
  funext s0
  unfold actV
  rw [if_neg hk]
  cases mustR 4 [61] s0 <;> rfl
 have e2:((m8.go exprR).bind fun x s=>(.ok (some x) s:Rs (Option Ex))).is y:=fun z s0 e=>by
  obtain ⟨x,s1,h1,h2⟩:=Rs.some e
  have:=hy x s1 h1
  rw [this]
  exact (Rs.ok.inj h2).1.symm
 have e3:(m.go fun s1=>(actV k s1).bind fun v s2=>(mustR 4 [59] s2).bind fun _ s3=>(.ok ⟨(k:Int),nx,v,p⟩ s3:Rs SyAct))=(m.go (actV k)).bind fun v s2=>(mustR 4 [59] s2).bind fun _ s3=>(.ok ⟨(k:Int),nx,v,p⟩ s3:Rs SyAct):=by cases m <;> rfl
 rw [e3,e1,Rs.seq e2,bind_void,h9]
 exact (must_fin _ _).symm
theorem act_kinds:([wSet,wRaise,wEmit]:List (List UInt8)).Nodup:=by decide
def akN (s:Ss) (i:Nat):Nat:=if actK s.ts≤i then actK s.ts else 0
theorem akN_zero (s:Ss):akN s 0=0:=by
 unfold akN
 split <;> omega
theorem akN_all (s:Ss):akN s 3=actK s.ts:=by
 unfold akN
 rw [if_pos]
 unfold actK
 simp only [wordAt]
 split
 ·omega
 ·split
  ·omega
  ·split <;> omega
theorem akN_next {s:Ss} {i:Nat} {u:List UInt8} (h:([wSet,wRaise,wEmit]:List (List UInt8))[i]?=some u):akN s (i+1)=if isAt 2 u s.ts=true then i+1 else akN s i:=by
 have hk:isAt 2 u s.ts=decide (actK s.ts=1+i):=word_at act_kinds (by decide) h
 rw [hk]
 unfold akN
 by_cases h1:actK s.ts=1+i
 ·rw [if_pos (by omega),decide_eq_true h1,if_pos rfl]
  omega
 ·rw [decide_eq_false h1]
  simp only [Bool.false_eq_true,if_false]
  split <;> split <;> omega
def XaEnd (w:World) (b:Nat) (K:Kx) (D:Int) (s:Ss) (e:Ending) (w':World):Prop :=
 ∃(x:SyAct) (ys:List Value),e=.returned (.agg ys.toArray)∧Rep w' w.heap.size (dvAct false x) ys∧ys.length=9∧(actR s).is x∧XS w' b K D (actR s).void∧Mv b w w'
theorem xact_s (w:World) (b:Nat) (K:Kx) (D:Int) (s:Ss) (h:XS w b K D (.ok () s)) :
  Calls Tryz.prog 75 #[.pointer (some ⟨b,0,none⟩)] w (XaEnd w b K D s):=by
 obtain ⟨g0,hg0⟩:∃g,g=w.heap.size:=⟨_,rfl⟩
 obtain ⟨W0,hW0⟩:∃W0,W0=w.alloc (.cells #[.int .i64 0,.string ⟨#[]⟩,.int .i64 0,.int .i64 0,.string ⟨#[]⟩,.int .i64 0,.slice none 0 0,.int .i64 0,.int .i64 0] 120):=⟨_,rfl⟩
 have HR:Hid (CB W0 g0 120 zAct):=by rw [hW0,hg0];exact CB.new w _ zAct
 have HB0:Hid (Below w.heap.size w W0):=by rw [hW0];exact (b_ _ w).alloc (n_ _) _
 have hbw:=h.blt
 have hg0w:w.heap.size≤g0:=by omega
 have hg0b:g0≠b:=by omega
 have HP:=h_ (h.below HB0.out)
 obtain ⟨t,gt,ot,q,r,hA,hq,htk,hxm,hrd,hcl⟩:=HP.out.cells
 have HCL:=h_ hcl
 have hq':(q:Int)<K.n:=by omega
 have HT:=h_ htk
 clear h hxm hrd hcl htk
 go_enter Tryz.func75,Tryz.ntmps75
 go_upto_region 1 with fail
 rw [←hW0,←hg0]
 clear hW0 hg0
 go_cut [3] from 7 to 18 (fun s3 wr=>∃g3,s3=.pointer (some ⟨g3,0,none⟩)∧Hid (W0.heap.size≤g3∧CB wr g3 120 [.int .i64 0,.string ⟨#[]⟩,.int .i64 0,.int .i64 0,.string ⟨#[]⟩,.int .i64 0,.slice none 0 0,.int .i64 0,.int .i64 t.at_]∧Below W0.heap.size W0 wr))
 case first =>
  refine region_free _ _ _ (by kernel_rfl) 13 rfl (by kernel_rfl) (by kernel_rfl) (fun i=>match i with|1=>[0]|2=>[1]|3=>[2]|5=>[4]|6=>[5]|7=>[6]|8=>[3,7]|9=>[8]|10=>[9]|11=>[10]|13=>[12,11]|_=>[]) (by kernel_rfl) (by kernel_rfl)
   (fun j u W=>tkR W0 b gt ot q (.slice (some ⟨gt,ot,none⟩) K.n K.c) t.at_ 120 [.int .i64 0,.string ⟨#[]⟩,.int .i64 0,.int .i64 0,.string ⟨#[]⟩,.int .i64 0,.slice none 0 0,.int .i64 0,.int .i64 0] (.agg #[.int .i64 0,.string ⟨#[]⟩,.int .i64 0,.int .i64 0,.string ⟨#[]⟩,.int .i64 0,.slice none 0 0,.int .i64 0,.int .i64 t.at_]) (.bool false) (acRole j) u W) (fun W=>Hid (Below W0.heap.size W0 W))
   (fun vals wr=>∃g:Nat,vals 12=some (.pointer (some ⟨g,0,none⟩))∧Hid (W0.heap.size≤g∧CB wr g 120 [.int .i64 0,.string ⟨#[]⟩,.int .i64 0,.int .i64 0,.string ⟨#[]⟩,.int .i64 0,.slice none 0 0,.int .i64 0,.int .i64 t.at_]∧Below W0.heap.size W0 wr)) (fun j v w w' h hb=>tkR_mono h hb) (b7_drew (b7_refl W0)) ?_ ?_ ?_
  ·intro i o hi ho a W hG hbase hdep
   have hi':i=0∨i=1∨i=2∨i=3∨i=4∨i=5∨i=6∨i=7∨i=8∨i=9∨i=10∨i=11∨i=12:=by omega
   have hcw:∀(p:Addr) (u:Value),W0.cell? p=some u→W.cell? p=some u:=fun p u hc=>by rw [hG.out.cell (World.block_lt_of_cell? W0 _ hc)];exact hc
   obtain ⟨r0,r1,_,_,_,_,_,_,y3⟩:=HCL.out W hcw
   rcases hi' with rfl|rfl|rfl|rfl|rfl|rfl|rfl|rfl|rfl|rfl|rfl|rfl|rfl
   ·have hp:a.tmps[0]?.getD undef=.pointer (some ⟨b,0,none⟩):=ev_get2 ((hbase 0 (by kernel_rfl)).trans rfl)
    simp only [t_,z_,j_] at ho
    subst ho
    unfold Oper.wp
    go_simp
    exact ⟨_,rfl,rfl,b_ _ _⟩
   ·have h0:a.tmps[7]?.getD undef=.pointer (some ⟨b,0,none⟩):=ev_get2 (show a.eval (.tmp 7)=.pointer (some ⟨b,0,none⟩) from hdep 0 (by simp))
    simp only [t_,s_,z_,j_] at ho
    subst ho
    unfold Oper.wp
    go_simp
    exact ⟨_,rfl,rfl,b_ _ _⟩
   ·have h1:a.tmps[8]?.getD undef=.pointer (some ⟨b,0,none⟩):=ev_get2 (show a.eval (.tmp 8)=.pointer (some ⟨b,0,none⟩) from hdep 1 (by simp))
    simp only [t_,s_,z_,j_] at ho
    subst ho
    unfold Oper.wp
    go_simp
    exact ⟨_,rfl,rfl,b_ _ _⟩
   ·have h2:a.tmps[9]?.getD undef=.pointer (some ⟨b,0,none⟩):=ev_get2 (show a.eval (.tmp 9)=.pointer (some ⟨b,0,none⟩) from hdep 2 (by simp))
    simp only [t_,s_,z_,j_] at ho
    subst ho
    unfold Oper.wp
    go_simp
    exact ⟨_,rfl,rfl,b_ _ _⟩
   ·have hp:a.tmps[0]?.getD undef=.pointer (some ⟨b,0,none⟩):=ev_get2 ((hbase 0 (by kernel_rfl)).trans rfl)
    simp only [t_,s_,z_,j_] at ho
    subst ho
    unfold Oper.wp
    go_simp
    exact ⟨_,rfl,rfl,b_ _ _⟩
   ·have h4:a.tmps[11]?.getD undef=.pointer (some ⟨b,0,none⟩):=ev_get2 (show a.eval (.tmp 11)=.pointer (some ⟨b,0,none⟩) from hdep 4 (by simp))
    simp only [t_,s_,z_,j_] at ho
    subst ho
    unfold Oper.wp
    go_simp
    exact ⟨_,rfl,rfl,b_ _ _⟩
   ·have h5:a.tmps[12]?.getD undef=.pointer (some ⟨b,0,none⟩):=ev_get2 (show a.eval (.tmp 12)=.pointer (some ⟨b,0,none⟩) from hdep 5 (by simp))
    simp only [t_,s_,z_,j_] at ho
    subst ho
    unfold Oper.wp
    go_simp
    exact ⟨_,rfl,rfl,b_ _ _⟩
   ·have h6:a.tmps[13]?.getD undef=.pointer (some ⟨b,1,none⟩):=ev_get2 (show a.eval (.tmp 13)=.pointer (some ⟨b,1,none⟩) from hdep 6 (by simp))
    simp only [t_,s_,z_,j_] at ho
    subst ho
    unfold Oper.wp
    go_simp
    exact ⟨_,rfl,rfl,b_ _ _⟩
   ·have h3:a.tmps[10]?.getD undef=.slice (some ⟨gt,ot,none⟩) K.n K.c:=ev_get2 (show a.eval (.tmp 10)=.slice (some ⟨gt,ot,none⟩) K.n K.c from hdep 3 (by simp))
    have h7:a.tmps[14]?.getD undef=.int .i64 (q:Int):=ev_get2 (show a.eval (.tmp 14)=.int .i64 (q:Int) from hdep 7 (by simp))
    simp only [t_,s_,z_,j_] at ho
    subst ho
    unfold Oper.wp
    go_simp
    exact ⟨_,rfl,rfl,b_ _ _⟩
   ·have h8:a.tmps[15]?.getD undef=.pointer (some ⟨gt,ot+q*4,none⟩):=ev_get2 (show a.eval (.tmp 15)=.pointer (some ⟨gt,ot+q*4,none⟩) from hdep 8 (by simp))
    simp only [t_,s_,z_,j_] at ho
    subst ho
    unfold Oper.wp
    go_simp
    exact ⟨_,rfl,rfl,b_ _ _⟩
   ·have h9:a.tmps[16]?.getD undef=.pointer (some ⟨gt,ot+q*4+3,none⟩):=ev_get2 (show a.eval (.tmp 16)=.pointer (some ⟨gt,ot+q*4+3,none⟩) from hdep 9 (by simp))
    simp only [t_,s_,z_,j_] at ho
    subst ho
    unfold Oper.wp
    go_simp
    exact ⟨_,rfl,rfl,b_ _ _⟩
   ·have h10:a.tmps[17]?.getD undef=.int .i64 t.at_:=ev_get2 (show a.eval (.tmp 17)=.int .i64 t.at_ from hdep 10 (by simp))
    simp only [t_,s_,z_,j_] at ho
    subst ho
    unfold Oper.wp
    go_simp
    exact ⟨_,rfl,rfl,b_ _ _⟩
   ·simp only [t_,s_,z_,j_] at ho
    subst ho
    unfold Oper.wp
    go_simp
    exact ⟨_,rfl,⟨_,rfl,hG.out.size,CB.new W 120 [.int .i64 0,.string ⟨#[]⟩,.int .i64 0,.int .i64 0,.string ⟨#[]⟩,.int .i64 0,.slice none 0 0,.int .i64 0,.int .i64 0]⟩,b7_alloc hG _,(b7_alloc (b7_refl W) _).out⟩
  ·intro o ho a vals W hG hbase hdep
   obtain ⟨⟨g,hg,hgw,hcb⟩,hv⟩:tkR W0 b gt ot q (.slice (some ⟨gt,ot,none⟩) K.n K.c) t.at_ 120 [.int .i64 0,.string ⟨#[]⟩,.int .i64 0,.int .i64 0,.string ⟨#[]⟩,.int .i64 0,.slice none 0 0,.int .i64 0,.int .i64 0] (.agg #[.int .i64 0,.string ⟨#[]⟩,.int .i64 0,.int .i64 0,.string ⟨#[]⟩,.int .i64 0,.slice none 0 0,.int .i64 0,.int .i64 t.at_]) (.bool false) 10 (a.eval (.tmp 3)) W∧vals 12=some (a.eval (.tmp 3)):=hdep 12 (by simp)
   rw [hg] at hv
   have hbd:a.tmps[18]?.getD undef=.agg #[.int .i64 0,.string ⟨#[]⟩,.int .i64 0,.int .i64 0,.string ⟨#[]⟩,.int .i64 0,.slice none 0 0,.int .i64 0,.int .i64 t.at_]:=ev_get2 (show a.eval (.tmp 18)=.agg #[.int .i64 0,.string ⟨#[]⟩,.int .i64 0,.int .i64 0,.string ⟨#[]⟩,.int .i64 0,.slice none 0 0,.int .i64 0,.int .i64 t.at_] from (hdep 11 (by simp)).1)
   replace hg:a.tmps[3]?.getD undef=_:=ev_get2 hg
   have c0:=hcb.c 0 rfl
   have f0:=hcb.fr 0
   have c1:=hcb.c 1 rfl
   have f1:=hcb.fr 1
   have c2:=hcb.c 2 rfl
   have f2:=hcb.fr 2
   have c3:=hcb.c 3 rfl
   have f3:=hcb.fr 3
   have c4:=hcb.c 4 rfl
   have f4:=hcb.fr 4
   have c5:=hcb.c 5 rfl
   have f5:=hcb.fr 5
   have c6:=hcb.c 6 rfl
   have f6:=hcb.fr 6
   have c7:=hcb.c 7 rfl
   have f7:=hcb.fr 7
   have c8:=hcb.c 8 rfl
   have f8:=hcb.fr 8
   have hres:=hcb.all [.int .i64 0,.string ⟨#[]⟩,.int .i64 0,.int .i64 0,.string ⟨#[]⟩,.int .i64 0,.slice none 0 0,.int .i64 0,.int .i64 t.at_] rfl
   have hbl:=h_ (sets_below hG.out hgw 0 [.int .i64 0,.string ⟨#[]⟩,.int .i64 0,.int .i64 0,.string ⟨#[]⟩,.int .i64 0,.slice none 0 0,.int .i64 0,.int .i64 t.at_])
   simp only [sets,Nat.reduceAdd] at hres hbl
   simp only [t_,s_,z_,j_] at ho
   subst ho
   unfold Oper.wp
   go_simp
   intro vals' hv'
   exact ⟨g,by rw [hv' 12 (by omega)];exact hv,hgw,hres,hbl.out⟩
  ·intro vals W hF hall
   obtain ⟨g,h12,hfin⟩:=hF
   obtain ⟨v0,h0⟩:=x_ (hall 0 (by omega))
   obtain ⟨v1,h1⟩:=x_ (hall 1 (by omega))
   obtain ⟨v2,h2⟩:=x_ (hall 2 (by omega))
   obtain ⟨v3,h3⟩:=x_ (hall 3 (by omega))
   obtain ⟨v4,h4⟩:=x_ (hall 4 (by omega))
   obtain ⟨v5,h5⟩:=x_ (hall 5 (by omega))
   obtain ⟨v6,h6⟩:=x_ (hall 6 (by omega))
   obtain ⟨v7,h7⟩:=x_ (hall 7 (by omega))
   obtain ⟨v8,h8⟩:=x_ (hall 8 (by omega))
   obtain ⟨v9,h9⟩:=x_ (hall 9 (by omega))
   obtain ⟨v10,h10⟩:=x_ (hall 10 (by omega))
   obtain ⟨v11,h11⟩:=x_ (hall 11 (by omega))
   obtain ⟨v13,h13⟩:=x_ (hall 13 (by omega))
   simp only [puts,put1,show List.range (13+1)=[0,1,2,3,4,5,6,7,8,9,10,11,12,13] from rfl,List.foldl_cons,List.foldl_nil,h0,h1,h2,h3,h4,h5,h6,h7,h8,h9,h10,h11,h12,h13,t_,s_,z_,Act.put,List.setIfInBounds_toArray,List.set_cons_zero,List.set_cons_succ]
   clear h0 h1 h2 h3 h4 h5 h6 h7 h8 h9 h10 h11 h12 h13 hall
   go_wp2_with fail
   go_meet
   exact ⟨g,rfl,hfin⟩
 case rest =>
 obtain ⟨g3,rfl,HC3⟩:=hcut
 obtain ⟨hg3W,hc3,hb3⟩:=HC3.out
 have HA:=h_ hc3
 have HP1:=h_ (HP.out.below hb3)
 have HR1:=h_ (HR.out.below hb3)
 have HB1:=h_ (HB0.out.trans (hb3.mono HB0.out.size))
 have hs0:=HB0.out.size
 have hg0W:g0<W0.heap.size:=HR.out.lt
 have hg3l:g3<wc.heap.size:=hc3.lt
 have hbg3:b<g3:=by omega
 have hg3b:g3≠b:=by omega
 have hg03:g0≠g3:=by omega
 obtain ⟨L,hL⟩:∃L,([wSet,wRaise,wEmit]:List (List UInt8))=L:=⟨_,rfl⟩
 have HNX:Hid (∀(i:Nat) (u:List UInt8),L[i]?=some u→akN s (i+1)=if isAt 2 u s.ts=true then i+1 else akN s i):=by rw [←hL];exact fun i u hu=>akN_next hu
 obtain ⟨g4,hg4⟩:∃g,wc.heap.size=g:=⟨_,rfl⟩
 obtain ⟨W2,hW2⟩:∃W,W=wc.alloc (.cells #[.string ⟨#[115,101,116]⟩,.string ⟨#[114,97,105,115,101]⟩,.string ⟨#[101,109,105,116]⟩] 9):=⟨_,rfl⟩
 have hb2:Below wc.heap.size wc W2:=by rw [hW2];exact (b_ _ wc).alloc (n_ _) _
 have HLC:Hid (∀(i:Nat) (u:List UInt8),L[i]?=some u→W2.cell? ⟨g4,i,none⟩=some (txV u)):=by
  have hb:W2.heap[g4]?=some (.cells #[.string ⟨#[115,101,116]⟩,.string ⟨#[114,97,105,115,101]⟩,.string ⟨#[101,109,105,116]⟩] 9 (0,0)):=by rw [hW2,←hg4];exact heap_alloc_new wc _
  intro i u hu
  rw [←hL] at hu
  match i,hu with
  |0,hu => have:wSet=u:=by simpa using hu
           subst this;exact cell_of_row W2 g4 0 _ _ _ hb
  |1,hu => have:wRaise=u:=by simpa using hu
           subst this;exact cell_of_row W2 g4 1 _ _ _ hb
  |2,hu => have:wEmit=u:=by simpa using hu
           subst this;exact cell_of_row W2 g4 2 _ _ _ hb
  |i+3,hu=>simp at hu
 have hm:L.length=3:=by rw [←hL];rfl
 have HML:=h_ hm
 have HA2:Hid (CB W2 g3 120 [.int .i64 (akN s 0:Int),.string ⟨#[]⟩,.int .i64 0,.int .i64 0,.string ⟨#[]⟩,.int .i64 0,.slice none 0 0,.int .i64 0,.int .i64 t.at_]):=by rw [akN_zero];exact HA.out.below hb2
 have HP2:=h_ (HP1.out.below hb2)
 have HR2:=h_ (HR1.out.below hb2)
 have HM2:Hid (Mv b w W2):=Mv.of b (HB1.out.trans (hb2.mono HB1.out.size))
 have hg34:g4≠g3:=by omega
 clear hL hm HC3 hc3 hb3 hb2 HA HP1 HR1 HB1 HP HR HB0 HCL
 go_upto_region 3 with fail
 rw [←hW2]
 try rw [hg4]
 clear hW2 hg4
 go_wp2_with fail
 go_loopw [5,6] (fun iv _ wr=>∃i:Nat,i≤3∧iv=.int .i64 (i:Int)∧Hid (CB wr g3 120 [.int .i64 (akN s i:Int),.string ⟨#[]⟩,.int .i64 0,.int .i64 0,.string ⟨#[]⟩,.int .i64 0,.slice none 0 0,.int .i64 0,.int .i64 t.at_])∧Hid (Ch (fun k=>k=g3) W2 wr)) (fun iv _ _=>3-(intOf iv).toNat)
 case atStart=>exact ⟨0,Nat.zero_le _,rfl,HA2,Ch.refl _ _⟩
 case round =>
  obtain ⟨i,hi,rfl,HAW,HCW⟩:=hrel
  by_cases him:i<3
  ·have him':(i:Int)<3:=by omega
   obtain ⟨u,hu⟩:∃u,L[i]?=some u:=⟨_,List.getElem?_eq_getElem (by rw [HML.out];exact him)⟩
   obtain ⟨X,hX⟩:∃X:ByteArray,X=⟨u.toArray⟩:=⟨_,rfl⟩
   have hXl:X.data.toList=u:=by rw [hX]
   have hXv:txV u=.string X:=by rw [hX];rfl
   have u1:wr.cell? ⟨g4,i,none⟩=some (.string X):=by
    have:=HLC.out i u hu
    rw [World.cell?_of_block (w:=W2) (HCW.out.block g4 (World.block_lt_of_cell? W2 _ this) hg34),this,hXv]
   have HS:=h_ (xis_s wr b K D _ (HP2.out.ch HCW.out (fun k e=>by have e':k=g3:=e;omega)) 2 X)
   simp only [Rs.tell_ok] at HS
   rw [hXl] at HS
   have HN:=h_ (HNX.out i u hu)
   obtain ⟨d,hd⟩:∃d,isAt 2 u s.ts=d:=⟨_,rfl⟩
   rw [hd] at HS HN
   clear hX hXl hXv hu hd
   go_wp2_with fail
   refine HS.out.mono ?_
   rintro e w3 ⟨rfl,hb⟩
   have HA3:=h_ (HAW.out.below hb)
   have HC3:=h_ (HCW.out.trans (Ch.of_below hb))
   clear hb HS u1
   cases d
   ·have HN':Hid (akN s (i+1)=akN s i):=HN.out
    go_wp2_with fail
    go_roundw
    case rel=>exact ⟨i+1,by omega,by go_num,by rw [HN'.out];exact HA3,HC3⟩
    case measure=>simp [intOf];omega
   ·have HN':Hid (akN s (i+1)=i+1):=HN.out
    have c0:=HA3.out.c 0 rfl
    have f0:=HA3.out.fr 0
    go_wp2_with fail
    go_roundw
    case rel =>
     refine ⟨i+1,by omega,by go_num,?_,HC3.out.set (.inl rfl) 0 _⟩
     rw [HN'.out,Int.natCast_add]
     exact HA3.out.set 0 (.int .i64 ((i:Int)+1))
    case measure=>simp [intOf];omega
  ·have him':¬(i:Int)<3:=by omega
   obtain rfl:i=3:=by omega
   rw [akN_all] at HAW
   have HPW:=h_ (HP2.out.ch HCW.out (fun k e=>by have e':k=g3:=e;omega))
   have HRW:=h_ (HR2.out.ch HCW.out hg03)
   have HMW:Hid (Mv b w wr):=((Ch.of_mv HM2.out).trans2 HCW.out (S:=fun k=>k=b) (fun j hj e=>by have e':j=g3:=e;have:=HM2.out;omega)).mv (fun _ _ h=>h)
   have hszw:g3<wr.heap.size:=HAW.out.lt
   obtain ⟨k,hk⟩:∃k,actK s.ts=k:=⟨_,rfl⟩
   rw [hk] at HAW
   have HK:=h_ hk
   have c0:=HAW.out.c 0 rfl
   clear hi him HNX HLC HML HA2 HP2 HR2 HM2 HCW hk
   by_cases hk0:k=0
   ·subst hk0
    have HC:=h_ (xwrong_s wr b K D _ HPW.out)
    go_wp2_with fail
    refine HC.out.mono ?_
    rintro e w4 ⟨rfl,hp,hm⟩
    have HA4:=h_ (HAW.out.mv hm hg3b)
    have HR4:=h_ (HRW.out.mv hm hg0b)
    have HM4:=h_ (HMW.out.trans hm)
    have HP4:=h_ hp
    clear hp hm HC c0
    have HEQ:Hid (actR s=wrongR s.ts):=by show _=_;unfold actR;rw [if_pos HK.out]
    have c0:=HA4.out.c 0 rfl
    have c1:=HA4.out.c 1 rfl
    have c2:=HA4.out.c 2 rfl
    have c3:=HA4.out.c 3 rfl
    have c4:=HA4.out.c 4 rfl
    have c5:=HA4.out.c 5 rfl
    have c6:=HA4.out.c 6 rfl
    have c7:=HA4.out.c 7 rfl
    have c8:=HA4.out.c 8 rfl
    have d0:=HR4.out.c 0 rfl
    have f0:=HR4.out.fr 0
    have d1:=HR4.out.c 1 rfl
    have f1:=HR4.out.fr 1
    have d2:=HR4.out.c 2 rfl
    have f2:=HR4.out.fr 2
    have d3:=HR4.out.c 3 rfl
    have f3:=HR4.out.fr 3
    have d4:=HR4.out.c 4 rfl
    have f4:=HR4.out.fr 4
    have d5:=HR4.out.c 5 rfl
    have f5:=HR4.out.fr 5
    have d6:=HR4.out.c 6 rfl
    have f6:=HR4.out.fr 6
    have d7:=HR4.out.c 7 rfl
    have f7:=HR4.out.fr 7
    have d8:=HR4.out.c 8 rfl
    have f8:=HR4.out.fr 8
    unfold zAct at HR4
    go_wp2_with fail
    have hres:=HR4.out.all [.int .i64 ((0:Nat):Int),.string ⟨#[]⟩,.int .i64 0,.int .i64 0,.string ⟨#[]⟩,.int .i64 0,.slice none 0 0,.int .i64 0,.int .i64 t.at_] rfl
    have hmf:=sets_put HM4.out hg0w 0 [.int .i64 ((0:Nat):Int),.string ⟨#[]⟩,.int .i64 0,.int .i64 0,.string ⟨#[]⟩,.int .i64 0,.slice none 0 0,.int .i64 0,.int .i64 t.at_]
    have hpf:=HP4.out.sets (g:=g0) (by omega) 0 [.int .i64 ((0:Nat):Int),.string ⟨#[]⟩,.int .i64 0,.int .i64 0,.string ⟨#[]⟩,.int .i64 0,.slice none 0 0,.int .i64 0,.int .i64 t.at_]
    simp only [sets,Nat.reduceAdd] at hres hmf hpf
    refine bodyPost_ret (resAct rfl _ rfl hres) rfl ?_
    refine ⟨⟨((0:Nat):Int),[],none,t.at_⟩,_,rfl,?_,rfl,?_,?_,hmf⟩
    ·exact Rep.v rfl (Rep.v rfl ((Rep.exF (GV.none _ w.heap.size w.heap.size) (n_ _) (n_ _) (World.grownBy.size hmf)).snoc rfl))
    ·rw [HEQ.out]
     exact fun y s' e=>absurd e wrong_ne2
    ·rw [HEQ.out,wrong_void]
     exact hpf
   ·have hk0':((k:Int)==0)=false:=beq_eq_false_iff_ne.2 (by omega)
    have HK0:=h_ hk0
    obtain ⟨t',gt',ot',q',r',hA',hq2,htk',hxm',hrd',hcl'⟩:=HPW.out.cells
    have z4:=(hcl' wr (fun _ _ h=>h)).2.2.2.2.1
    rw [hxm'.2.2.2.2.2.1] at z4
    have hfit:=hxm'.2.2.2.2.2.2.2.2
    clear hcl' htk' hA' hq2 hxm' hrd'
    by_cases ha:s.a=400
    ·have ha':((s.a:Int)==400)=true:=by rw [ha];rfl
     have HEQ:Hid (actR s=stopR 2 s.ts):=by show _=_;unfold actR;rw [if_neg (by rw [HK.out];exact HK0.out),if_pos ha]
     have HC:=h_ (xstop_s wr b K D _ HPW.out 2 (by decide))
     clear hk0 ha
     go_wp2_with fail
     refine HC.out.mono ?_
     rintro e w4 ⟨rfl,hp,hm⟩
     have HA4:=h_ (HAW.out.mv hm hg3b)
     have HR4:=h_ (HRW.out.mv hm hg0b)
     have HM4:=h_ (HMW.out.trans hm)
     have HP4:=h_ hp
     clear hp hm HC c0 z4
     have c0:=HA4.out.c 0 rfl
     have c1:=HA4.out.c 1 rfl
     have c2:=HA4.out.c 2 rfl
     have c3:=HA4.out.c 3 rfl
     have c4:=HA4.out.c 4 rfl
     have c5:=HA4.out.c 5 rfl
     have c6:=HA4.out.c 6 rfl
     have c7:=HA4.out.c 7 rfl
     have c8:=HA4.out.c 8 rfl
     have d0:=HR4.out.c 0 rfl
     have f0:=HR4.out.fr 0
     have d1:=HR4.out.c 1 rfl
     have f1:=HR4.out.fr 1
     have d2:=HR4.out.c 2 rfl
     have f2:=HR4.out.fr 2
     have d3:=HR4.out.c 3 rfl
     have f3:=HR4.out.fr 3
     have d4:=HR4.out.c 4 rfl
     have f4:=HR4.out.fr 4
     have d5:=HR4.out.c 5 rfl
     have f5:=HR4.out.fr 5
     have d6:=HR4.out.c 6 rfl
     have f6:=HR4.out.fr 6
     have d7:=HR4.out.c 7 rfl
     have f7:=HR4.out.fr 7
     have d8:=HR4.out.c 8 rfl
     have f8:=HR4.out.fr 8
     unfold zAct at HR4
     go_wp2_with fail
     have hres:=HR4.out.all [.int .i64 (k:Int),.string ⟨#[]⟩,.int .i64 0,.int .i64 0,.string ⟨#[]⟩,.int .i64 0,.slice none 0 0,.int .i64 0,.int .i64 t.at_] rfl
     have hmf:=sets_put HM4.out hg0w 0 [.int .i64 (k:Int),.string ⟨#[]⟩,.int .i64 0,.int .i64 0,.string ⟨#[]⟩,.int .i64 0,.slice none 0 0,.int .i64 0,.int .i64 t.at_]
     have hpf:=HP4.out.sets (g:=g0) (by omega) 0 [.int .i64 (k:Int),.string ⟨#[]⟩,.int .i64 0,.int .i64 0,.string ⟨#[]⟩,.int .i64 0,.slice none 0 0,.int .i64 0,.int .i64 t.at_]
     simp only [sets,Nat.reduceAdd] at hres hmf hpf
     refine bodyPost_ret (resAct rfl _ rfl hres) rfl ?_
     refine ⟨⟨(k:Int),[],none,t.at_⟩,_,rfl,?_,rfl,?_,?_,hmf⟩
     ·exact Rep.v rfl (Rep.v rfl ((Rep.exF (GV.none _ w.heap.size w.heap.size) (n_ _) (n_ _) (World.grownBy.size hmf)).snoc rfl))
     ·rw [HEQ.out]
      exact fun y s' e=>absurd e stop_ne
     ·rw [HEQ.out,stop_void]
      exact hpf
    ·have ha':((s.a:Int)==400)=false:=beq_eq_false_iff_ne.2 (by omega)
     have HAA:=h_ ha
     obtain ⟨r,hr,hr0,hrq,hrd,hrm⟩:=HPW.out.out
     have hk5:kindOf s.ts≠5:=by
      exact word_kind (us:=[wSet,wRaise,wEmit]) (k:=1) (by show actK s.ts≠0;rw [HK.out];exact HK0.out)
     obtain ⟨hst,hxs⟩:=hrm.step hk5 HPW.out.at_.1
     have r1:=hr.c1
     have f1:=hr.fr 1
     have f4:=hr.fr 4
     have hrq1:r.q≤100000:=by have:=HPW.out.ok.n;omega
     have hra:s.a≤400:=hfit
     obtain ⟨W5,hW5⟩:∃W,W=(wr.setCell ⟨b,4,none⟩ (.int .i64 ((s.a:Int)+1))).setCell ⟨b,1,none⟩ (.int .i64 ((r.q:Int)+1)):=⟨_,rfl⟩
     have hm5:Mv b wr W5:=by rw [hW5];exact ((Mv.refl b wr).set 4 _).set 1 _
     have hr5:RvB W5 b { r with q:=r.q+1,C:=(s.a:Int)+1 }:=by
      rw [hW5]
      have:=(hr.setC ((s.a:Int)+1)).setq (r.q+1)
      rw [Int.natCast_add] at this
      exact this
     have HP5:Hid (XS W5 b K D (.ok () ⟨s.ts.tail,s.n,s.m,s.a+1⟩)):=HPW.out.turn hm5 hr5 hr0 hst hrd ⟨hxs.1,hxs.2.1,hxs.2.2.1,hxs.2.2.2.1,hxs.2.2.2.2.1,by show (s.a:Int)+1=((s.a+1:Nat):Int);omega,⟨hrm.2.2.2.2.2.2.1,hrm.2.2.2.2.2.2.2.1,by show s.a+1≤400;omega⟩⟩
     have HA5:=h_ (HAW.out.mv hm5 hg3b)
     have HR5:=h_ (HRW.out.mv hm5 hg0b)
     have HM5:=h_ (HMW.out.trans hm5)
     have hsz5:=World.grownBy.size hm5
     have HW5:=h_ hW5
     have HC:=h_ (xname_s W5 b K D _ HP5.out)
     clear hr hr0 hrq hrd hrm hk5 hst hxs hm5 hr5 hk0 ha hfit hW5
     go_upto_region 17 with fail
     rw [←HW5.out]
     clear HW5 c0 z4 r1 f1 f4 hk0' ha' hrq1 hra HAW HRW HMW HPW
     go_wp2_with fail
     refine HC.out.mono ?_
     rintro e w6 ⟨nx,NX,np,hnx,rfl,his,hp,hm⟩
     obtain ⟨m6,hm6⟩:∃m,(Rs.ok () (⟨s.ts.tail,s.n,s.m,s.a+1⟩:Ss)).go nameR=m:=⟨_,rfl⟩
     rw [hm6] at his hp
     have HE6:=h_ hm6
     have hsz6:=World.grownBy.size hm
     have HA6':=h_ (HA5.out.mv hm hg3b)
     have c1:=HA6'.out.c 1 rfl
     have f1:=HA6'.out.fr 1
     obtain ⟨W7,hW7⟩:∃W,W=w6.setCell ⟨g3,1,none⟩ (.string NX):=⟨_,rfl⟩
     have HA7:Hid (CB W7 g3 120 [.int .i64 (k:Int),.string NX,.int .i64 0,.int .i64 0,.string ⟨#[]⟩,.int .i64 0,.slice none 0 0,.int .i64 0,.int .i64 t.at_]):=by rw [hW7];exact HA6'.out.set 1 _
     have HR7:Hid (CB W7 g0 120 zAct):=by rw [hW7];exact (HR5.out.mv hm hg0b).other hg03 1 _
     have HM7:Hid (Mv b w W7):=by rw [hW7];exact (HM5.out.trans hm).put 1 g3 (by omega) _
     have HP7:Hid (XS W7 b K D m6.void):=by rw [hW7];exact hp.ch (Ch.of_mv ((Mv.refl g3 w6).set 1 _)) (fun k e=>by have e':k=g3:=e;omega)
     have hsz7:W7.heap.size=w6.heap.size:=by rw [hW7];simp
     have HIS:=h_ his
     have HNX:=h_ hnx
     have HW7:=h_ hW7
     clear hm6 his hp hm HC HA5 HR5 HM5 HP5 hnx hW7
     go_upto_region 18 with fail
     rw [←HW7.out]
     clear HW7 c1 f1 HA6'
     have c0:=HA7.out.c 0 rfl
     have HEQ0:Hid (actR s=m6.bind fun x s1=>(actV (actK s.ts) s1).bind fun v s2=>(mustR 4 [59] s2).bind fun _ s3=>.ok ⟨actK s.ts,x.1,v,atOf s.ts⟩ s3):=by
      show _=_
      rw [←HE6.out]
      unfold actR
      rw [if_neg (by rw [HK.out];exact HK0.out),if_neg HAA.out]
      rfl
     have HAT:Hid (atOf s.ts=t.at_):=by
      show _=_
      obtain ⟨l,hl⟩:=HT.out.2 s rfl
      rw [hl]
      rfl
     obtain ⟨m7,hm7⟩:∃m,m6.void=m:=⟨_,rfl⟩
     rw [hm7] at HP7
     have HE7:=h_ hm7
     clear hm7
     by_cases hk2:k=2
     ·have hk2':((k:Int) != 2)=false:=by rw [hk2];rfl
      have HEQ:Hid (actR s=(m7.go (mustR 4 [59])).go fun s3=>.ok ⟨k,nx,none,t.at_⟩ s3):=by
       show _=_
       rw [HEQ0.out,Rs.seq HIS.out,HE7.out,HK.out,HAT.out,hk2]
       exact act_end2 m7 nx t.at_
      have HC:=h_ (xmust_s W7 b K D _ HP7.out 4 ⟨#[59]⟩ (by decide))
      clear hk2
      go_wp2_with fail
      refine HC.out.mono ?_
      rintro e w8 ⟨rfl,hp,hm⟩
      have HA8:=h_ (HA7.out.mv hm hg3b)
      have HR8:=h_ (HR7.out.mv hm hg0b)
      have HM8:=h_ (HM7.out.trans hm)
      have HP8:=h_ hp
      clear hp hm HC c0 HA7 HR7 HM7 HP7
      have c0:=HA8.out.c 0 rfl
      have c1:=HA8.out.c 1 rfl
      have c2:=HA8.out.c 2 rfl
      have c3:=HA8.out.c 3 rfl
      have c4:=HA8.out.c 4 rfl
      have c5:=HA8.out.c 5 rfl
      have c6:=HA8.out.c 6 rfl
      have c7:=HA8.out.c 7 rfl
      have c8:=HA8.out.c 8 rfl
      have d0:=HR8.out.c 0 rfl
      have f0:=HR8.out.fr 0
      have d1:=HR8.out.c 1 rfl
      have f1:=HR8.out.fr 1
      have d2:=HR8.out.c 2 rfl
      have f2:=HR8.out.fr 2
      have d3:=HR8.out.c 3 rfl
      have f3:=HR8.out.fr 3
      have d4:=HR8.out.c 4 rfl
      have f4:=HR8.out.fr 4
      have d5:=HR8.out.c 5 rfl
      have f5:=HR8.out.fr 5
      have d6:=HR8.out.c 6 rfl
      have f6:=HR8.out.fr 6
      have d7:=HR8.out.c 7 rfl
      have f7:=HR8.out.fr 7
      have d8:=HR8.out.c 8 rfl
      have f8:=HR8.out.fr 8
      unfold zAct at HR8
      go_wp2_with fail
      have hres:=HR8.out.all [.int .i64 (k:Int),.string NX,.int .i64 0,.int .i64 0,.string ⟨#[]⟩,.int .i64 0,.slice none 0 0,.int .i64 0,.int .i64 t.at_] rfl
      have hmf:=sets_put HM8.out hg0w 0 [.int .i64 (k:Int),.string NX,.int .i64 0,.int .i64 0,.string ⟨#[]⟩,.int .i64 0,.slice none 0 0,.int .i64 0,.int .i64 t.at_]
      have hpf:=HP8.out.sets (g:=g0) (by omega) 0 [.int .i64 (k:Int),.string NX,.int .i64 0,.int .i64 0,.string ⟨#[]⟩,.int .i64 0,.slice none 0 0,.int .i64 0,.int .i64 t.at_]
      simp only [sets,Nat.reduceAdd] at hres hmf hpf
      refine bodyPost_ret (resAct rfl _ rfl hres) rfl ?_
      refine ⟨⟨k,nx,none,t.at_⟩,_,rfl,?_,rfl,?_,?_,hmf⟩
      ·exact Rep.v rfl (Rep.v' HNX.out ((Rep.exF (GV.none _ w.heap.size w.heap.size) (n_ _) (n_ _) (World.grownBy.size hmf)).snoc rfl))
      ·rw [HEQ.out]
       exact go_ok_is _ _
      ·rw [HEQ.out,go_ok_void]
       exact hpf
     ·have hk2':((k:Int) != 2)=true:=by simp [bne];omega
      have HK2:=h_ hk2
      have HC:=h_ (xmust_s W7 b K D _ HP7.out 4 ⟨#[61]⟩ (by decide))
      clear hk2
      go_wp2_with fail
      refine HC.out.mono ?_
      rintro e w9 ⟨rfl,hp,hm⟩
      obtain ⟨m8,hm8⟩:∃m,m7.go (mustR 4 [61])=m:=⟨_,rfl⟩
      replace hp:XS w9 b K D m8:=by rw [←hm8];exact hp
      have HE8:=h_ hm8
      have HA9:=h_ (HA7.out.mv hm hg3b)
      have HR9:=h_ (HR7.out.mv hm hg0b)
      have HM9:=h_ (HM7.out.trans hm)
      have hsz9:=World.grownBy.size hm
      have HC2:=h_ (xexpr_s w9 b K D m8 hp)
      clear hp hm hm8 HC c0 HA7 HR7 HM7 HP7
      go_wp2_with fail
      refine HC2.out.mono ?_
      rintro e wa ⟨y,v,rfl,hrp,hy,hp,hm⟩
      have hvv:v.val=.agg #[.int .i64 v.kind,.int .i64 v.num,.string v.name,.int .i64 v.op,.slice v.A v.len v.cap,.int .i64 v.p]:=rfl
      rw [hvv]
      obtain ⟨m9,hm9⟩:∃m,(m8.go exprR).void=m:=⟨_,rfl⟩
      rw [hm9] at hp
      have HE9:=h_ hm9
      have hsza:=World.grownBy.size hm
      obtain ⟨Wb,hWb⟩:∃W,W=sets wa g3 2 v.cells:=⟨_,rfl⟩
      have HAa:=h_ (HA9.out.mv hm hg3b)
      have hmab:=sets_mv wa g3 2 v.cells
      have HAb:Hid (CB Wb g3 120 [.int .i64 (k:Int),.string NX,.int .i64 v.kind,.int .i64 v.num,.string v.name,.int .i64 v.op,.slice v.A v.len v.cap,.int .i64 v.p,.int .i64 t.at_]):=by
       rw [hWb]
       exact CB.many v.cells 2 HAa.out (by simp [EV.cells])
      have HRb:Hid (CB Wb g0 120 zAct):=by rw [hWb];exact (HR9.out.mv hm hg0b).mv hmab hg03
      have HRP:Hid (Rep Wb w9.heap.size (dvEx false y) v.cells):=by rw [hWb];exact hrp.mv hmab (by omega)
      have HPb:Hid (XS Wb b K D m9):=by rw [hWb];exact hp.sets (by omega) _ _
      have HMb:Hid (Mv b w Wb):=by rw [hWb];exact sets_put (HM9.out.trans hm) (by omega) _ _
      have hszb:Wb.heap.size=wa.heap.size:=by rw [hWb,sets_size]
      have HYY:=h_ hy
      have HEQ:Hid (actR s=(m9.go (mustR 4 [59])).go fun s3=>.ok ⟨k,nx,y,t.at_⟩ s3):=by
       show _=_
       rw [HEQ0.out,Rs.seq HIS.out,HE7.out,HK.out,HAT.out]
       exact act_end HK2.out HE8.out HE9.out HYY.out
      have c2:=HAa.out.c 2 rfl
      have f2:=HAa.out.fr 2
      have c3:=HAa.out.c 3 rfl
      have f3:=HAa.out.fr 3
      have c4:=HAa.out.c 4 rfl
      have f4:=HAa.out.fr 4
      have c5:=HAa.out.c 5 rfl
      have f5:=HAa.out.fr 5
      have c6:=HAa.out.c 6 rfl
      have f6:=HAa.out.fr 6
      have c7:=HAa.out.c 7 rfl
      have f7:=HAa.out.fr 7
      unfold EV.cells at hWb
      simp only [sets,Nat.reduceAdd] at hWb
      have HWW:=h_ hWb
      clear hrp hy hp hm hvv hm9 hmab HC2 hWb
      go_upto_region 21 with fail
      rw [←HWW.out]
      clear HWW c2 c3 c4 c5 c6 c7 f2 f3 f4 f5 f6 f7 HAa
      have HC:=h_ (xmust_s Wb b K D _ HPb.out 4 ⟨#[59]⟩ (by decide))
      go_wp2_with fail
      refine HC.out.mono ?_
      rintro e w8 ⟨rfl,hp,hm⟩
      have HA8:=h_ (HAb.out.mv hm hg3b)
      have HR8:=h_ (HRb.out.mv hm hg0b)
      have HM8:=h_ (HMb.out.trans hm)
      have HP8:=h_ hp
      have HRP8:=h_ (HRP.out.mv hm (by omega))
      clear hp hm HC HAb HRb HMb HPb HRP
      have c0:=HA8.out.c 0 rfl
      have c1:=HA8.out.c 1 rfl
      have c2:=HA8.out.c 2 rfl
      have c3:=HA8.out.c 3 rfl
      have c4:=HA8.out.c 4 rfl
      have c5:=HA8.out.c 5 rfl
      have c6:=HA8.out.c 6 rfl
      have c7:=HA8.out.c 7 rfl
      have c8:=HA8.out.c 8 rfl
      have d0:=HR8.out.c 0 rfl
      have f0:=HR8.out.fr 0
      have d1:=HR8.out.c 1 rfl
      have f1:=HR8.out.fr 1
      have d2:=HR8.out.c 2 rfl
      have f2:=HR8.out.fr 2
      have d3:=HR8.out.c 3 rfl
      have f3:=HR8.out.fr 3
      have d4:=HR8.out.c 4 rfl
      have f4:=HR8.out.fr 4
      have d5:=HR8.out.c 5 rfl
      have f5:=HR8.out.fr 5
      have d6:=HR8.out.c 6 rfl
      have f6:=HR8.out.fr 6
      have d7:=HR8.out.c 7 rfl
      have f7:=HR8.out.fr 7
      have d8:=HR8.out.c 8 rfl
      have f8:=HR8.out.fr 8
      unfold zAct at HR8
      go_wp2_with fail
      have hres:=HR8.out.all [.int .i64 (k:Int),.string NX,.int .i64 v.kind,.int .i64 v.num,.string v.name,.int .i64 v.op,.slice v.A v.len v.cap,.int .i64 v.p,.int .i64 t.at_] rfl
      have hmf:=sets_put HM8.out hg0w 0 [.int .i64 (k:Int),.string NX,.int .i64 v.kind,.int .i64 v.num,.string v.name,.int .i64 v.op,.slice v.A v.len v.cap,.int .i64 v.p,.int .i64 t.at_]
      have hpf:=HP8.out.sets (g:=g0) (by omega) 0 [.int .i64 (k:Int),.string NX,.int .i64 v.kind,.int .i64 v.num,.string v.name,.int .i64 v.op,.slice v.A v.len v.cap,.int .i64 v.p,.int .i64 t.at_]
      have hrp:=HRP8.out.mv (sets_mv _ g0 0 [.int .i64 (k:Int),.string NX,.int .i64 v.kind,.int .i64 v.num,.string v.name,.int .i64 v.op,.slice v.A v.len v.cap,.int .i64 v.p,.int .i64 t.at_]) (by omega)
      simp only [sets,Nat.reduceAdd] at hres hmf hpf hrp
      refine bodyPost_ret (resAct rfl _ rfl hres) rfl ?_
      refine ⟨⟨k,nx,y,t.at_⟩,_,rfl,?_,rfl,?_,?_,hmf⟩
      ·exact Rep.v rfl (Rep.v' HNX.out ((hrp.mono (by omega)).snoc rfl))
      ·rw [HEQ.out]
       exact go_ok_is _ _
      ·rw [HEQ.out,go_ok_void]
       exact hpf
theorem app_dv (w:World) {t ty e:TypeId} {z:Value} {k bytes:Nat} (h1:Tryz.prog.underlying t=some (.slice e)) (hinfo:(Tryz.prog.info? e).map (fun i=>(i.zero,i.size,i.bytes))=some (some z,k,bytes)) (h6:z.cells.size=k) (hk:0<k) (hb:bytes≤10000)
  {v:Value} {n:Nat} {cs:List DV} {F:List Nat} (hv:DvAt w (.row e k n cs) v F) (hF:F.Nodup) {ys:List Value} {ds:List DV} {F2:List Nat} (hd:DvsAt w ds ys F2) (hl:ys.length=k) (hF2:F2.Nodup) (hdis:∀a∈F,a∉F2) (hn:n≤1000000) :
  ∃v' w' F',(Builtin.append_ #[t,t] ty #[v,.slice (some ⟨w.heap.size,0,none⟩) 1 1]).run Tryz.prog (w.alloc (.cells ys.toArray e))=.ok v' w'∧DvAt w' (.row e k (n+1) (cs++ds)) v' F'∧F'.Nodup∧(∀j∈F',j∈F∨j∈F2∨w.heap.size≤j)∧Ch (·∈F) w w':=by
 have hba:Below w.heap.size w (w.alloc (.cells ys.toArray e)):=(b_ _ w).alloc (n_ _) _
 obtain ⟨i,hi,hz0,hz1,hz2⟩:=info_parts hinfo
 obtain ⟨v',w',F',hr,a1,a2,a3,a4⟩:=run_append_dv t ty e i z k bytes h1 hi hz0 hz1 hz2 h6 hk (hv.below hba) hF (CB.new w e ys) (hd.below hba) hl hF2 hdis hn hb
 refine ⟨v',w',F',hr,a1,a2,fun j hj=>?_,(Ch.of_below hba).trans a4⟩
 rcases a3 j hj with h|h|h
 ·exact .inl h
 ·exact .inr (.inl h)
 ·exact .inr (.inr (Nat.le_trans hba.size h))
def xleft (w:World) (b n:Nat):Nat:=match w.cell? ⟨b,6,none⟩,w.cell? ⟨b,1,none⟩ with
 |some (.int _ c),some (.int _ q)=>if c=0 then n-q.toNat+1 else 0
 |_,_=>0
def Rs.leftX (m:Rs Unit):Nat:=match m with
 |.ok _ s=>s.ts.length+1
 |_=>0
theorem XS.left {w:World} {b:Nat} {K:Kx} {D:Int} {m:Rs Unit} (h:XS w b K D m):xleft w b K.n=m.leftX:=by
 obtain ⟨r,h1,h0,h2,h4,h5⟩:=h.out
 unfold xleft
 rw [h1.c6,h1.c1]
 cases m with
 |out=>exact h5.elim
 |bad c p =>
  show (if r.code=0 then _ else 0)=0
  rw [if_neg (by rw [h5.1];exact h5.2.2)]
 |ok x s =>
  show (if r.code=0 then K.n-(r.q:Int).toNat+1 else 0)=s.ts.length+1
  rw [if_pos h5.1,←h5.2.1,List.length_drop,h.at_.1]
  rfl
theorem XS.len {w:World} {b:Nat} {K:Kx} {D:Int} {s:Ss} (h:XS w b K D (.ok () s)):s.ts.length≤K.n:=by
 obtain ⟨r,_,_,_,_,h5⟩:=h.out
 rw [←h5.2.1,List.length_drop,h.at_.1]
 omega
theorem left_less {α:Type} {s:Ss} {e:Rs α} (h:Takes 1 s e):e.void.leftX<(Rs.ok () s).leftX:=by
 cases e with
 |out=>exact Nat.succ_pos _
 |bad c p=>exact Nat.succ_pos _
 |ok x s' =>
  have:=h x s' rfl
  show s'.ts.length+1<s.ts.length+1
  omega
theorem XS.code {w:World} {b:Nat} {K:Kx} {D:Int} {m:Rs Unit} (h:XS w b K D m):∃c:Int,w.cell? ⟨b,6,none⟩=some (.int .i64 c)∧(c==0)=m.tell fun _=>true:=by
 obtain ⟨r,h1,h0,h2,h4,h5⟩:=h.out
 exact ⟨r.code,h1.c6,h5.code⟩
theorem xblk_end {l:List SyAct} {s:Ss} (h:isAt 4 [125] s.ts=true):It blkS l s=.ok l s.drop:=by
 rw [It_eq blkS_goes]
 unfold blkS
 rw [if_pos h]
 rfl
theorem xblk_more {l:List SyAct} {s:Ss} {x:SyAct} (h:isAt 4 [125] s.ts=false) (hx:(actR s).is x):It blkS l s=(actR s).void.go (It blkS (l++[x])):=by
 rw [It_eq blkS_goes]
 unfold blkS
 rw [h,if_neg (by decide),Rs.assoc]
 exact Rs.seq hx _
theorem flat_snoc {α:Type} (f:α→List DV) (l:List α) (x:α):(l++[x]).flatMap f=l.flatMap f++f x:=by
 rw [List.flatMap_append]
 simp
theorem xacts_slice {w:World} {o:Bool} {l:List SyAct} {v:Value} {F:List Nat} (h:DvAt w (dvActs o l) v F):∃A c,v=.slice A l.length c∧l.length≤c∧c≤maxLen:=by
 unfold dvActs at h
 exact h.slice
structure XbIv (w:World) (b:Nat) (K:Kx) (D:Int) (M:Rs (List SyAct)) (v:Value) (wr:World) (l:List SyAct) (m2:Rs Unit) (F:List Nat):Prop where
 xs:XS wr b K D m2
 eq:M=m2.go (It blkS l)
 row:DvAt wr (dvActs false l) v F
 nd:F.Nodup
 lo:∀g∈F,w.heap.size≤g
 mv:Mv b w wr
 len:∀s,m2=.ok () s→l.length+s.ts.length≤K.n
theorem xblock_s (w:World) (b:Nat) (K:Kx) (D:Int) (m:Rs Unit) (h:XS w b K D m) :
  Calls Tryz.prog 44 #[.pointer (some ⟨b,0,none⟩)] w fun e w'=>∃l v,e=.returned v∧(m.go blockR).is l∧Rep w' w.heap.size [dvActs false l] [v]∧XS w' b K D (m.go blockR).void∧Mv b w w':=by
 obtain ⟨M,hM⟩:∃M,m.go blockR=M:=⟨_,rfl⟩
 rw [hM]
 have HC:=h_ (xmust_s w b K D m h 4 ⟨#[123]⟩ (by decide))
 have hbw:=h.blt
 have HN:=h_ h.ok.n
 obtain ⟨m1,hm1⟩:∃m1,m.go (mustR 4 [123])=m1:=⟨_,rfl⟩
 have HM1:Hid (M=m1.go (It blkS [])):=by
  show _=_
  rw [←hM,←hm1]
  cases m <;> rfl
 replace HC:Hid (Calls Tryz.prog 17 #[.pointer (some ⟨b,0,none⟩),.int .i64 4,.string ⟨#[123]⟩] w fun e w'=>e=.returned (.tuple #[])∧XS w' b K D m1∧Mv b w w'):=by rw [←hm1];exact HC
 clear h hM hm1
 go_enter Tryz.func44,Tryz.ntmps44
 go_wp2_with fail
 refine HC.out.mono ?_
 rintro e w1 ⟨rfl,hp,hm⟩
 have HIV:Hid (XbIv w b K D M (.slice none 0 0) w1 [] m1 []):=by
  refine ⟨hp,HM1.out,?_,List.nodup_nil,fun g hg=>(by cases hg),hm,fun s e=>?_⟩
  ·unfold dvActs DvAt
   exact ⟨[],[],World.ownsRow_nil _ 0 _ _,rfl,DvsAt.nil _⟩
  ·subst e
   have:=hp.len
   simpa using this
 clear HC HM1 hp hm
 go_wp2_with fail
 go_loopw [3] (fun lv wr=>∃l m2 F,Hid (XbIv w b K D M lv wr l m2 F)) (fun _ wr=>xleft wr b K.n)
 case atStart=>exact ⟨[],m1,[],HIV⟩
 case round =>
  obtain ⟨l,m2,F,HI⟩:=hrel
  obtain ⟨A,c0,rfl,hc1,hc2⟩:=xacts_slice HI.out.row
  obtain ⟨cc,r6,hcc⟩:=HI.out.xs.code
  have HLE:Hid (xleft wr b K.n=m2.leftX):=HI.out.xs.left
  cases m2 with
  |out=>exact absurd rfl HI.out.xs.notOut
  |bad c p =>
   rw [Rs.tell_bad] at hcc
   go_wp2_with fail
   go_ret
   refine ⟨l,_,rfl,?_,⟨F++[],DvsAt.cons HI.out.row (DvsAt.nil _),by simpa using HI.out.nd,fun g hg=>HI.out.lo g (by simpa using hg)⟩,?_,HI.out.mv⟩
   ·rw [HI.out.eq]
    exact Rs.is_bad _ _ _
   ·rw [HI.out.eq]
    exact HI.out.xs
  |ok u s =>
   rw [Rs.tell_ok] at hcc
   have HC:=h_ (xpass_s wr b K D _ HI.out.xs 4 ⟨#[125]⟩ (by decide))
   simp only [Rs.tell_ok,Rs.go_ok] at HC
   obtain ⟨d,hd⟩:∃d,isAt 4 [125] s.ts=d:=⟨_,rfl⟩
   have HD:=h_ hd
   replace HC:Hid (Calls Tryz.prog 38 #[.pointer (some ⟨b,0,none⟩),.int .i64 4,.string ⟨#[125]⟩] wr fun e w'=>e=.returned (.bool d)∧XS w' b K D (skipR 4 [125] s)∧Mv b wr w'):=by rw [←hd];exact HC
   clear hd
   go_wp2_with fail
   refine HC.out.mono ?_
   rintro e w2 ⟨rfl,hp,hm⟩
   have HP2:=h_ hp
   have HM2:=h_ hm
   clear hp hm HC r6
   cases d
   ·have hsk:skipR 4 [125] s=.ok () s:=by unfold skipR;rw [HD.out,if_neg (by decide)]
    have HC:=h_ (xact_s w2 b K D s (by have:=HP2.out;rw [hsk] at this;exact this))
    clear hsk
    go_wp2_with fail
    refine HC.out.mono ?_
    rintro e w3 ⟨x,ys,rfl,hrp,hl,his,hp,hm⟩
    obtain ⟨F2,hd2,hn2,hlo2⟩:=hrp
    have zo:=hd2.ones
    have hy:=hd2
    obtain ⟨y0,y1,y2,y3,y4,y5,y6,y7,y8,rfl⟩:=cells9 hl
    obtain ⟨g5,hg5⟩:∃g,g=w3.heap.size:=⟨_,rfl⟩
    obtain ⟨W5,hW5⟩:∃W,W=w3.alloc (.cells #[y0,y1,y2,y3,y4,y5,y6,y7,y8] 120):=⟨_,rfl⟩
    have hb5:Below w3.heap.size w3 W5:=by rw [hW5];exact (b_ _ w3).alloc (n_ _) _
    have HA5:Hid (CB W5 g5 120 [y0,y1,y2,y3,y4,y5,y6,y7,y8]):=by rw [hW5,hg5];exact CB.new w3 _ [y0,y1,y2,y3,y4,y5,y6,y7,y8]
    have hs1:=World.grownBy.size HI.out.mv
    have hs2:=World.grownBy.size HM2.out
    have hs3:=World.grownBy.size hm
    have hfl:=HI.out.row.lt
    have hbF:∀g∈F,g≠b:=fun g hg e=>by have:=HI.out.lo g hg;omega
    have hrow5:DvAt W5 (dvActs false l) (.slice A l.length c0) F:=((HI.out.row.ch (Ch.of_mv HM2.out) (fun g hg e=>hbF g hg e)).ch (Ch.of_mv hm) (fun g hg e=>hbF g hg e)).below hb5
    have hnl:l.length≤1000000:=by have:=HI.out.len s rfl;have:=HN.out;omega
    have hdis:∀a∈F,a∉F2:=fun a ha hb=>by have:=hfl a ha;have:=hlo2 a hb;omega
    unfold dvActs at hrow5
    obtain ⟨v',w',F',hr,a1,a2,a3,a4⟩:=app_dv W5 (t:=24) (ty:=24) Tryz.underlying24 infoAct rfl (by decide) (by decide) hrow5 HI.out.nd (hy.below hb5) rfl hn2 hdis hnl
    have HIV':Hid (XbIv w b K D M v' w' (l++[x]) (actR s).void F'):=by
     have hch5:Ch (fun k=>k=b) w W5:=(((Ch.of_mv HI.out.mv).trans (Ch.of_mv HM2.out)).trans (Ch.of_mv hm)).trans (Ch.of_below hb5)
     have hpx:XS W5 b K D (actR s).void:=hp.below hb5
     refine ⟨hpx.ch a4 (fun k hk=>?_),?_,?_,a2,fun g hg=>?_,?_,fun s' e=>?_⟩
     ·have:=HI.out.lo k hk;omega
     ·rw [HI.out.eq]
      exact xblk_more HD.out his
     ·unfold dvActs
      rw [flat_snoc,List.length_append,List.length_singleton]
      exact a1
     ·rcases a3 g hg with h|h|h
      ·exact HI.out.lo g h
      ·have:=hlo2 g h;omega
      ·have:=hb5.size;omega
     ·exact (hch5.trans2 a4 (fun j hj hs=>by have:=HI.out.lo j hs;omega)).mv (fun _ _ h=>h)
     ·cases e1:actR s with
      |out=>rw [e1] at e;cases e
      |bad c p=>rw [e1] at e;cases e
      |ok y s1 =>
       rw [e1] at e
       have:=(Rs.ok.inj e).2
       subst this
       have:=actR_takes s _ _ e1
       have:=HI.out.len s rfl
       rw [List.length_append,List.length_singleton]
       omega
    have HLX:Hid (xleft w' b K.n<xleft wr b K.n):=by
     show _<_
     rw [HLE.out,HIV'.out.xs.left]
     exact left_less (actR_takes s)
    have HRN:=h_ hr
    have st:∀u∈[y0,y1,y2,y3,y4,y5,y6,y7,y8],∀(w:World) (a:Addr),(store a u).run Tryz.prog w=stored Tryz.prog w a u .plain:=fun u hu w a=>run_store _ w a u .plain (zo u hu)
    have s0:=st y0 (by simp)
    have s1:=st y1 (by simp)
    have s2:=st y2 (by simp)
    have s3:=st y3 (by simp)
    have s4:=st y4 (by simp)
    have s5:=st y5 (by simp)
    have s6:=st y6 (by simp)
    have s7:=st y7 (by simp)
    have s8:=st y8 (by simp)
    clear st zo hl his hp hm hd2 hn2 hlo2 hy hb5 hrow5 hnl hdis hr a1 a2 a3 a4 hbF hfl HC HP2 HM2 HI HIV HLE hs1 hs2 hs3
    go_upto_region 7 with fail
    rw [←hW5,←hg5]
    clear hW5 hg5 s0 s1 s2 s3 s4 s5 s6 s7 s8
    have c0':=HA5.out.c 0 rfl
    have c1':=HA5.out.c 1 rfl
    have c2':=HA5.out.c 2 rfl
    have c3':=HA5.out.c 3 rfl
    have c4':=HA5.out.c 4 rfl
    have c5':=HA5.out.c 5 rfl
    have c6':=HA5.out.c 6 rfl
    have c7':=HA5.out.c 7 rfl
    have c8':=HA5.out.c 8 rfl
    go_wp2_with (at_builtin;refine Lib.wpList_append_run _ rfl _ _ _ _ rfl _ _ rfl rfl _ _ HRN.out ?_)
    clear c0' c1' c2' c3' c4' c5' c6' c7' c8' HRN
    go_wp2_with fail
    go_roundw
    case rel=>exact ⟨l++[x],_,F',HIV'⟩
    case measure=>exact HLX.out
   ·have hsk:skipR 4 [125] s=.ok () s.drop:=by unfold skipR;rw [HD.out,if_pos rfl]
    have HPE:=HP2.out
    rw [hsk] at HPE
    have HPF:=h_ HPE
    clear hsk HPE HP2
    go_wp2_with fail
    go_ret
    have hbF:∀g∈F,g≠b:=fun g hg e=>by have:=HI.out.lo g hg;omega
    refine ⟨l,_,rfl,?_,⟨F++[],DvsAt.cons (HI.out.row.ch (Ch.of_mv HM2.out) (fun g hg e=>hbF g hg e)) (DvsAt.nil _),by simpa using HI.out.nd,fun g hg=>HI.out.lo g (by simpa using hg)⟩,?_,HI.out.mv.trans HM2.out⟩
    ·rw [HI.out.eq,Rs.go_ok,xblk_end HD.out]
     exact Rs.is_ok rfl
    ·rw [HI.out.eq,Rs.go_ok,xblk_end HD.out]
     exact HPF.out
end Go.Proofs.YtcddbfdbhjkjgaaGreatDoor
