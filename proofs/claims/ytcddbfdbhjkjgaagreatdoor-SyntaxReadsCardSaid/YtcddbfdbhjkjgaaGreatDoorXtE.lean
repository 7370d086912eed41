import Derived.Test.YtcddbfdbhjkjgaaGreatDoorQh
import Derived.Test.YtcddbfdbhjkjgaaGreatDoorQXtD
set_option maxHeartbeats 12800000
set_option maxRecDepth 20000
namespace Go.Proofs.YtcddbfdbhjkjgaaGreatDoor
open Go.RowKit
structure XMI (w:World) (b g0 g4:Nat) (K:Kx) (D:Int) (m:Rs Unit) (x:SyMove) (v:EV) (va vt:Value) (W:World):Prop where
 xs:XS W b K D m
 c4:CB W g4 56 (mvC x v va vt)
 c0:CB W g0 56 zMove
 mv:Mv b w W
theorem XMI.below {w W W':World} {b g0 g4:Nat} {K:Kx} {D:Int} {m:Rs Unit} {x:SyMove} {v:EV} {va vt:Value} (h:XMI w b g0 g4 K D m x v va vt W) (hb:Below W.heap.size W W'):XMI w b g0 g4 K D m x v va vt W' :=
 ⟨h.xs.below hb,h.c4.below hb,h.c0.below hb,h.mv.trans (Mv.of b hb)⟩
theorem Rep.slice2F {w:World} {base:Nat} {ds:List DV} {xs:List Value} {la:List SyAct} {lt:List (List UInt8)} {va vt:Value} (h:Rep w base ((ds++[dvActs false la])++[dvStrs lt]) ((xs++[va])++[vt])) (hl:xs.length=ds.length):∃A m c,va=.slice A m c:=by
 have h':Rep w base (ds++dvActs false la::[dvStrs lt]) (xs++va::[vt]):=by simpa using h
 exact Rep.at_ h' hl
theorem Rep.slice3F {w:World} {base:Nat} {ds:List DV} {xs:List Value} {la:List SyAct} {lt:List (List UInt8)} {va vt:Value} (h:Rep w base ((ds++[dvActs false la])++[dvStrs lt]) ((xs++[va])++[vt])) (hl:xs.length=ds.length):∃A m c,vt=.slice A m c :=
 Rep.at_ (ds2:=[]) (xs2:=[]) h (by simp [hl])
def tgtD (d:Bool) (lt:List (List UInt8)) (m:Rs Unit):Rs (List (List UInt8)):=if d=true then m.go (It tgtS lt) else m.go fun s=>.ok lt s
theorem tgt_first (m:Rs Unit):m.go tgtR=tgtD (m.tell fun s=>isAt 4 [45,62] s.ts) [] (m.go (skipR 4 [45,62])):=by
 cases m with
 |out=>rfl
 |bad c p=>rfl
 |ok x s =>
  show tgtR s=tgtD (isAt 4 [45,62] s.ts) [] (skipR 4 [45,62] s)
  unfold tgtR tgtD skipR
  cases isAt 4 [45,62] s.ts <;> rfl
theorem tgt_next {m:Rs Unit} {lt:List (List UInt8)} {x:List UInt8} {p:Int} (hx:(m.go nameR).is (x,p)):tgtD true lt m=tgtD ((m.go nameR).void.tell fun s=>isAt 4 [44] s.ts) (lt++[x]) ((m.go nameR).void.go (skipR 4 [44])):=by
 unfold tgtD
 rw [if_pos rfl]
 cases m with
 |out=>rfl
 |bad c p=>rfl
 |ok u s =>
  show It tgtS lt s=_
  rw [It_eq tgtS_goes]
  unfold tgtS
  rw [Rs.assoc]
  show ((nameR s).bind _)=_
  cases hn:nameR s with
  |out=>exact absurd hn (nameR_out s)
  |bad c p =>
   show _=if ((nameR s).void.tell fun s=>isAt 4 [44] s.ts)=true then ((nameR s).void.go (skipR 4 [44])).go _ else ((nameR s).void.go (skipR 4 [44])).go _
   rw [hn]
   rfl
  |ok y s1 =>
   have hy:=hx y s1 hn
   show _=if ((nameR s).void.tell fun s=>isAt 4 [44] s.ts)=true then ((nameR s).void.go (skipR 4 [44])).go _ else ((nameR s).void.go (skipR 4 [44])).go _
   rw [hn,hy]
   show ((if isAt 4 [44] s1.ts=true then (.ok (lt++[x],true) s1.drop:Rs (List (List UInt8)×Bool)) else .ok (lt++[x],false) s1).bind _)=if isAt 4 [44] s1.ts=true then (skipR 4 [44] s1).go _ else (skipR 4 [44] s1).go _
   unfold skipR
   cases isAt 4 [44] s1.ts <;> rfl
theorem skip_left (m:Rs Unit) (k:Int) (u:List UInt8):(m.go (skipR k u)).leftX≤m.leftX:=by
 cases m with
 |out=>exact n_ _
 |bad c p=>exact n_ _
 |ok x s =>
  show (skipR k u s).leftX≤s.ts.length+1
  unfold skipR
  split
  ·have:=drop_le s
   show s.drop.ts.length+1≤_
   omega
  ·exact n_ _
theorem evR_is (m:Rs Unit) (k:Nat) (hk:k≠1):m.go (evR k)=m.go fun s=>.ok [] s:=by
 congr 1
 funext s
 unfold evR
 rw [if_neg hk]
theorem waitR_is (m:Rs Unit) (k:Nat) (hk:k≠3):m.go (waitR k)=m.go fun s=>.ok 0 s:=by
 congr 1
 funext s
 unfold waitR
 rw [if_neg hk]
theorem strs_one (w:World) (x:List UInt8):DvsAt w [.v (txV x)] [txV x] []:=DvsAt.v rfl (DvsAt.nil w)
theorem strs_snoc (l:List (List UInt8)) (x:List UInt8):(l++[x]).map (fun s=>DV.v (txV s))=l.map (fun s=>DV.v (txV s))++[.v (txV x)]:=by simp
def mvRole (i:Nat):Nat:=match i with
 |0=>0
 |1=>1
 |2=>1
 |3=>1
 |4=>3
 |5=>1
 |6=>1
 |7=>4
 |8=>5
 |9=>6
 |10=>7
 |11=>8
 |12=>9
 |13=>10
 |_=>11
structure XtIv (w wL:World) (b g0 g4:Nat) (K:Kx) (D:Int) (MT:Rs (List (List UInt8))) (k:Nat) (ev:List UInt8) (wt:Int) (d:Bool) (y:Option Ex) (la:List SyAct) (p:Int) (v:EV) (va:Value) (wr:World) (more:Bool) (lt:List (List UInt8)) (vt:Value) (m5:Rs Unit):Prop where
 mi:XMI w b g0 g4 K D m5 ⟨k,ev,wt,d,y,la,lt,p⟩ v va vt wr
 eq:MT=tgtD more lt m5
 rep:Rep wr wL.heap.size [dvStrs lt] [vt]
 ch:Ch (fun j=>j=b∨j=g4∨wL.heap.size≤j) wL wr
 ok:more=true→∃s,m5=.ok () s∧lt.length+s.ts.length≤K.n+1
 len:lt.length≤K.n+1
def XmEnd (w:World) (b:Nat) (K:Kx) (D:Int) (s:Ss) (e:Ending) (w':World):Prop :=
 ∃(x:SyMove) (ys:List Value),e=.returned (.agg ys.toArray)∧Rep w' w.heap.size (dvMove false x) ys∧ys.length=13∧(moveR s).is x∧XS w' b K D (moveR s).void∧Mv b w w'
theorem xmove_s (w:World) (b:Nat) (K:Kx) (D:Int) (s:Ss) (k:Nat) (h:XS w b K D (.ok () s)) (hk:moveK s.ts=k) (hk0:k≠0) :
  Calls Tryz.prog 46 #[.pointer (some ⟨b,0,none⟩),.int .i64 (k:Int)] w (XmEnd w b K D s):=by
 have hk3:k=1∨k=2∨k=3:=by
  have:moveK s.ts≤3:=by
   unfold moveK
   simp only [wordAt]
   split
   ·omega
   ·split
    ·omega
    ·split <;> omega
  omega
 obtain ⟨g0,hg0⟩:∃g,g=w.heap.size:=⟨_,rfl⟩
 obtain ⟨W0,hW0⟩:∃W0,W0=w.alloc (.cells #[.int .i64 0,.string ⟨#[]⟩,.int .i64 0,.bool false,.int .i64 0,.int .i64 0,.string ⟨#[]⟩,.int .i64 0,.slice none 0 0,.int .i64 0,.slice none 0 0,.slice none 0 0,.int .i64 0] 56):=⟨_,rfl⟩
 have HR:Hid (CB W0 g0 56 zMove):=by rw [hW0,hg0];exact CB.new w _ zMove
 have HB0:Hid (Below w.heap.size w W0):=by rw [hW0];exact (b_ _ w).alloc (n_ _) _
 have hbw:=h.blt
 have hg0w:w.heap.size≤g0:=by omega
 have hg0b:g0≠b:=by omega
 have HP:=h_ (h.below HB0.out)
 obtain ⟨t,gt,ot,q,r,hA,hq,htk,hxm,hrd,hcl⟩:=HP.out.cells
 have HCL:=h_ hcl
 have hq':(q:Int)<K.n:=by omega
 have HT:=h_ htk
 have HK:=h_ hk
 have HK0:=h_ hk0
 have HK3:=h_ hk3
 clear h hxm hrd hcl htk hk hk0 hk3
 go_enter Tryz.func46,Tryz.ntmps46
 go_upto_region 1 with fail
 rw [←hW0,←hg0]
 clear hW0 hg0
 go_cut [5] from 10 to 22 (fun s5 wr=>∃g4,s5=.pointer (some ⟨g4,0,none⟩)∧Hid (W0.heap.size≤g4∧CB wr g4 56 [.int .i64 (k:Int),.string ⟨#[]⟩,.int .i64 0,.bool false,.int .i64 0,.int .i64 0,.string ⟨#[]⟩,.int .i64 0,.slice none 0 0,.int .i64 0,.slice none 0 0,.slice none 0 0,.int .i64 t.at_]∧Below W0.heap.size W0 wr))
 case first =>
  refine region_free _ _ _ (by kernel_rfl) 14 rfl (by kernel_rfl) (by kernel_rfl) (fun i=>match i with|2=>[1]|3=>[2]|4=>[3]|6=>[5]|7=>[6]|8=>[7]|9=>[4,8]|10=>[9]|11=>[10]|12=>[0,11]|14=>[13,12]|_=>[]) (by kernel_rfl) (by kernel_rfl)
   (fun j u W=>tkR W0 b gt ot q (.slice (some ⟨gt,ot,none⟩) K.n K.c) t.at_ 56 [.int .i64 0,.string ⟨#[]⟩,.int .i64 0,.bool false,.int .i64 0,.int .i64 0,.string ⟨#[]⟩,.int .i64 0,.slice none 0 0,.int .i64 0,.slice none 0 0,.slice none 0 0,.int .i64 0] (.agg #[.int .i64 (k:Int),.string ⟨#[]⟩,.int .i64 0,.bool false,.int .i64 0,.int .i64 0,.string ⟨#[]⟩,.int .i64 0,.slice none 0 0,.int .i64 0,.slice none 0 0,.slice none 0 0,.int .i64 t.at_]) (.int .i64 (k:Int)) (mvRole j) u W) (fun W=>Hid (Below W0.heap.size W0 W))
   (fun vals wr=>∃g:Nat,vals 13=some (.pointer (some ⟨g,0,none⟩))∧Hid (W0.heap.size≤g∧CB wr g 56 [.int .i64 (k:Int),.string ⟨#[]⟩,.int .i64 0,.bool false,.int .i64 0,.int .i64 0,.string ⟨#[]⟩,.int .i64 0,.slice none 0 0,.int .i64 0,.slice none 0 0,.slice none 0 0,.int .i64 t.at_]∧Below W0.heap.size W0 wr)) (fun j v w w' h hb=>tkR_mono h hb) (b7_drew (b7_refl W0)) ?_ ?_ ?_
  ·intro i o hi ho a W hG hbase hdep
   have hi':i=0∨i=1∨i=2∨i=3∨i=4∨i=5∨i=6∨i=7∨i=8∨i=9∨i=10∨i=11∨i=12∨i=13:=by omega
   have hcw:∀(p:Addr) (u:Value),W0.cell? p=some u→W.cell? p=some u:=fun p u hc=>by rw [hG.out.cell (World.block_lt_of_cell? W0 _ hc)];exact hc
   obtain ⟨r0,r1,_,_,_,_,_,_,y3⟩:=HCL.out W hcw
   rcases hi' with rfl|rfl|rfl|rfl|rfl|rfl|rfl|rfl|rfl|rfl|rfl|rfl|rfl|rfl
   ·have hp:a.tmps[1]?.getD undef=.int .i64 (k:Int):=ev_get2 ((hbase 1 (by kernel_rfl)).trans rfl)
    simp only [t_,z_,j_] at ho
    subst ho
    unfold Oper.wp
    go_simp
    exact ⟨_,rfl,rfl,b_ _ _⟩
   ·have hp:a.tmps[0]?.getD undef=.pointer (some ⟨b,0,none⟩):=ev_get2 ((hbase 0 (by kernel_rfl)).trans rfl)
    simp only [t_,s_,z_,j_] at ho
    subst ho
    unfold Oper.wp
    go_simp
    exact ⟨_,rfl,rfl,b_ _ _⟩
   ·have h1:a.tmps[11]?.getD undef=.pointer (some ⟨b,0,none⟩):=ev_get2 (show a.eval (.tmp 11)=.pointer (some ⟨b,0,none⟩) from hdep 1 (by simp))
    simp only [t_,s_,z_,j_] at ho
    subst ho
    unfold Oper.wp
    go_simp
    exact ⟨_,rfl,rfl,b_ _ _⟩
   ·have h2:a.tmps[12]?.getD undef=.pointer (some ⟨b,0,none⟩):=ev_get2 (show a.eval (.tmp 12)=.pointer (some ⟨b,0,none⟩) from hdep 2 (by simp))
    simp only [t_,s_,z_,j_] at ho
    subst ho
    unfold Oper.wp
    go_simp
    exact ⟨_,rfl,rfl,b_ _ _⟩
   ·have h3:a.tmps[13]?.getD undef=.pointer (some ⟨b,0,none⟩):=ev_get2 (show a.eval (.tmp 13)=.pointer (some ⟨b,0,none⟩) from hdep 3 (by simp))
    simp only [t_,s_,z_,j_] at ho
    subst ho
    unfold Oper.wp
    go_simp
    exact ⟨_,rfl,rfl,b_ _ _⟩
   ·have hp:a.tmps[0]?.getD undef=.pointer (some ⟨b,0,none⟩):=ev_get2 ((hbase 0 (by kernel_rfl)).trans rfl)
    simp only [t_,s_,z_,j_] at ho
    subst ho
    unfold Oper.wp
    go_simp
    exact ⟨_,rfl,rfl,b_ _ _⟩
   ·have h5:a.tmps[15]?.getD undef=.pointer (some ⟨b,0,none⟩):=ev_get2 (show a.eval (.tmp 15)=.pointer (some ⟨b,0,none⟩) from hdep 5 (by simp))
    simp only [t_,s_,z_,j_] at ho
    subst ho
    unfold Oper.wp
    go_simp
    exact ⟨_,rfl,rfl,b_ _ _⟩
   ·have h6:a.tmps[16]?.getD undef=.pointer (some ⟨b,0,none⟩):=ev_get2 (show a.eval (.tmp 16)=.pointer (some ⟨b,0,none⟩) from hdep 6 (by simp))
    simp only [t_,s_,z_,j_] at ho
    subst ho
    unfold Oper.wp
    go_simp
    exact ⟨_,rfl,rfl,b_ _ _⟩
   ·have h7:a.tmps[17]?.getD undef=.pointer (some ⟨b,1,none⟩):=ev_get2 (show a.eval (.tmp 17)=.pointer (some ⟨b,1,none⟩) from hdep 7 (by simp))
    simp only [t_,s_,z_,j_] at ho
    subst ho
    unfold Oper.wp
    go_simp
    exact ⟨_,rfl,rfl,b_ _ _⟩
   ·have h4:a.tmps[14]?.getD undef=.slice (some ⟨gt,ot,none⟩) K.n K.c:=ev_get2 (show a.eval (.tmp 14)=.slice (some ⟨gt,ot,none⟩) K.n K.c from hdep 4 (by simp))
    have h8:a.tmps[18]?.getD undef=.int .i64 (q:Int):=ev_get2 (show a.eval (.tmp 18)=.int .i64 (q:Int) from hdep 8 (by simp))
    simp only [t_,s_,z_,j_] at ho
    subst ho
    unfold Oper.wp
    go_simp
    exact ⟨_,rfl,rfl,b_ _ _⟩
   ·have h9:a.tmps[19]?.getD undef=.pointer (some ⟨gt,ot+q*4,none⟩):=ev_get2 (show a.eval (.tmp 19)=.pointer (some ⟨gt,ot+q*4,none⟩) from hdep 9 (by simp))
    simp only [t_,s_,z_,j_] at ho
    subst ho
    unfold Oper.wp
    go_simp
    exact ⟨_,rfl,rfl,b_ _ _⟩
   ·have h10:a.tmps[20]?.getD undef=.pointer (some ⟨gt,ot+q*4+3,none⟩):=ev_get2 (show a.eval (.tmp 20)=.pointer (some ⟨gt,ot+q*4+3,none⟩) from hdep 10 (by simp))
    simp only [t_,s_,z_,j_] at ho
    subst ho
    unfold Oper.wp
    go_simp
    exact ⟨_,rfl,rfl,b_ _ _⟩
   ·have h0:a.tmps[10]?.getD undef=.int .i64 (k:Int):=ev_get2 (show a.eval (.tmp 10)=.int .i64 (k:Int) from hdep 0 (by simp))
    have h11:a.tmps[21]?.getD undef=.int .i64 t.at_:=ev_get2 (show a.eval (.tmp 21)=.int .i64 t.at_ from hdep 11 (by simp))
    simp only [t_,s_,z_,j_] at ho
    subst ho
    unfold Oper.wp
    go_simp
    exact ⟨_,rfl,rfl,b_ _ _⟩
   ·simp only [t_,s_,z_,j_] at ho
    subst ho
    unfold Oper.wp
    go_simp
    exact ⟨_,rfl,⟨_,rfl,hG.out.size,CB.new W 56 [.int .i64 0,.string ⟨#[]⟩,.int .i64 0,.bool false,.int .i64 0,.int .i64 0,.string ⟨#[]⟩,.int .i64 0,.slice none 0 0,.int .i64 0,.slice none 0 0,.slice none 0 0,.int .i64 0]⟩,b7_alloc hG _,(b7_alloc (b7_refl W) _).out⟩
  ·intro o ho a vals W hG hbase hdep
   obtain ⟨⟨g,hg,hgw,hcb⟩,hv⟩:tkR W0 b gt ot q (.slice (some ⟨gt,ot,none⟩) K.n K.c) t.at_ 56 [.int .i64 0,.string ⟨#[]⟩,.int .i64 0,.bool false,.int .i64 0,.int .i64 0,.string ⟨#[]⟩,.int .i64 0,.slice none 0 0,.int .i64 0,.slice none 0 0,.slice none 0 0,.int .i64 0] (.agg #[.int .i64 (k:Int),.string ⟨#[]⟩,.int .i64 0,.bool false,.int .i64 0,.int .i64 0,.string ⟨#[]⟩,.int .i64 0,.slice none 0 0,.int .i64 0,.slice none 0 0,.slice none 0 0,.int .i64 t.at_]) (.int .i64 (k:Int)) 10 (a.eval (.tmp 5)) W∧vals 13=some (a.eval (.tmp 5)):=hdep 13 (by simp)
   rw [hg] at hv
   have hbd:a.tmps[22]?.getD undef=.agg #[.int .i64 (k:Int),.string ⟨#[]⟩,.int .i64 0,.bool false,.int .i64 0,.int .i64 0,.string ⟨#[]⟩,.int .i64 0,.slice none 0 0,.int .i64 0,.slice none 0 0,.slice none 0 0,.int .i64 t.at_]:=ev_get2 (show a.eval (.tmp 22)=.agg #[.int .i64 (k:Int),.string ⟨#[]⟩,.int .i64 0,.bool false,.int .i64 0,.int .i64 0,.string ⟨#[]⟩,.int .i64 0,.slice none 0 0,.int .i64 0,.slice none 0 0,.slice none 0 0,.int .i64 t.at_] from (hdep 12 (by simp)).1)
   replace hg:a.tmps[5]?.getD undef=_:=ev_get2 hg
   have c0:=hcb.c 0 rfl
   have f0:=hcb.fr 0
   have c1:=hcb.c 1 rfl
   have f1:=hcb.fr 1
   have c2:=hcb.c 2 rfl
   have f2:=hcb.fr 2
   have c3:=hcb.c 3 rfl
   have f3:=hcb.fr 3
   have c4:=hcb.c 4 rfl
   have f4:=hcb.fr 4
   have c5:=hcb.c 5 rfl
   have f5:=hcb.fr 5
   have c6:=hcb.c 6 rfl
   have f6:=hcb.fr 6
   have c7:=hcb.c 7 rfl
   have f7:=hcb.fr 7
   have c8:=hcb.c 8 rfl
   have f8:=hcb.fr 8
   have c9:=hcb.c 9 rfl
   have f9:=hcb.fr 9
   have c10:=hcb.c 10 rfl
   have f10:=hcb.fr 10
   have c11:=hcb.c 11 rfl
   have f11:=hcb.fr 11
   have c12:=hcb.c 12 rfl
   have f12:=hcb.fr 12
   have hres:=hcb.all [.int .i64 (k:Int),.string ⟨#[]⟩,.int .i64 0,.bool false,.int .i64 0,.int .i64 0,.string ⟨#[]⟩,.int .i64 0,.slice none 0 0,.int .i64 0,.slice none 0 0,.slice none 0 0,.int .i64 t.at_] rfl
   have hbl:=h_ (sets_below hG.out hgw 0 [.int .i64 (k:Int),.string ⟨#[]⟩,.int .i64 0,.bool false,.int .i64 0,.int .i64 0,.string ⟨#[]⟩,.int .i64 0,.slice none 0 0,.int .i64 0,.slice none 0 0,.slice none 0 0,.int .i64 t.at_])
   simp only [sets,Nat.reduceAdd] at hres hbl
   simp only [t_,s_,z_,j_] at ho
   subst ho
   unfold Oper.wp
   go_simp
   intro vals' hv'
   exact ⟨g,by rw [hv' 13 (by omega)];exact hv,hgw,hres,hbl.out⟩
  ·intro vals W hF hall
   obtain ⟨g,h13,hfin⟩:=hF
   obtain ⟨v0,h0⟩:=x_ (hall 0 (by omega))
   obtain ⟨v1,h1⟩:=x_ (hall 1 (by omega))
   obtain ⟨v2,h2⟩:=x_ (hall 2 (by omega))
   obtain ⟨v3,h3⟩:=x_ (hall 3 (by omega))
   obtain ⟨v4,h4⟩:=x_ (hall 4 (by omega))
   obtain ⟨v5,h5⟩:=x_ (hall 5 (by omega))
   obtain ⟨v6,h6⟩:=x_ (hall 6 (by omega))
   obtain ⟨v7,h7⟩:=x_ (hall 7 (by omega))
   obtain ⟨v8,h8⟩:=x_ (hall 8 (by omega))
   obtain ⟨v9,h9⟩:=x_ (hall 9 (by omega))
   obtain ⟨v10,h10⟩:=x_ (hall 10 (by omega))
   obtain ⟨v11,h11⟩:=x_ (hall 11 (by omega))
   obtain ⟨v12,h12⟩:=x_ (hall 12 (by omega))
   obtain ⟨v14,h14⟩:=x_ (hall 14 (by omega))
   simp only [puts,put1,show List.range (14+1)=[0,1,2,3,4,5,6,7,8,9,10,11,12,13,14] from rfl,List.foldl_cons,List.foldl_nil,h0,h1,h2,h3,h4,h5,h6,h7,h8,h9,h10,h11,h12,h13,h14,t_,s_,z_,Act.put,List.setIfInBounds_toArray,List.set_cons_zero,List.set_cons_succ]
   clear h0 h1 h2 h3 h4 h5 h6 h7 h8 h9 h10 h11 h12 h13 h14 hall
   go_wp2_with fail
   go_meet
   exact ⟨g,rfl,hfin⟩
 case rest =>
 obtain ⟨g4,rfl,HC3⟩:=hcut
 obtain ⟨hg4W,hc4,hb3⟩:=HC3.out
 have HA:=h_ hc4
 have HPW:=h_ (HP.out.below hb3)
 have HRW:=h_ (HR.out.below hb3)
 have HMW:Hid (Mv b w wc):=Mv.of b (HB0.out.trans (hb3.mono HB0.out.size))
 have hs0:=HB0.out.size
 have hg0W:g0<W0.heap.size:=HR.out.lt
 have hg4l:g4<wc.heap.size:=hc4.lt
 have hbg4:b<g4:=by omega
 have hg4b:g4≠b:=by omega
 have hg04:g0<g4:=by omega
 have hg4w:w.heap.size≤g4:=by omega
 obtain ⟨t',gt',ot',q',r',hA',hq2,htk',hxm',hrd',hcl'⟩:=HPW.out.cells
 have z3:=(hcl' wc (fun _ _ h=>h)).2.2.2.1
 rw [hxm'.2.2.2.2.1] at z3
 have hfit:=hxm'.2.2.2.2.2.2.2.1
 clear hcl' htk' hA' hq2 hxm' hrd' HC3 hc4 hb3 HP HR HB0 HCL
 by_cases hm:s.m=200
 ·have hm':((s.m:Int)==200)=true:=by rw [hm];rfl
  have HEQ:Hid (moveR s=stopR 2 s.ts):=by show _=_;unfold moveR;rw [if_pos hm]
  have HC:=h_ (xstop_s wc b K D _ HPW.out 2 (by decide))
  clear hm
  go_wp2_with fail
  refine HC.out.mono ?_
  rintro e w4 ⟨rfl,hp,hm⟩
  have HA4:=h_ (HA.out.mv hm hg4b)
  have HR4:=h_ (HRW.out.mv hm hg0b)
  have HM4:=h_ (HMW.out.trans hm)
  have HP4:=h_ hp
  clear hp hm HC z3
  have c0:=HA4.out.c 0 rfl
  have c1:=HA4.out.c 1 rfl
  have c2:=HA4.out.c 2 rfl
  have c3:=HA4.out.c 3 rfl
  have c4:=HA4.out.c 4 rfl
  have c5:=HA4.out.c 5 rfl
  have c6:=HA4.out.c 6 rfl
  have c7:=HA4.out.c 7 rfl
  have c8:=HA4.out.c 8 rfl
  have c9:=HA4.out.c 9 rfl
  have c10:=HA4.out.c 10 rfl
  have c11:=HA4.out.c 11 rfl
  have c12:=HA4.out.c 12 rfl
  have d0:=HR4.out.c 0 rfl
  have f0:=HR4.out.fr 0
  have d1:=HR4.out.c 1 rfl
  have f1:=HR4.out.fr 1
  have d2:=HR4.out.c 2 rfl
  have f2:=HR4.out.fr 2
  have d3:=HR4.out.c 3 rfl
  have f3:=HR4.out.fr 3
  have d4:=HR4.out.c 4 rfl
  have f4:=HR4.out.fr 4
  have d5:=HR4.out.c 5 rfl
  have f5:=HR4.out.fr 5
  have d6:=HR4.out.c 6 rfl
  have f6:=HR4.out.fr 6
  have d7:=HR4.out.c 7 rfl
  have f7:=HR4.out.fr 7
  have d8:=HR4.out.c 8 rfl
  have f8:=HR4.out.fr 8
  have d9:=HR4.out.c 9 rfl
  have f9:=HR4.out.fr 9
  have d10:=HR4.out.c 10 rfl
  have f10:=HR4.out.fr 10
  have d11:=HR4.out.c 11 rfl
  have f11:=HR4.out.fr 11
  have d12:=HR4.out.c 12 rfl
  have f12:=HR4.out.fr 12
  unfold zMove at HR4
  go_wp2_with fail
  have hres:=HR4.out.all [.int .i64 (k:Int),.string ⟨#[]⟩,.int .i64 0,.bool false,.int .i64 0,.int .i64 0,.string ⟨#[]⟩,.int .i64 0,.slice none 0 0,.int .i64 0,.slice none 0 0,.slice none 0 0,.int .i64 t.at_] rfl
  have hmf:=sets_put HM4.out hg0w 0 [.int .i64 (k:Int),.string ⟨#[]⟩,.int .i64 0,.bool false,.int .i64 0,.int .i64 0,.string ⟨#[]⟩,.int .i64 0,.slice none 0 0,.int .i64 0,.slice none 0 0,.slice none 0 0,.int .i64 t.at_]
  have hpf:=HP4.out.sets (g:=g0) (by omega) 0 [.int .i64 (k:Int),.string ⟨#[]⟩,.int .i64 0,.bool false,.int .i64 0,.int .i64 0,.string ⟨#[]⟩,.int .i64 0,.slice none 0 0,.int .i64 0,.slice none 0 0,.slice none 0 0,.int .i64 t.at_]
  simp only [sets,Nat.reduceAdd] at hres hmf hpf
  refine bodyPost_ret (resMove rfl _ rfl hres) rfl ?_
  refine ⟨⟨(k:Int),[],0,false,none,[],[],t.at_⟩,_,rfl,?_,rfl,?_,?_,hmf⟩
  ·have h1:=(Rep.exF (GV.none _ w.heap.size w.heap.size) (n_ _) (n_ _) (World.grownBy.size hmf))
   have h2:=Rep.app h1 (Ch.refl (fun _=>False) _) (fun _ _ _ h=>h) (Rep.none _ _ 120 9) (World.grownBy.size hmf)
   have h3:=Rep.app h2 (Ch.refl (fun _=>False) _) (fun _ _ _ h=>h) (Rep.none _ _ 9 1) (World.grownBy.size hmf)
   have h4:=Rep.snoc (u:=.int .i64 t.at_) h3 rfl
   have h5:=Rep.v (u:=.int .i64 (k:Int)) rfl (Rep.v (u:=txV []) rfl (Rep.v (u:=.int .i64 0) rfl (Rep.v (u:=.bool false) rfl h4)))
   simpa [dvMove,dvActs,dvStrs,EV.cells,ev0,txV] using h5
  ·rw [HEQ.out]
   exact fun y s' e=>absurd e stop_ne
  ·rw [HEQ.out,stop_void]
   exact hpf
 ·have hm':((s.m:Int)==200)=false:=beq_eq_false_iff_ne.2 (by omega)
  have HMM0:=h_ hm
  obtain ⟨r,hr,hr0,hrq,hrd,hrm⟩:=HPW.out.out
  have hk5:kindOf s.ts≠5:=word_kind (us:=[wOn,wAlways,wAfter]) (k:=1) (by show moveK s.ts≠0;rw [HK.out];exact HK0.out)
  obtain ⟨hst,hxs⟩:=hrm.step hk5 HPW.out.at_.1
  have r1:=hr.c1
  have f1:=hr.fr 1
  have f3:=hr.fr 3
  have hrq1:r.q≤100000:=by have:=HPW.out.ok.n;omega
  have hra:s.m≤200:=hfit
  obtain ⟨W5,hW5⟩:∃W,W=(wc.setCell ⟨b,3,none⟩ (.int .i64 ((s.m:Int)+1))).setCell ⟨b,1,none⟩ (.int .i64 ((r.q:Int)+1)):=⟨_,rfl⟩
  have hm5:Mv b wc W5:=by rw [hW5];exact ((Mv.refl b wc).set 3 _).set 1 _
  have hr5:RvB W5 b { r with q:=r.q+1,M:=(s.m:Int)+1 }:=by
   rw [hW5]
   have:=(hr.setM ((s.m:Int)+1)).setq (r.q+1)
   rw [Int.natCast_add] at this
   exact this
  obtain ⟨m2,hm2⟩:∃m2:Rs Unit,(.ok () ⟨s.ts.tail,s.n,s.m+1,s.a⟩:Rs Unit)=m2:=⟨_,rfl⟩
  have HP5:XS W5 b K D m2:=by
   rw [←hm2]
   exact HPW.out.turn hm5 hr5 hr0 hst hrd ⟨hxs.1,hxs.2.1,hxs.2.2.1,hxs.2.2.2.1,by show (s.m:Int)+1=((s.m+1:Nat):Int);omega,hxs.2.2.2.2.2.1,⟨hrm.2.2.2.2.2.2.1,by show s.m+1≤200;omega,hrm.2.2.2.2.2.2.2.2⟩⟩
  have HI0:Hid (XMI w b g0 g4 K D m2 ⟨k,[],0,false,none,[],[],t.at_⟩ ev0 (.slice none 0 0) (.slice none 0 0) W5):=⟨HP5,HA.out.mv hm5 hg4b,HRW.out.mv hm5 hg0b,HMW.out.trans hm5⟩
  have HAT:Hid (atOf s.ts=t.at_):=by
   show _=_
   obtain ⟨l,hl⟩:=HT.out.2 s rfl
   rw [hl]
   rfl
  have HEQ0:Hid (moveR s=(m2.go (evR k)).bind fun e s1=>(waitR k s1).bind fun w s2=>(guardR s2).bind fun g s3=>(actsR s3).bind fun l s4=>(tgtR s4).bind fun q s5=>(mustR 4 [59] s5).bind fun _ s6=>.ok ⟨k,e,w,g.isSome,g,l,q,t.at_⟩ s6):=by
   show _=_
   unfold moveR
   rw [if_neg HMM0.out,HK.out,HAT.out,←hm2]
   rfl
  have HW5:=h_ hW5
  clear hr hr0 hrq hrd hrm hk5 hst hxs hm5 hr5 hm hfit hW5 HP5 hm2
  go_upto_region 7 with fail
  rw [←HW5.out]
  clear HW5 z3 r1 f1 f3 hm' hrq1 hra HA HRW HMW HPW hg4l
  obtain ⟨d1,hd1⟩:∃d1,((k:Int)==1)=d1:=⟨_,rfl⟩
  have HD1:=h_ hd1
  go_upto_if 46 with fail
  go_cut [] from 47 to 52 (fun wr=>∃(ev:List UInt8),Hid (XMI w b g0 g4 K D (m2.go (evR k)).void ⟨k,ev,0,false,none,[],[],t.at_⟩ ev0 (.slice none 0 0) (.slice none 0 0) wr)∧Hid ((m2.go (evR k)).is ev))
  case first =>
   cases d1 with
   |false =>
    have hk1:k≠1:=fun e=>by have:=HD1.out;rw [e] at this;cases this
    have HG:=h_ (evR_is m2 k hk1)
    clear hk1
    go_wp2_with fail
    go_meet
    refine ⟨[],?_,?_⟩
    ·rw [HG.out,go_ok_void]
     exact HI0
    ·show (m2.go (evR k)).is []
     rw [HG.out]
     exact go_ok_is _ _
   |true =>
    have hk1:k=1:=by have:=eq_of_beq HD1.out;omega
    have HG:Hid (m2.go (evR k)=(m2.go nameR).bind fun x s=>.ok x.1 s):=by
     show _=_
     rw [←go_bind,hk1]
     congr 1
    have HC:=h_ (xname_s W5 b K D _ HI0.out.xs)
    clear hk1
    go_wp2_with fail
    refine HC.out.mono ?_
    rintro e w6 ⟨nx,NX,np,hnx,rfl,his,hp,hm⟩
    have HC6:=h_ (HI0.out.c4.mv hm hg4b)
    have hc6:=HC6.out
    unfold mvC at hc6
    have HC7:=h_ hc6
    have c1:=HC7.out.c 1 rfl
    have f1:=HC7.out.fr 1
    have HNX:=h_ hnx
    have HIS:=h_ his
    have HPP:=h_ hp
    have HMM:=h_ hm
    clear hc6 hnx his hp hm HC
    go_wp2_with fail
    go_meet
    refine ⟨nx,⟨?_,?_,?_,?_⟩,?_⟩
    ·rw [HG.out,bind_void (m2.go nameR) (fun x:List UInt8×Int=>x.1)]
     exact HPP.out.sets (g:=g4) hbg4 1 [.string NX]
    ·have:=CB.many [.string NX] 1 HC7.out (by simp)
     unfold mvC
     dsimp only
     rw [HNX.out]
     exact this
    ·exact (HI0.out.c0.mv HMM.out hg0b).mv (sets_mv w6 g4 1 [.string NX]) (by omega)
    ·exact sets_put (HI0.out.mv.trans HMM.out) hg4w 1 [.string NX]
    ·show (m2.go (evR k)).is nx
     rw [HG.out]
     exact bind_is HIS.out (fun x:List UInt8×Int=>x.1)
  case rest =>
  obtain ⟨ev,HI1,HIS1⟩:=hcut
  obtain ⟨m3,hm3⟩:∃m3,(m2.go (evR k)).void=m3:=⟨_,rfl⟩
  rw [hm3] at HI1
  have HM3:=h_ hm3
  obtain ⟨W6,hW6⟩:∃W,wc=W:=⟨_,rfl⟩
  subst hW6
  obtain ⟨d2,hd2⟩:∃d2,((k:Int)==3)=d2:=⟨_,rfl⟩
  have HD2:=h_ hd2
  clear hm3 HI0 HD1 hd1
  go_upto_if 54 with fail
  obtain ⟨W6,hW6⟩:∃W,W=wc:=⟨_,rfl⟩
  rw [←hW6]
  rw [←hW6] at HI1
  clear hW6
  go_cut [] from 55 to 57 (fun wr=>∃(wt:Int),Hid (XMI w b g0 g4 K D (m3.go (waitR k)).void ⟨k,ev,wt,false,none,[],[],t.at_⟩ ev0 (.slice none 0 0) (.slice none 0 0) wr)∧Hid ((m3.go (waitR k)).is wt))
  case first =>
   cases d2 with
   |false =>
    have hk1:k≠3:=fun e=>by have:=HD2.out;rw [e] at this;cases this
    have HG:=h_ (waitR_is m3 k hk1)
    clear hk1
    go_wp2_with fail
    go_meet
    refine ⟨0,?_,?_⟩
    ·rw [HG.out,go_ok_void]
     exact HI1
    ·show (m3.go (waitR k)).is 0
     rw [HG.out]
     exact go_ok_is _ _
   |true =>
    have hk1:k=3:=by have:=eq_of_beq HD2.out;omega
    have HG:Hid (m3.go (waitR k)=m3.go numR):=by
     show _=_
     rw [hk1]
     rfl
    have HC:=h_ (xint_s W6 b K D _ HI1.out.xs)
    clear hk1
    go_wp2_with fail
    refine HC.out.mono ?_
    rintro e w7 ⟨z,_,_,rfl,his,hp,hm⟩
    have HC6:=h_ (HI1.out.c4.mv hm hg4b)
    have hc6:=HC6.out
    unfold mvC at hc6
    have HC7:=h_ hc6
    have c2:=HC7.out.c 2 rfl
    have f2:=HC7.out.fr 2
    have HIS:=h_ his
    have HPP:=h_ hp
    have HMM:=h_ hm
    clear hc6 his hp hm HC
    go_wp2_with fail
    go_meet
    refine ⟨z,⟨?_,?_,?_,?_⟩,?_⟩
    ·rw [HG.out]
     exact HPP.out.sets (g:=g4) hbg4 2 [.int .i64 z]
    ·exact CB.many [.int .i64 z] 2 HC6.out (by simp [mvC])
    ·exact (HI1.out.c0.mv HMM.out hg0b).mv (sets_mv w7 g4 2 [.int .i64 z]) (by omega)
    ·exact sets_put (HI1.out.mv.trans HMM.out) hg4w 2 [.int .i64 z]
    ·show (m3.go (waitR k)).is z
     rw [HG.out]
     exact HIS.out
  case rest =>
  obtain ⟨wt,HIA,HIS⟩:=hcut
  obtain ⟨mA,hmA⟩:∃mA,(m3.go (waitR k)).void=mA:=⟨_,rfl⟩
  rw [hmA] at HIA
  have HMA:=h_ hmA
  have hszA:w.heap.size≤wc.heap.size:=World.grownBy.size HIA.out.mv
  have HCN:=h_ (xpass_s wc b K D mA HIA.out.xs 4 ⟨#[91]⟩ (by decide))
  clear hmA HI1 HD2 hd2
  go_upto_region 11 with fail
  go_wp2_with fail
  refine HCN.out.mono ?_
  rintro e w5 ⟨rfl,hp,hm⟩
  obtain ⟨d,hd⟩:∃d,(mA.tell fun s=>isAt 4 [91] s.ts)=d:=⟨_,rfl⟩
  replace hd:(mA.tell fun s=>isAt 4 (⟨#[91]⟩:ByteArray).data.toList s.ts)=d:=hd
  rw [hd]
  have HD:=h_ (show (mA.tell fun s=>isAt 4 [91] s.ts)=d from hd)
  replace hp:XS w5 b K D (mA.go (skipR 4 [91])):=hp
  have hm5:=sets_mv w5 g4 3 [.bool d]
  have HI5:Hid (XMI w b g0 g4 K D (mA.go (skipR 4 [91])) ⟨k,ev,wt,d,none,[],[],t.at_⟩ ev0 (.slice none 0 0) (.slice none 0 0) (sets w5 g4 3 [.bool d])):=⟨hp.sets hbg4 _ _,CB.many [.bool d] 3 (HIA.out.c4.mv hm (by omega)) (by simp [mvC]),(HIA.out.c0.mv hm hg0b).mv hm5 (by omega),sets_put (HIA.out.mv.trans hm) hg4w _ _⟩
  have HC4:=h_ (HIA.out.c4.mv hm (by omega))
  have c3:=HC4.out.c 3 rfl
  have f3:=HC4.out.fr 3
  simp only [sets] at HI5
  clear hd hp hm hm5 HCN HC4
  obtain ⟨W5,hW5⟩:∃W5,W5=w5.setCell ⟨g4,3,none⟩ (.bool d):=⟨_,rfl⟩
  rw [←hW5] at HI5
  have HW5:=h_ hW5
  clear hW5
  go_upto_region 12 with fail
  rw [←HW5.out]
  clear HW5 c3 f3
  have c3:=HI5.out.c4.c 3 rfl
  have hszW5:w.heap.size≤W5.heap.size:=World.grownBy.size HI5.out.mv
  have hg4W5:=HI5.out.c4.lt
  simp only at c3
  go_upto_if 62 with fail
  go_cut [] from 63 to 67 (fun wr=>∃(y:Option Ex) (v:EV) (B:Nat),Hid (XMI w b g0 g4 K D (mA.go guardR).void ⟨k,ev,wt,d,y,[],[],t.at_⟩ v (.slice none 0 0) (.slice none 0 0) wr)∧Hid ((mA.go guardR).is y)∧Hid (∀z s',mA.go guardR=.ok z s'→d=z.isSome)∧Hid (Rep wr B (dvEx false y) v.cells)∧g4<B∧B≤wr.heap.size)
  case first =>
   cases d with
   |false =>
    have HG:Hid (mA.go guardR=mA.go fun s=>.ok none s):=by
     show _=_
     cases mA with
     |out=>rfl
     |bad c p=>rfl
     |ok x s' =>
      have hd:isAt 4 [91] s'.ts=false:=HD.out
      show guardR s'=_
      unfold guardR
      rw [if_neg (by rw [hd];decide)]
      rfl
    have HSK:Hid (mA.go (skipR 4 [91])=mA):=by
     show _=_
     cases mA with
     |out=>rfl
     |bad c p=>rfl
     |ok x s' =>
      have hd:isAt 4 [91] s'.ts=false:=HD.out
      show skipR 4 [91] s'=_
      unfold skipR
      rw [if_neg (by rw [hd];decide)]
    clear c3
    go_wp2_with fail
    go_meet
    refine ⟨none,ev0,W5.heap.size,?_,?_,?_,Rep.exF (GV.none _ W5.heap.size W5.heap.size) (n_ _) (n_ _) (n_ _),hg4W5,n_ _⟩
    ·rw [HG.out,go_ok_void]
     have:=HI5.out
     rw [HSK.out] at this
     exact this
    ·show (mA.go guardR).is none
     rw [HG.out]
     exact go_ok_is _ _
    ·show ∀z s',mA.go guardR=.ok z s'→false=z.isSome
     intro z s' e
     have:=(show (mA.go guardR).is none by rw [HG.out];exact go_ok_is _ _) z s' e
     rw [this]
     rfl
   |true =>
    obtain ⟨sA,hsA,hat⟩:=Rs.tell_true HD.out
    have HG:Hid (mA.go guardR=(exprR sA.drop).bind fun x s=>(mustR 4 [93] s).bind fun _ s=>.ok (some x) s):=by
     show _=_
     rw [hsA]
     show guardR sA=_
     unfold guardR
     rw [if_pos hat]
    have HSK:Hid (mA.go (skipR 4 [91])=.ok () sA.drop):=by
     show _=_
     rw [hsA]
     show skipR 4 [91] sA=_
     unfold skipR
     rw [if_pos hat]
    have hps:=HI5.out.xs
    rw [HSK.out] at hps
    have HCN:=h_ (xexpr_s W5 b K D _ hps)
    clear hsA hat hps c3
    go_wp2_with fail
    refine HCN.out.mono ?_
    rintro e w6 ⟨y,v,rfl,hrp,hy,hp,hm⟩
    have hvv:v.val=.agg #[.int .i64 v.kind,.int .i64 v.num,.string v.name,.int .i64 v.op,.slice v.A v.len v.cap,.int .i64 v.p]:=rfl
    rw [hvv]
    have hs6:=World.grownBy.size hm
    have HC6:=h_ (HI5.out.c4.mv hm (by omega))
    have hm6:=sets_mv w6 g4 4 v.cells
    obtain ⟨W6,hW6⟩:∃W6,W6=sets w6 g4 4 v.cells:=⟨_,rfl⟩
    obtain ⟨m6,hm6e⟩:∃m6,(exprR sA.drop).void=m6:=⟨_,rfl⟩
    replace hp:XS w6 b K D m6:=by rw [←hm6e];exact hp
    have HI6:Hid (XMI w b g0 g4 K D m6 ⟨k,ev,wt,true,y,[],[],t.at_⟩ v (.slice none 0 0) (.slice none 0 0) W6):=by
     rw [hW6]
     exact ⟨hp.sets hbg4 _ _,CB.many v.cells 4 HC6.out (by simp [mvC,EV.cells]),(HI5.out.c0.mv hm hg0b).mv hm6 (by omega),sets_put (HI5.out.mv.trans hm) hg4w _ _⟩
    have HRP:Hid (Rep W6 W5.heap.size (dvEx false y) v.cells):=by rw [hW6];exact hrp.mv hm6 (by omega)
    have hsz6:W6.heap.size=w6.heap.size:=by rw [hW6,sets_size]
    have HY:Hid (∀x s,exprR sA.drop=.ok x s→y=some x):=hy
    have HM6:=h_ hm6e
    have hc6:=HC6.out
    unfold mvC at hc6
    have HC7:=h_ hc6
    have c4:=HC7.out.c 4 rfl
    have f4:=HC7.out.fr 4
    have c5:=HC7.out.c 5 rfl
    have f5:=HC7.out.fr 5
    have c6:=HC7.out.c 6 rfl
    have f6:=HC7.out.fr 6
    have c7:=HC7.out.c 7 rfl
    have f7:=HC7.out.fr 7
    have c8:=HC7.out.c 8 rfl
    have f8:=HC7.out.fr 8
    have c9:=HC7.out.c 9 rfl
    have f9:=HC7.out.fr 9
    unfold EV.cells at hW6
    simp only [sets,Nat.reduceAdd] at hW6
    have HWW:=h_ hW6
    have HC8:=h_ (xmust_s W6 b K D m6 HI6.out.xs 4 ⟨#[93]⟩ (by decide))
    clear hrp hy hp hm hvv hm6 hW6 hm6e HCN hc6 HC6
    go_upto_region 14 with fail
    rw [←HWW.out]
    clear HWW HC7 c4 c5 c6 c7 c8 c9 f4 f5 f6 f7 f8 f9
    go_wp2_with fail
    refine HC8.out.mono ?_
    rintro e w7 ⟨rfl,hp,hm⟩
    have HPP:=h_ hp
    have HMM:=h_ hm
    have hs7:=World.grownBy.size hm
    clear hp hm HC8
    go_wp2_with fail
    go_meet
    have hgo:mA.go guardR=(m6.go (mustR 4 [93])).go fun s=>.ok y s:=by
     have e2:((exprR sA.drop).bind fun x s=>(.ok (some x) s:Rs (Option Ex))).is y:=fun z s0 e=>by
      obtain ⟨x,s1,h1,h2⟩:=Rs.some e
      rw [HY.out x s1 h1]
      exact (Rs.ok.inj h2).1.symm
     have e3:((exprR sA.drop).bind fun x s=>(mustR 4 [93] s).bind fun _ s=>(.ok (some x) s:Rs (Option Ex)))=((exprR sA.drop).bind fun x s=>(.ok (some x) s:Rs (Option Ex))).bind fun z s=>(mustR 4 [93] s).bind fun _ s=>.ok z s:=by
      cases exprR sA.drop <;> rfl
     rw [HG.out,e3,Rs.seq e2,bind_void,HM6.out]
     exact (must_fin _ _).symm
    refine ⟨y,v,W5.heap.size,⟨?_,?_,?_,?_⟩,?_,?_,HRP.out.mv HMM.out (by omega),hg4W5,by omega⟩
    ·rw [hgo,go_ok_void]
     exact HPP.out
    ·exact HI6.out.c4.mv HMM.out (by omega)
    ·exact HI6.out.c0.mv HMM.out hg0b
    ·exact HI6.out.mv.trans HMM.out
    ·show (mA.go guardR).is y
     rw [hgo]
     exact go_ok_is _ _
    ·show ∀z s',mA.go guardR=.ok z s'→true=z.isSome
     intro z s' e
     rw [HG.out] at e
     obtain ⟨x,s1,h1,h2⟩:=Rs.some e
     obtain ⟨u,s2,h3,h4⟩:=Rs.some h2
     rw [←(Rs.ok.inj h4).1]
     rfl
  case rest =>
  obtain ⟨y,v,B,HIG,HGI,HGS,HRG,hg4B,hBw⟩:=hcut
  obtain ⟨mG,hmG⟩:∃mG,(mA.go guardR).void=mG:=⟨_,rfl⟩
  rw [hmG] at HIG
  have HMG:=h_ hmG
  have hszG:w.heap.size≤wc.heap.size:=World.grownBy.size HIG.out.mv
  have HBG:=h_ (xis_s wc b K D mG HIG.out.xs 4 ⟨#[123]⟩)
  obtain ⟨d2,hd2⟩:∃d,(mG.tell fun s=>isAt 4 [123] s.ts)=d:=⟨_,rfl⟩
  replace HBG:Hid (Calls Tryz.prog 43 #[.pointer (some ⟨b,0,none⟩),.int .i64 4,.string ⟨#[123]⟩] wc fun e w'=>e=.returned (.bool d2)∧Below wc.heap.size wc w'):=by rw [←hd2];exact HBG
  have HD2:=h_ hd2
  clear hmG hd2 HI5
  go_upto_region 15 with fail
  go_wp2_with fail
  refine HBG.out.mono ?_
  rintro e w5 ⟨rfl,hb5⟩
  have HI5:=h_ (HIG.out.below hb5)
  have HR5:=h_ (HRG.out.below hb5)
  have hsz5:=hb5.size
  have hg4w5:=HI5.out.c4.lt
  clear hb5 HBG HIG HRG
  go_upto_if 70 with fail
  go_cut [] from 71 to 73 (fun wr=>∃(la:List SyAct) (va:Value),Hid (XMI w b g0 g4 K D (mG.go actsR).void ⟨k,ev,wt,d,y,la,[],t.at_⟩ v va (.slice none 0 0) wr)∧Hid ((mG.go actsR).is la)∧Hid (Rep wr B (dvEx false y++[dvActs false la]) (v.cells++[va]))∧B≤wr.heap.size)
  case first =>
   cases d2 with
   |false =>
    have HG:Hid (mG.go actsR=mG.go fun s=>.ok [] s):=by
     show _=_
     cases mG with
     |out=>rfl
     |bad c p=>rfl
     |ok x s' =>
      have hd:isAt 4 [123] s'.ts=false:=HD2.out
      show actsR s'=_
      unfold actsR
      rw [if_neg (by rw [hd];decide)]
      rfl
    go_wp2_with fail
    go_meet
    refine ⟨[],.slice none 0 0,?_,?_,Rep.app HR5.out (Ch.refl (fun _=>False) w5) (fun _ _ _ h=>h) (Rep.none w5 _ _ _) (by omega),by omega⟩
    ·rw [HG.out,go_ok_void]
     exact HI5.out
    ·show (mG.go actsR).is []
     rw [HG.out]
     exact go_ok_is _ _
   |true =>
    obtain ⟨sA,hsA,hat⟩:=Rs.tell_true HD2.out
    have HG:Hid (mG.go actsR=blockR sA):=by
     show _=_
     rw [hsA]
     show actsR sA=_
     unfold actsR
     rw [if_pos hat]
    have hps:=HI5.out.xs
    rw [hsA] at hps
    have HCN:=h_ (xblock_s w5 b K D _ hps)
    clear hsA hat hps
    go_wp2_with fail
    refine HCN.out.mono ?_
    rintro e w6 ⟨la,va,rfl,his,hrp,hp,hm⟩
    obtain ⟨Av,nv,cv,rfl⟩:=hrp.slice
    have hs6:=World.grownBy.size hm
    have HC6:=h_ (HI5.out.c4.mv hm (by omega))
    have HMM:=h_ hm
    have HPP:=h_ hp
    have HII:=h_ his
    have HRR:=h_ (HR5.out.app (Ch.of_mv hm) (fun g hg _ e=>by have e':g=b:=e;omega) hrp (by omega))
    have c10:=HC6.out.c 10 rfl
    have f10:=HC6.out.fr 10
    clear his hrp hp hm HCN
    go_wp2_with fail
    go_meet
    have hm7:=sets_mv w6 g4 10 [.slice Av nv cv]
    refine ⟨la,.slice Av nv cv,⟨?_,?_,?_,?_⟩,?_,HRR.out.mv hm7 (by omega),by simpa using (show B≤w6.heap.size by omega)⟩
    ·rw [HG.out]
     exact HPP.out.sets (g:=g4) hbg4 10 [.slice Av nv cv]
    ·exact CB.many [.slice Av nv cv] 10 HC6.out (by simp [mvC])
    ·exact (HI5.out.c0.mv HMM.out hg0b).mv hm7 (by omega)
    ·exact sets_put (HI5.out.mv.trans HMM.out) hg4w 10 [.slice Av nv cv]
    ·show (mG.go actsR).is la
     rw [HG.out]
     exact HII.out
  case rest =>
  clear HI5 HR5 hg4w5 hsz5
  obtain ⟨la,va,HIL,HLI,HRL,hBw2⟩:=hcut
  obtain ⟨mL,hmL⟩:∃mL,(mG.go actsR).void=mL:=⟨_,rfl⟩
  rw [hmL] at HIL
  have HML:=h_ hmL
  have hszL:w.heap.size≤wc.heap.size:=World.grownBy.size HIL.out.mv
  obtain ⟨MT,hMT⟩:∃MT,mL.go tgtR=MT:=⟨_,rfl⟩
  have HMT0:=h_ hMT
  have HC:=h_ (xpass_s wc b K D mL HIL.out.xs 4 ⟨#[45,62]⟩ (by decide))
  obtain ⟨wL,hwL⟩:∃W,W=wc:=⟨_,rfl⟩
  have HWL:Hid (wL=wc):=hwL
  have hg4L:g4<wL.heap.size:=by rw [hwL];exact HIL.out.c4.lt
  clear hmL hMT hwL
  go_wp2_with fail
  refine HC.out.mono ?_
  rintro e w5 ⟨rfl,hp,hm⟩
  have HIV:Hid (XtIv w wL b g0 g4 K D MT k ev wt d y la t.at_ v va w5 (mL.tell fun s=>isAt 4 (⟨#[45,62]⟩:ByteArray).data.toList s.ts) [] (.slice none 0 0) (mL.go (skipR 4 [45,62]))):=by
   have hwl:=HWL.out
   refine ⟨⟨hp,HIL.out.c4.mv hm hg4b,HIL.out.c0.mv hm hg0b,HIL.out.mv.trans hm⟩,?_,Rep.none w5 _ _ _,?_,fun hd=>?_,Nat.zero_le _⟩
   ·rw [←HMT0.out]
    exact tgt_first mL
   ·rw [hwl]
    exact (Ch.of_mv hm).mono (fun _ _ h=>.inl h)
   ·obtain ⟨s1,rfl,hs1⟩:=Rs.tell_true hd
    refine ⟨s1.drop,?_,?_⟩
    ·show skipR 4 [45,62] s1=_
     unfold skipR
     rw [if_pos hs1]
    ·have:=HIL.out.xs.len
     have:=drop_le s1
     simp only [List.length_nil]
     omega
  have HRLL:Hid (Rep wL B (dvEx false y++[dvActs false la]) (v.cells++[va])):=by rw [HWL.out];exact HRL.out
  have hBL:B≤wL.heap.size:=by rw [HWL.out];exact hBw2
  clear hp hm HC HIL HRL HWL hszL hBw2
  go_wp2_with fail
  go_loopw [7] (fun s7 wr=>∃more lt vt m5,s7=.bool more∧Hid (XtIv w wL b g0 g4 K D MT k ev wt d y la t.at_ v va wr more lt vt m5)) (fun _ wr=>xleft wr b K.n)
  case atStart=>exact ⟨_,_,_,_,rfl,HIV⟩
  case round =>
   obtain ⟨more,lt,vt,m5,rfl,HI⟩:=hrel
   clear HIV
   cases more with
   |true =>
    obtain ⟨s5,hs5,hln⟩:=HI.out.ok rfl
    subst hs5
    have HLN:=h_ hln
    have HLE:Hid (xleft wr b K.n=(Rs.ok () s5:Rs Unit).leftX):=HI.out.mi.xs.left
    have HC:=h_ (xname_s wr b K D _ HI.out.mi.xs)
    clear hln
    go_wp2_with fail
    refine HC.out.mono ?_
    rintro e w6 ⟨nx,NX,np,hnx,rfl,his,hp,hm⟩
    obtain ⟨Av,nv,cv,rfl⟩:=HI.out.rep.slice
    have HC6:=h_ (HI.out.mi.c4.mv hm hg4b)
    have hc6:=HC6.out
    unfold mvC at hc6
    have HC7:=h_ hc6
    have c11:=HC7.out.c 11 rfl
    have hsL:=HI.out.ch.size
    have hs6:=World.grownBy.size hm
    have hch6:Ch (fun j=>j=b∨j=g4∨wL.heap.size≤j) wL w6:=HI.out.ch.trans ((Ch.of_mv hm).mono (fun _ _ h=>.inl h))
    have hbL:b<wL.heap.size:=by omega
    obtain ⟨F,hd6,hn6,hlo6⟩:=HI.out.rep.mv hm hbL
    unfold DvsAt at hd6
    obtain ⟨x6,ys6,F1,F2,e6,rfl,hd7,hd8⟩:=hd6
    unfold DvsAt at hd8
    obtain ⟨rfl,rfl⟩:=hd8
    rw [List.append_nil] at hn6 hlo6
    obtain rfl:x6=.slice Av nv cv:=by injection e6 with e6 _;exact e6.symm
    have hlt:lt.length≤1000000:=by have:=HI.out.len;have:=HI.out.mi.xs.ok.n;omega
    unfold dvStrs at hd7
    have hone:=strs_one w6 nx
    rw [hnx] at hone
    obtain ⟨v',w',F',hr,a1,a2,a3,a4⟩:=app_dv w6 (t:=46) (ty:=46) Tryz.underlying46 infoStr7 rfl (by decide) (by decide) hd7 hn6 (ds:=[.v (.string NX)]) (ys:=[.string NX]) hone rfl List.nodup_nil (fun _ _ h=>by cases h) hlt
    obtain ⟨Av',cv',hv',_,_⟩:=a1.slice
    subst hv'
    have hF1:∀g∈F1,wL.heap.size≤g:=hlo6
    have hb6:¬b∈F1:=fun h=>by have:=hF1 b h;omega
    have hg46:¬g4∈F1:=fun h=>by have:=hF1 g4 h;omega
    have hg06:¬g0∈F1:=fun h=>by have:=hF1 g0 h;omega
    have HC8:=h_ (HC7.out.ch a4 hg46)
    have c11':=HC8.out.c 11 rfl
    have f11':=HC8.out.fr 11
    obtain ⟨W8,hW8⟩:∃W,W=w'.setCell ⟨g4,11,none⟩ (.slice Av' (lt.length+1) cv'):=⟨_,rfl⟩
    have hm8:=sets_mv w' g4 11 [.slice Av' (lt.length+1) cv']
    obtain ⟨m6,hm6⟩:∃m6,((Rs.ok () s5:Rs Unit).go nameR).void=m6:=⟨_,rfl⟩
    rw [hm6] at hp
    have hpx:XS w' b K D m6:=hp.ch a4 (fun j hj=>by have:=hF1 j hj;omega)
    have HI8:Hid (XMI w b g0 g4 K D m6 ⟨k,ev,wt,d,y,la,lt++[nx],t.at_⟩ v va (.slice Av' (lt.length+1) cv') W8):=by
     rw [hW8]
     refine ⟨hpx.sets hbg4 11 [.slice Av' (lt.length+1) cv'],?_,((HI.out.mi.c0.mv hm hg0b).ch a4 hg06).mv hm8 (by omega),?_⟩
     ·have:=HC8.out.set 11 (.slice Av' (lt.length+1) cv')
      exact this
     ·exact sets_put (b:=b) (((Ch.of_mv (HI.out.mi.mv.trans hm)).trans2 a4 (S:=fun k=>k=b) (fun j hj hs=>by have:=hF1 j hs;omega)).mv (fun _ _ h=>h)) hg4w 11 [.slice Av' (lt.length+1) cv']
    have HRP8:Hid (Rep W8 wL.heap.size [dvStrs (lt++[nx])] [.slice Av' (lt.length+1) cv']):=by
     refine ⟨F'++[],DvsAt.cons ?_ (DvsAt.nil _),by simpa using a2,fun g hg=>?_⟩
     ·rw [hW8]
      unfold dvStrs
      rw [strs_snoc,List.length_append,List.length_singleton,hnx]
      refine (a1.ch (Ch.of_mv hm8) (fun g hg e=>?_))
      have e':g=g4:=e
      rcases a3 g hg with h|h|h
      ·exact hg46 (e' ▸ h)
      ·cases h
      ·omega
     ·rw [List.append_nil] at hg
      rcases a3 g hg with h|h|h
      ·exact hF1 g h
      ·cases h
      ·omega
    have HCH8:Hid (Ch (fun j=>j=b∨j=g4∨wL.heap.size≤j) wL W8):=by
     rw [hW8]
     exact (hch6.trans2 a4 (fun j hj hs=>by have:=hF1 j hs;omega)).set (.inl (.inr (.inl rfl))) 11 _
    have HNM:=h_ (tgt_next (lt:=lt) his)
    have HM6:=h_ hm6
    have HWW:=h_ hW8
    have HRN:=h_ hr
    clear hnx his hp hm hc6 hch6 hd7 hn6 hlo6 hlt hone hr a1 a2 a3 a4 hF1 hb6 hg46 hg06 hm8 hm6 hpx hW8 HC hsL hs6 e6
    go_wp2_with (at_builtin;refine Lib.wpList_append_run _ rfl _ _ _ _ rfl _ _ rfl rfl _ _ HRN.out ?_)
    go_upto_region 22 with fail
    rw [←HWW.out]
    clear HWW HRN c11 c11' f11' HC6 HC7 HC8
    have HC:=h_ (xpass_s W8 b K D m6 HI8.out.xs 4 ⟨#[44]⟩ (by decide))
    go_wp2_with fail
    refine HC.out.mono ?_
    rintro e w9 ⟨rfl,hp,hm⟩
    have HP9:=h_ hp
    have HM9:=h_ hm
    clear hp hm HC
    go_wp2_with fail
    have HX:Hid (XtIv w wL b g0 g4 K D MT k ev wt d y la t.at_ v va w9 (m6.tell fun s=>isAt 4 (⟨#[44]⟩:ByteArray).data.toList s.ts) (lt++[nx]) (.slice Av' (lt.length+1) cv') (m6.go (skipR 4 [44]))):=by
     have hln:=HLN.out
     have hlen6:∀s',m6=.ok () s'→s'.ts.length+1≤s5.ts.length:=fun s' e=>by
      have e1:=HM6.out
      rw [e] at e1
      have h1:(nameR s5).void=.ok () s':=e1
      cases hn:nameR s5 with
      |out=>rw [hn] at h1;cases h1
      |bad c p=>rw [hn] at h1;cases h1
      |ok z s1 =>
       rw [hn] at h1
       have:=(Rs.ok.inj h1).2
       subst this
       exact nameR_takes s5 _ _ hn
     refine ⟨⟨HP9.out,HI8.out.c4.mv HM9.out hg4b,HI8.out.c0.mv HM9.out hg0b,HI8.out.mv.trans HM9.out⟩,?_,HRP8.out.mv HM9.out (by omega),HCH8.out.trans ((Ch.of_mv HM9.out).mono (fun _ _ h=>.inl h)),fun hd=>?_,?_⟩
     ·rw [HI.out.eq,HNM.out,HM6.out]
     ·obtain ⟨s1,e1,hs1⟩:=Rs.tell_true hd
      refine ⟨s1.drop,?_,?_⟩
      ·rw [e1]
       show skipR 4 [44] s1=_
       unfold skipR
       rw [if_pos hs1]
      ·have:=hlen6 s1 e1
       have:=drop_le s1
       rw [List.length_append,List.length_singleton]
       omega
     ·have h1:=HI.out.mi.xs.len
      rw [List.length_append,List.length_singleton]
      obtain ⟨t1,l1,hs1,_⟩:=HI.out.mi.xs.head rfl
      have:1≤s5.ts.length:=by rw [hs1];simp
      omega
    have HLX:Hid (xleft w9 b K.n<xleft wr b K.n):=by
     show _<_
     rw [HLE.out,HX.out.mi.xs.left]
     refine Nat.lt_of_le_of_lt (skip_left m6 4 [44]) ?_
     rw [←HM6.out]
     exact left_less (nameR_takes s5)
    go_roundw
    case rel=>exact ⟨_,_,_,_,rfl,HX⟩
    case measure=>exact HLX.out
   |false =>
    have HIT:=h_ HI.out.mi
    have HTI:Hid (MT.is lt∧MT.void=m5):=by
     have e:=HI.out.eq
     unfold tgtD at e
     rw [if_neg (by decide)] at e
     rw [e]
     exact ⟨go_ok_is _ _,go_ok_void _ _⟩
    have HRT:Hid (Rep wr B ((dvEx false y++[dvActs false la])++[dvStrs lt]) ((v.cells++[va])++[vt])):=Rep.app HRLL.out HI.out.ch (fun g h1 h2 h3=>by rcases h3 with h3|h3|h3 <;> omega) HI.out.rep hBL
    have hsr:wL.heap.size≤wr.heap.size:=HI.out.ch.size
    obtain ⟨mT,hmT⟩:∃mT,m5=mT:=⟨_,rfl⟩
    subst hmT
    have HCN:=h_ (xmust_s wr b K D m5 HIT.out.xs 4 ⟨#[59]⟩ (by decide))
    clear HI HRLL
    go_wp2_with fail
    refine HCN.out.mono ?_
    rintro e w7 ⟨rfl,hp,hm⟩
    have HI7:Hid (XMI w b g0 g4 K D (m5.go (mustR 4 [59])) ⟨k,ev,wt,d,y,la,lt,t.at_⟩ v va vt w7):=⟨hp,HIT.out.c4.mv hm (by omega),HIT.out.c0.mv hm hg0b,HIT.out.mv.trans hm⟩
    have HR7:=h_ (HRT.out.mv hm (by omega))
    have hs7:=World.grownBy.size hm
    obtain ⟨Y,hY⟩:∃Y,txV ev=.string Y:=⟨_,rfl⟩
    have HY:=h_ hY
    obtain ⟨Aa,na,ca,rfl⟩:∃A n c,va=.slice A n c:=HR7.out.slice2F rfl
    obtain ⟨At,nt,ct,rfl⟩:∃A n c,vt=.slice A n c:=HR7.out.slice3F rfl
    have hc7:=HI7.out.c4
    unfold mvC at hc7
    simp only at hc7
    rw [hY] at hc7
    have HC7:=h_ hc7
    have hz7:=HI7.out.c0
    unfold zMove at hz7
    have HZ7:=h_ hz7
    have HEQ:Hid (moveR s=(m5.go (mustR 4 [59])).go fun s3=>.ok ⟨k,ev,wt,y.isSome,y,la,lt,t.at_⟩ s3):=by
     show _=_
     rw [HEQ0.out,Rs.seq HIS1.out,HM3.out,go_bind,Rs.seq HIS.out,HMA.out,go_bind,Rs.seq HGI.out,HMG.out,go_bind,Rs.seq HLI.out,HML.out,go_bind,HMT0.out,Rs.seq HTI.out.1,HTI.out.2]
     exact (must_fin _ _).symm
    have HGD:Hid (∀z s',moveR s=.ok z s'→d=y.isSome):=fun z s' e=>by
     rw [HEQ.out] at e
     cases hA:mA.go guardR with
     |out =>
      have h1:=HMG.out
      rw [hA] at h1
      have h0:=HTI.out.2
      rw [←HMT0.out,←HML.out,←h1] at h0
      exact absurd h0.symm HIT.out.xs.notOut
     |bad c p =>
      have h1:=HMG.out
      rw [hA] at h1
      have h0:=HTI.out.2
      rw [←HMT0.out,←HML.out,←h1] at h0
      have h3':m5=.bad c p:=h0.symm
      rw [h3'] at e
      cases e
     |ok z2 s2 =>
      have h1:=HGS.out z2 s2 hA
      have h2:=HGI.out z2 s2 hA
      rw [←h2]
      exact h1
    clear hp hm hY hc7 hz7 HCN
    have c0:=HC7.out.c 0 rfl
    have f0:=HZ7.out.fr 0
    have q0:=HZ7.out.c 0 rfl
    have c1:=HC7.out.c 1 rfl
    have f1:=HZ7.out.fr 1
    have q1:=HZ7.out.c 1 rfl
    have c2:=HC7.out.c 2 rfl
    have f2:=HZ7.out.fr 2
    have q2:=HZ7.out.c 2 rfl
    have c3:=HC7.out.c 3 rfl
    have f3:=HZ7.out.fr 3
    have q3:=HZ7.out.c 3 rfl
    have c4:=HC7.out.c 4 rfl
    have f4:=HZ7.out.fr 4
    have q4:=HZ7.out.c 4 rfl
    have c5:=HC7.out.c 5 rfl
    have f5:=HZ7.out.fr 5
    have q5:=HZ7.out.c 5 rfl
    have c6:=HC7.out.c 6 rfl
    have f6:=HZ7.out.fr 6
    have q6:=HZ7.out.c 6 rfl
    have c7:=HC7.out.c 7 rfl
    have f7:=HZ7.out.fr 7
    have q7:=HZ7.out.c 7 rfl
    have c8:=HC7.out.c 8 rfl
    have f8:=HZ7.out.fr 8
    have q8:=HZ7.out.c 8 rfl
    have c9:=HC7.out.c 9 rfl
    have f9:=HZ7.out.fr 9
    have q9:=HZ7.out.c 9 rfl
    have c10:=HC7.out.c 10 rfl
    have f10:=HZ7.out.fr 10
    have q10:=HZ7.out.c 10 rfl
    have c11:=HC7.out.c 11 rfl
    have f11:=HZ7.out.fr 11
    have q11:=HZ7.out.c 11 rfl
    have c12:=HC7.out.c 12 rfl
    have f12:=HZ7.out.fr 12
    have q12:=HZ7.out.c 12 rfl
    go_wp2_with fail
    have hres:=HZ7.out.all [.int .i64 k,.string Y,.int .i64 wt,.bool d,.int .i64 v.kind,.int .i64 v.num,.string v.name,.int .i64 v.op,.slice v.A v.len v.cap,.int .i64 v.p,.slice Aa na ca,.slice At nt ct,.int .i64 t.at_] rfl
    have hmf:=sets_put HI7.out.mv hg0w 0 [.int .i64 k,.string Y,.int .i64 wt,.bool d,.int .i64 v.kind,.int .i64 v.num,.string v.name,.int .i64 v.op,.slice v.A v.len v.cap,.int .i64 v.p,.slice Aa na ca,.slice At nt ct,.int .i64 t.at_]
    have hpf:=HI7.out.xs.sets (g:=g0) (by omega) 0 [.int .i64 k,.string Y,.int .i64 wt,.bool d,.int .i64 v.kind,.int .i64 v.num,.string v.name,.int .i64 v.op,.slice v.A v.len v.cap,.int .i64 v.p,.slice Aa na ca,.slice At nt ct,.int .i64 t.at_]
    have hrp:=HR7.out.mv (sets_mv w7 g0 0 [.int .i64 k,.string Y,.int .i64 wt,.bool d,.int .i64 v.kind,.int .i64 v.num,.string v.name,.int .i64 v.op,.slice v.A v.len v.cap,.int .i64 v.p,.slice Aa na ca,.slice At nt ct,.int .i64 t.at_]) (by omega)
    simp only [sets,Nat.reduceAdd] at hres hmf hpf hrp
    refine bodyPost_ret (resMove rfl _ rfl hres) rfl ?_
    refine ⟨⟨k,ev,wt,d,y,la,lt,t.at_⟩,_,rfl,?_,rfl,?_,?_,hmf⟩
    ·refine Rep.v rfl (Rep.v' (HY.out) (Rep.v rfl (Rep.v rfl ?_)))
     have:=Rep.snoc (u:=.int .i64 t.at_) (hrp.mono (base':=w.heap.size) (by omega)) rfl
     simpa [dvMove,EV.cells] using this
    ·intro z s' e
     rw [HGD.out z s' e]
     rw [HEQ.out] at e
     exact go_ok_is _ _ z s' e
    ·rw [HEQ.out,go_ok_void]
     exact hpf
end Go.Proofs.YtcddbfdbhjkjgaaGreatDoor
