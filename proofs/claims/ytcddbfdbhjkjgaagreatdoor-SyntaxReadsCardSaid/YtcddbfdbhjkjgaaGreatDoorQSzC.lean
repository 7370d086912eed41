import Derived.Test.YtcddbfdbhjkjgaaGreatDoorQh
import Derived.Test.YtcddbfdbhjkjgaaGreatDoorQSeD
import Derived.Test.YtcddbfdbhjkjgaaGreatDoorXF
import Derived.Test.YtcddbfdbhjkjgaaGreatDoorQXS
set_option maxHeartbeats 12800000
set_option maxRecDepth 20000
namespace Go.Proofs.YtcddbfdbhjkjgaaGreatDoor
open Go.RowKit
def SN (x:SyNode):Prop:=∀(y:SyNode) (pl o o':Bool) (w:World) (xs ys:List Value) (F F':List Nat),DvsAt w (dvNode o x) xs F→DvsAt w (dvNode o' y) ys F'→nG pl x y →
 Calls Tryz.prog 22 #[.agg xs.toArray,.agg ys.toArray,.bool pl] w fun e w'=>e=.returned (.bool true)∧Below w.heap.size w w'
theorem samenode_step (k p:Int) (nm ini dft:List UInt8) (en le:List SyAct) (mo:List SyMove) (ks:List SyNode) (ih:∀(i:Nat) (a:SyNode),ks[i]?=some a→SN a):SN (.mk k nm ini dft en le mo ks p):=by
 intro y pl o o' w xs ys F F' h h' hg
 obtain ⟨k',nm',ini',dft',qen,qle,qmo,qks,qp⟩:=y
 unfold nG at hg
 obtain ⟨rfl,rfl,rfl,rfl,s5,s6,s7,s8,s9⟩:=hg
 obtain ⟨A1,A2,A3,A4,Ac1,Ac2,Ac3,Ac4,F1,F2,F3,F4,rfl,a1,a2,a3,a4⟩:=node_vals h
 obtain ⟨B1,B2,B3,B4,Bc1,Bc2,Bc3,Bc4,G1,G2,G3,G4,rfl,b1,b2,b3,b4⟩:=node_vals h'
 obtain ⟨N,hN⟩:=str_of nm
 obtain ⟨I,hI⟩:=str_of ini
 obtain ⟨D,hD⟩:=str_of dft
 rw [hN,hI,hD]
 have l5:=s5.1
 have l6:=s6.1
 have l7:=s7.1
 have l8:=nsG_len s8
 obtain ⟨g1,hg1⟩:∃g,g=w.heap.size:=⟨_,rfl⟩
 obtain ⟨g2,hg2⟩:∃g,g=w.heap.size+1:=⟨_,rfl⟩
 obtain ⟨Wa,hWa⟩:∃W,W=w.alloc (.cells #[.int .i64 k,.string N,.string I,.string D,.slice A1 en.length Ac1,.slice A2 le.length Ac2,.slice A3 mo.length Ac3,.slice A4 ks.length Ac4,.int .i64 p] 28):=⟨_,rfl⟩
 obtain ⟨W0,hW0⟩:∃W,W=Wa.alloc (.cells #[.int .i64 k,.string N,.string I,.string D,.slice B1 qen.length Bc1,.slice B2 qle.length Bc2,.slice B3 qmo.length Bc3,.slice B4 qks.length Bc4,.int .i64 qp] 28):=⟨_,rfl⟩
 have hsa:Wa.heap.size=w.heap.size+1:=by rw [hWa];simp
 have HX:Hid (CB W0 g1 28 [.int .i64 k,.string N,.string I,.string D,.slice A1 en.length Ac1,.slice A2 le.length Ac2,.slice A3 mo.length Ac3,.slice A4 ks.length Ac4,.int .i64 p]):=by rw [hW0,hWa,hg1];exact (CB.new w _ [.int .i64 k,.string N,.string I,.string D,.slice A1 en.length Ac1,.slice A2 le.length Ac2,.slice A3 mo.length Ac3,.slice A4 ks.length Ac4,.int .i64 p]).alloc _
 have HY:Hid (CB W0 g2 28 [.int .i64 k,.string N,.string I,.string D,.slice B1 qen.length Bc1,.slice B2 qle.length Bc2,.slice B3 qmo.length Bc3,.slice B4 qks.length Bc4,.int .i64 qp]):=by
  have:=CB.new Wa 28 [.int .i64 k,.string N,.string I,.string D,.slice B1 qen.length Bc1,.slice B2 qle.length Bc2,.slice B3 qmo.length Bc3,.slice B4 qks.length Bc4,.int .i64 qp]
  rw [hsa,←hg2] at this
  rw [hW0]
  exact this
 have HB:Hid (Below w.heap.size w W0):=by rw [hW0,hWa];exact ((b_ _ w).alloc (n_ _) _).alloc (by simp) _
 have HC1:=h_ (sameacts_any W0 pl o o' en qen _ _ _ _ (a1.below HB.out) (b1.below HB.out) s5)
 have HC2:=h_ (fun (W:World) (hb:Below w.heap.size w W)=>sameacts_any W pl o o' le qle _ _ _ _ (a2.below hb) (b2.below hb) s6)
 have HMO:=h_ (And.intro a3 (And.intro b3 s7.2))
 have HKS:=h_ (And.intro a4 (And.intro b4 s8))
 have HIH:=h_ ih
 have HMX:Hid (mo.length≤9223372036854775807∧ks.length≤9223372036854775807):=by
  obtain ⟨_,_,e1,f1,f2⟩:=DvAt.slice (show DvAt w (.row 56 13 mo.length _) _ _ from a3)
  obtain ⟨_,_,e2,f3,f4⟩:=DvAt.slice (show DvAt w (.row 28 9 ks.length _) _ _ from a4)
  have:maxLen≤9223372036854775807:=by decide
  exact ⟨by omega,by omega⟩
 have HL7:=h_ l7
 have HL8:=h_ l8
 have e7:((mo.length:Int) != qmo.length)=false:=by rw [l7];simp
 have e8:((ks.length:Int) != qks.length)=false:=by rw [l8];simp
 have S9:=h_ s9
 have x0:=HX.out.c 0 rfl
 have x1:=HX.out.c 1 rfl
 have x2:=HX.out.c 2 rfl
 have x3:=HX.out.c 3 rfl
 have x4:=HX.out.c 4 rfl
 have x6:=HX.out.c 6 rfl
 have x7:=HX.out.c 7 rfl
 have x8:=HX.out.c 8 rfl
 have y0:=HY.out.c 0 rfl
 have y1:=HY.out.c 1 rfl
 have y2:=HY.out.c 2 rfl
 have y3:=HY.out.c 3 rfl
 have y4:=HY.out.c 4 rfl
 have y6:=HY.out.c 6 rfl
 have y7:=HY.out.c 7 rfl
 have y8:=HY.out.c 8 rfl
 clear h h' s5 s6 s7 s8 s9 l5 l6 l7 l8 a1 a2 a3 a4 b1 b2 b3 b4 hN hI hD hsa ih
 go_enter Tryz.func22,Tryz.ntmps22
 go_upto_region 1 with fail
 rw [←hWa,←hW0,←hg2,←hg1]
 clear hWa hW0 hg2 hg1
 go_cut [66] from 13 to 66 (fun s66 wr=>s66=.bool false∧W0=wr)
 case first =>
  cases pl
  ·go_wp2_with fail
   go_meet
   exact ⟨rfl,rfl⟩
  ·have q5:(p != qp)=false:=by rw [S9.out rfl];simp
   go_wp2_with fail
   go_meet
   exact ⟨rfl,rfl⟩
 case rest =>
 obtain ⟨rfl,rfl⟩:=hcut
 clear x0 x1 x2 x3 x6 x7 x8 y0 y1 y2 y3 y6 y7 y8 e7 e8
 go_wp2_with fail
 refine HC1.out.mono ?_
 rintro e w1 ⟨rfl,hb⟩
 have HX1:=h_ (HX.out.below hb)
 have HY1:=h_ (HY.out.below hb)
 have HB1:=h_ (HB.out.trans (hb.mono HB.out.size))
 have HCA:=h_ (HC2.out w1 HB1.out)
 have x5:=HX1.out.c 5 rfl
 have y5:=HY1.out.c 5 rfl
 clear hb HC1 HC2 HX HY HB x4 y4
 go_wp2_with fail
 refine HCA.out.mono ?_
 rintro e w2 ⟨rfl,hb⟩
 have HX2:=h_ (HX1.out.below hb)
 have HY2:=h_ (HY1.out.below hb)
 have HB2:=h_ (HB1.out.trans (hb.mono HB1.out.size))
 clear hb HCA HX1 HY1 HB1 x5 y5
 go_wp2_with fail
 go_loopw [9] (fun iv wr=>∃i:Nat,i≤mo.length∧iv=.int .i64 (i:Int)∧Hid (Below w.heap.size w wr)∧Hid (CB wr g1 28 [.int .i64 k,.string N,.string I,.string D,.slice A1 en.length Ac1,.slice A2 le.length Ac2,.slice A3 mo.length Ac3,.slice A4 ks.length Ac4,.int .i64 p])∧Hid (CB wr g2 28 [.int .i64 k,.string N,.string I,.string D,.slice B1 qen.length Bc1,.slice B2 qle.length Bc2,.slice B3 qmo.length Bc3,.slice B4 qks.length Bc4,.int .i64 qp])) (fun iv _=>mo.length-(intOf iv).toNat)
 case atStart=>exact ⟨0,Nat.zero_le _,rfl,HB2,HX2,HY2⟩
 case round =>
  obtain ⟨i,hi,rfl,HBW,HXW,HYW⟩:=hrel
  have x6:=HXW.out.c 6 rfl
  have y6:=HYW.out.c 6 rfl
  by_cases him:i<mo.length
  ·have him':(i:Int)<mo.length:=by omega
   have HIM:=h_ him
   have him2:(i:Int)<qmo.length:=by rw [←HL7.out];exact him'
   have him3:i<qmo.length:=by rw [←HL7.out];exact him
   obtain ⟨a,ha⟩:∃a,mo[i]?=some a:=⟨_,List.getElem?_eq_getElem him⟩
   obtain ⟨b,hb⟩:∃b,qmo[i]?=some b:=⟨_,List.getElem?_eq_getElem (by rw [←HL7.out];exact him)⟩
   have hab:=HMO.out.2.2 i a b ha hb
   obtain ⟨g,c,ys,Fy,hv,_,_,hg,hy,_,hyc⟩:=row_elem (f:=dvMove o) (k:=13) (fun _=>rfl) (show DvAt w (.row 56 13 mo.length (mo.flatMap (dvMove o))) _ _ from HMO.out.1) ha
   obtain ⟨g',c',zs,Fz,hv',_,_,hg',hz,_,hzc⟩:=row_elem (f:=dvMove o') (k:=13) (fun _=>rfl) (show DvAt w (.row 56 13 qmo.length (qmo.flatMap (dvMove o'))) _ _ from HMO.out.2.1) hb
   obtain rfl:A3=some ⟨g,0,none⟩:=by injection hv
   obtain rfl:B3=some ⟨g',0,none⟩:=by injection hv'
   obtain ⟨me,va,vt,Fa,Ft,rfl,_,ma,mt⟩:=move_vals hy
   obtain ⟨qe,ua,ut,Ga,Gt,rfl,_,qa,qt⟩:=move_vals hz
   obtain ⟨mA,mc,rfl,_⟩:=acts_slice ma
   obtain ⟨qA,qc,rfl,_⟩:=acts_slice qa
   obtain ⟨mT,md,rfl,_⟩:=strs_at mt
   obtain ⟨qT,qd,rfl,_⟩:=strs_at qt
   have HCM:=h_ (fun (W:World) (hbw:Below w.heap.size w W)=>samemove_any W pl o o' a b _ _ _ _ (hy.below hbw) (hz.below hbw) hab)
   obtain ⟨EX,hEX⟩:=str_of a.event
   obtain ⟨EY,hEY⟩:=str_of b.event
   rw [hEX,hEY] at HCM
   rw [hEX] at hyc
   rw [hEY] at hzc
   have kb:∀{p:Addr} {u:Value},w.cell? p=some u→wr.cell? p=some u:=fun hc=>by rw [World.cell?_of_block (HBW.out.block _ (World.block_lt_of_cell? w _ hc))];exact hc
   have u0:wr.cell? ⟨g,i*13,none⟩=_:=kb (hyc 0 _ rfl)
   have v0:wr.cell? ⟨g',i*13,none⟩=_:=kb (hzc 0 _ rfl)
   have u1:=kb (hyc 1 _ rfl)
   have v1:=kb (hzc 1 _ rfl)
   have u2:=kb (hyc 2 _ rfl)
   have v2:=kb (hzc 2 _ rfl)
   have u3:=kb (hyc 3 _ rfl)
   have v3:=kb (hzc 3 _ rfl)
   have u4:=kb (hyc 4 _ rfl)
   have v4:=kb (hzc 4 _ rfl)
   have u5:=kb (hyc 5 _ rfl)
   have v5:=kb (hzc 5 _ rfl)
   have u6:=kb (hyc 6 _ rfl)
   have v6:=kb (hzc 6 _ rfl)
   have u7:=kb (hyc 7 _ rfl)
   have v7:=kb (hzc 7 _ rfl)
   have u8:=kb (hyc 8 _ rfl)
   have v8:=kb (hzc 8 _ rfl)
   have u9:=kb (hyc 9 _ rfl)
   have v9:=kb (hzc 9 _ rfl)
   have u10:=kb (hyc 10 _ rfl)
   have v10:=kb (hzc 10 _ rfl)
   have u11:=kb (hyc 11 _ rfl)
   have v11:=kb (hzc 11 _ rfl)
   have u12:=kb (hyc 12 _ rfl)
   have v12:=kb (hzc 12 _ rfl)
   clear kb hyc hzc ma mt qa qt hy hz hab ha hb hv hv' hEX hEY hg hg'
   go_wp2_with fail
   go_still_tail 11,(by kernel_rfl)
   change wpList _ _ _ _ _ (World.drew wr)
   obtain ⟨W1,hW1⟩:∃W1,W1=wr.drew:=⟨_,rfl⟩
   have HBW1:Hid (Below w.heap.size w W1):=by rw [hW1];exact HBW.out.trans (b_ _ wr).drew
   have HXW1:Hid (CB W1 g1 28 [.int .i64 k,.string N,.string I,.string D,.slice A1 en.length Ac1,.slice A2 le.length Ac2,.slice (some ⟨g,0,none⟩) mo.length Ac3,.slice A4 ks.length Ac4,.int .i64 p]):=by rw [hW1];exact HXW.out
   have HYW1:Hid (CB W1 g2 28 [.int .i64 k,.string N,.string I,.string D,.slice B1 qen.length Bc1,.slice B2 qle.length Bc2,.slice (some ⟨g',0,none⟩) qmo.length Bc3,.slice B4 qks.length Bc4,.int .i64 qp]):=by rw [hW1];exact HYW.out
   have HCC:=h_ (HCM.out W1 HBW1.out)
   rw [←hW1]
   clear hW1 HCM HBW HXW HYW x6 y6 u0 v0 u1 v1 u2 v2 u3 v3 u4 v4 u5 v5 u6 v6 u7 v7 u8 v8 u9 v9 u10 v10 u11 v11 u12 v12
   go_wp2_with fail
   refine HCC.out.mono ?_
   rintro e w4 ⟨rfl,hb⟩
   have HBW4:=h_ (HBW1.out.trans (hb.mono HBW1.out.size))
   have HXW4:=h_ (HXW1.out.below hb)
   have HYW4:=h_ (HYW1.out.below hb)
   clear hb HCC HBW1 HXW1 HYW1
   go_wp2_with fail
   go_roundw
   case rel=>exact ⟨i+1,by have:=HIM.out;omega,by have h1:=HIM.out;have h2:=HMX.out;rw [Go.IntWalk.wrap64_in _ ⟨by omega,by omega⟩];rfl,HBW4,HXW4,HYW4⟩
   case measure=>have h1:=HIM.out;have h2:=HMX.out;rw [Go.IntWalk.wrap64_in _ ⟨by omega,by omega⟩];simp [intOf];omega
  have him':¬(i:Int)<mo.length:=by omega
  clear hi him
  go_wp2_with fail
  clear x6 y6
  go_loopw [11] (fun iv wr=>∃i:Nat,i≤ks.length∧iv=.int .i64 (i:Int)∧Hid (Below w.heap.size w wr)∧Hid (CB wr g1 28 [.int .i64 k,.string N,.string I,.string D,.slice A1 en.length Ac1,.slice A2 le.length Ac2,.slice A3 mo.length Ac3,.slice A4 ks.length Ac4,.int .i64 p])∧Hid (CB wr g2 28 [.int .i64 k,.string N,.string I,.string D,.slice B1 qen.length Bc1,.slice B2 qle.length Bc2,.slice B3 qmo.length Bc3,.slice B4 qks.length Bc4,.int .i64 qp])) (fun iv _=>ks.length-(intOf iv).toNat)
  case atStart=>exact ⟨0,Nat.zero_le _,rfl,HBW,HXW,HYW⟩
  case round =>
   obtain ⟨i,hi,rfl,HBW,HXW,HYW⟩:=hrel
   have x7:=HXW.out.c 7 rfl
   have y7:=HYW.out.c 7 rfl
   by_cases him:i<ks.length
   ·have him':(i:Int)<ks.length:=by omega
    have HIM:=h_ him
    have him2:(i:Int)<qks.length:=by rw [←HL8.out];exact him'
    have him3:i<qks.length:=by rw [←HL8.out];exact him
    obtain ⟨a,ha⟩:∃a,ks[i]?=some a:=⟨_,List.getElem?_eq_getElem him⟩
    obtain ⟨b,hb⟩:∃b,qks[i]?=some b:=⟨_,List.getElem?_eq_getElem him3⟩
    have hab:=nsG_get HKS.out.2.2 i a b ha hb
    have hih:=HIH.out i a ha
    have nl:∀(o:Bool) (a:SyNode),(dvNode o a).length=9:=fun o a=>by cases a;rw [dvNode_mk];rfl
    have hk1:=HKS.out.1
    have hk2:=HKS.out.2.1
    unfold dvKids at hk1 hk2
    rw [dvNodes_flat] at hk1 hk2
    obtain ⟨g,c,ys,Fy,hv,_,_,hg,hy,_,hyc⟩:=row_elem (f:=dvNode o) (k:=9) (nl o) hk1 ha
    obtain ⟨g',c',zs,Fz,hv',_,_,hg',hz,_,hzc⟩:=row_elem (f:=dvNode o') (k:=9) (nl o') hk2 hb
    obtain rfl:A4=some ⟨g,0,none⟩:=by injection hv
    obtain rfl:B4=some ⟨g',0,none⟩:=by injection hv'
    have HCM0:=fun (W:World) (hbw:Below w.heap.size w W)=>hih b pl o o' W _ _ _ _ (hy.below hbw) (hz.below hbw) hab
    obtain ⟨ka,na,ia,da,ea,la,ma,sa,pa⟩:=a
    obtain ⟨kb',nb,ib,db,eb,lb,mb,sb,pb⟩:=b
    obtain ⟨E1,E2,E3,E4,Ec1,Ec2,Ec3,Ec4,_,_,_,_,rfl,_⟩:=node_vals hy
    obtain ⟨D1,D2,D3,D4,Dc1,Dc2,Dc3,Dc4,_,_,_,_,rfl,_⟩:=node_vals hz
    obtain ⟨P1,hP1⟩:=str_of na
    obtain ⟨P2,hP2⟩:=str_of ia
    obtain ⟨P3,hP3⟩:=str_of da
    obtain ⟨R1,hR1⟩:=str_of nb
    obtain ⟨R2,hR2⟩:=str_of ib
    obtain ⟨R3,hR3⟩:=str_of db
    rw [hP1,hP2,hP3,hR1,hR2,hR3] at HCM0
    rw [hP1,hP2,hP3] at hyc
    rw [hR1,hR2,hR3] at hzc
    have HCM:=h_ HCM0
    have kb:∀{p:Addr} {u:Value},w.cell? p=some u→wr.cell? p=some u:=fun hc=>by rw [World.cell?_of_block (HBW.out.block _ (World.block_lt_of_cell? w _ hc))];exact hc
    have u0:wr.cell? ⟨g,i*9,none⟩=_:=kb (hyc 0 _ rfl)
    have v0:wr.cell? ⟨g',i*9,none⟩=_:=kb (hzc 0 _ rfl)
    have u1:=kb (hyc 1 _ rfl)
    have v1:=kb (hzc 1 _ rfl)
    have u2:=kb (hyc 2 _ rfl)
    have v2:=kb (hzc 2 _ rfl)
    have u3:=kb (hyc 3 _ rfl)
    have v3:=kb (hzc 3 _ rfl)
    have u4:=kb (hyc 4 _ rfl)
    have v4:=kb (hzc 4 _ rfl)
    have u5:=kb (hyc 5 _ rfl)
    have v5:=kb (hzc 5 _ rfl)
    have u6:=kb (hyc 6 _ rfl)
    have v6:=kb (hzc 6 _ rfl)
    have u7:=kb (hyc 7 _ rfl)
    have v7:=kb (hzc 7 _ rfl)
    have u8:=kb (hyc 8 _ rfl)
    have v8:=kb (hzc 8 _ rfl)
    clear kb hyc hzc hy hz hab ha hb hv hv' hg hg' hk1 hk2 hih nl HCM0 hP1 hP2 hP3 hR1 hR2 hR3
    go_wp2_with fail
    go_still_tail 11,(by kernel_rfl)
    change wpList _ _ _ _ _ (World.drew wr)
    obtain ⟨W1,hW1⟩:∃W1,W1=wr.drew:=⟨_,rfl⟩
    have HBW1:Hid (Below w.heap.size w W1):=by rw [hW1];exact HBW.out.trans (b_ _ wr).drew
    have HXW1:Hid (CB W1 g1 28 [.int .i64 k,.string N,.string I,.string D,.slice A1 en.length Ac1,.slice A2 le.length Ac2,.slice A3 mo.length Ac3,.slice (some ⟨g,0,none⟩) ks.length Ac4,.int .i64 p]):=by rw [hW1];exact HXW.out
    have HYW1:Hid (CB W1 g2 28 [.int .i64 k,.string N,.string I,.string D,.slice B1 qen.length Bc1,.slice B2 qle.length Bc2,.slice B3 qmo.length Bc3,.slice (some ⟨g',0,none⟩) qks.length Bc4,.int .i64 qp]):=by rw [hW1];exact HYW.out
    have HCC:=h_ (HCM.out W1 HBW1.out)
    rw [←hW1]
    clear hW1 HCM HBW HXW HYW x7 y7 u0 v0 u1 v1 u2 v2 u3 v3 u4 v4 u5 v5 u6 v6 u7 v7 u8 v8
    go_wp2_with fail
    refine HCC.out.mono ?_
    rintro e w4 ⟨rfl,hb⟩
    have HBW4:=h_ (HBW1.out.trans (hb.mono HBW1.out.size))
    have HXW4:=h_ (HXW1.out.below hb)
    have HYW4:=h_ (HYW1.out.below hb)
    clear hb HCC HBW1 HXW1 HYW1
    go_wp2_with fail
    go_roundw
    case rel=>exact ⟨i+1,by have:=HIM.out;omega,by have h1:=HIM.out;have h2:=HMX.out;rw [Go.IntWalk.wrap64_in _ ⟨by omega,by omega⟩];rfl,HBW4,HXW4,HYW4⟩
    case measure=>have h1:=HIM.out;have h2:=HMX.out;rw [Go.IntWalk.wrap64_in _ ⟨by omega,by omega⟩];simp [intOf];omega
   ·have him':¬(i:Int)<ks.length:=by omega
    go_wp2_with fail
    go_ret
    exact ⟨rfl,HBW.out⟩
theorem kid_size {k p:Int} {nm ini dft:List UInt8} {en le:List SyAct} {mo:List SyMove} {ks:List SyNode} {i:Nat} {a:SyNode} (h:ks[i]?=some a):SizeOf.sizeOf a<SizeOf.sizeOf (SyNode.mk k nm ini dft en le mo ks p):=by
 have:=List.sizeOf_lt_of_mem (List.mem_of_getElem? h)
 simp only [SyNode.mk.sizeOf_spec]
 omega
theorem sn_all:∀(m:Nat) (x:SyNode),SizeOf.sizeOf x≤m→SN x
 |0,.mk k nm ini dft en le mo ks p,hm=>by
  simp only [SyNode.mk.sizeOf_spec] at hm
  omega
 |m+1,.mk k nm ini dft en le mo ks p,hm=>samenode_step k p nm ini dft en le mo ks (fun i a ha=>sn_all m a (by have:=kid_size (k:=k) (p:=p) (nm:=nm) (ini:=ini) (dft:=dft) (en:=en) (le:=le) (mo:=mo) ha;omega))
def vG (pl:Bool) (a b:SyVar):Prop:=a.name=b.name∧a.num=b.num∧(pl=true→a.at_=b.at_)
def vsG (pl:Bool) (l l':List SyVar):Prop:=l.length=l'.length∧∀(i:Nat) (a b:SyVar),l[i]?=some a→l'[i]?=some b→vG pl a b
def cG (pl:Bool) (c c':SyChart):Prop:=vsG pl c.vars c'.vars∧nG pl c.root c'.root
theorem cG_same (pl:Bool) (c:SyChart):cG pl c c:=⟨⟨rfl,fun i a b ha hb=>by rw [ha] at hb;obtain rfl:=Option.some.inj hb;exact ⟨rfl,rfl,fun _=>rfl⟩⟩,nG_same pl _⟩
theorem var_vals {w:World} {a:SyVar} {xs:List Value} {F:List Nat} (h:DvsAt w (dvVar a) xs F):xs=[txV a.name,.int .i64 a.num,.int .i64 a.at_]:=by
 unfold dvVar at h
 obtain ⟨x0,ys,_,_,rfl,d0,h⟩:=h.uncons
 obtain ⟨x1,ys,_,_,rfl,d1,h⟩:=h.uncons
 obtain ⟨x2,ys,_,_,rfl,d2,h⟩:=h.uncons
 unfold DvsAt at h
 obtain ⟨rfl,_⟩:=h
 rw [d0.v,d1.v,d2.v]
theorem samechart_any (w:World) (pl o o':Bool) (c c':SyChart) (xs ys:List Value) (F F':List Nat) (h:DvsAt w (dvChart o c) xs F) (h':DvsAt w (dvChart o' c') ys F') (hs:cG pl c c') :
  Calls Tryz.prog 10 #[.agg xs.toArray,.agg ys.toArray,.bool pl] w fun e w'=>e=.returned (.bool true)∧Below w.heap.size w w':=by
 obtain ⟨vs,k,nm,ini,dft,en,le,mo,ks,p⟩:=c
 obtain ⟨vs',k',nm',ini',dft',qen,qle,qmo,qks,qp⟩:=c'
 obtain ⟨hv,hg⟩:=hs
 unfold dvChart at h h'
 obtain ⟨vx,xs,F0,F1,rfl,dv,dn⟩:=h.uncons
 obtain ⟨ux,ys,G0,G1,rfl,du,dm⟩:=h'.uncons
 have HCN0:=fun (W:World) (hb:Below w.heap.size w W)=>sn_all _ _ (n_ _) _ pl o o' W _ _ _ _ (dn.below hb) (dm.below hb) hg
 obtain ⟨A1,A2,A3,A4,Ac1,Ac2,Ac3,Ac4,F1,F2,F3,F4,rfl,_⟩:=node_vals dn
 obtain ⟨B1,B2,B3,B4,Bc1,Bc2,Bc3,Bc4,G1,G2,G3,G4,rfl,_⟩:=node_vals dm
 obtain ⟨A0,Ac0,rfl,hc1,hc2⟩:=DvAt.slice (show DvAt w (.row 51 3 vs.length (vs.flatMap dvVar)) vx _ from dv)
 obtain ⟨B0,Bc0,rfl,hc3,hc4⟩:=DvAt.slice (show DvAt w (.row 51 3 vs'.length (vs'.flatMap dvVar)) ux _ from du)
 obtain ⟨N,hN⟩:=str_of nm
 obtain ⟨I,hI⟩:=str_of ini
 obtain ⟨D,hD⟩:=str_of dft
 obtain ⟨N',hN'⟩:=str_of nm'
 obtain ⟨I',hI'⟩:=str_of ini'
 obtain ⟨D',hD'⟩:=str_of dft'
 rw [hN,hI,hD,hN',hI',hD'] at HCN0
 rw [hN,hI,hD,hN',hI',hD']
 have HCN:=h_ HCN0
 obtain ⟨g1,hg1⟩:∃g,g=w.heap.size:=⟨_,rfl⟩
 obtain ⟨g2,hg2⟩:∃g,g=w.heap.size+1:=⟨_,rfl⟩
 obtain ⟨Wa,hWa⟩:∃W,W=w.alloc (.cells #[.slice A0 vs.length Ac0,.int .i64 k,.string N,.string I,.string D,.slice A1 en.length Ac1,.slice A2 le.length Ac2,.slice A3 mo.length Ac3,.slice A4 ks.length Ac4,.int .i64 p] 30):=⟨_,rfl⟩
 obtain ⟨W0,hW0⟩:∃W,W=Wa.alloc (.cells #[.slice B0 vs'.length Bc0,.int .i64 k',.string N',.string I',.string D',.slice B1 qen.length Bc1,.slice B2 qle.length Bc2,.slice B3 qmo.length Bc3,.slice B4 qks.length Bc4,.int .i64 qp] 30):=⟨_,rfl⟩
 have hsa:Wa.heap.size=w.heap.size+1:=by rw [hWa];simp
 have HX:Hid (CB W0 g1 30 [.slice A0 vs.length Ac0,.int .i64 k,.string N,.string I,.string D,.slice A1 en.length Ac1,.slice A2 le.length Ac2,.slice A3 mo.length Ac3,.slice A4 ks.length Ac4,.int .i64 p]):=by rw [hW0,hWa,hg1];exact (CB.new w _ [.slice A0 vs.length Ac0,.int .i64 k,.string N,.string I,.string D,.slice A1 en.length Ac1,.slice A2 le.length Ac2,.slice A3 mo.length Ac3,.slice A4 ks.length Ac4,.int .i64 p]).alloc _
 have HY:Hid (CB W0 g2 30 [.slice B0 vs'.length Bc0,.int .i64 k',.string N',.string I',.string D',.slice B1 qen.length Bc1,.slice B2 qle.length Bc2,.slice B3 qmo.length Bc3,.slice B4 qks.length Bc4,.int .i64 qp]):=by
  have:=CB.new Wa 30 [.slice B0 vs'.length Bc0,.int .i64 k',.string N',.string I',.string D',.slice B1 qen.length Bc1,.slice B2 qle.length Bc2,.slice B3 qmo.length Bc3,.slice B4 qks.length Bc4,.int .i64 qp]
  rw [hsa,←hg2] at this
  rw [hW0]
  exact this
 have HB:Hid (Below w.heap.size w W0):=by rw [hW0,hWa];exact ((b_ _ w).alloc (n_ _) _).alloc (by simp) _
 have HVS:=h_ (And.intro dv (And.intro du hv.2))
 have HMX:Hid (vs.length≤9223372036854775807):=by
  have:maxLen≤9223372036854775807:=by decide
  show _≤_
  omega
 have hvl:=hv.1
 have HL:=h_ hvl
 have e7:((vs.length:Int) != vs'.length)=false:=by rw [hvl];simp
 have x0:=HX.out.c 0 rfl
 have y0:=HY.out.c 0 rfl
 clear h h' dv du dn dm hv hg hN hI hD hN' hI' hD' hc1 hc2 hc3 hc4 hsa hvl HCN0
 go_enter Tryz.func10,Tryz.ntmps10
 go_upto_region 1 with fail
 rw [←hWa,←hW0,←hg2,←hg1]
 clear hWa hW0 hg2 hg1
 go_wp2_with fail
 clear x0 y0 e7
 go_loopw [7] (fun iv wr=>∃i:Nat,i≤vs.length∧iv=.int .i64 (i:Int)∧Hid (Below w.heap.size w wr)∧Hid (CB wr g1 30 [.slice A0 vs.length Ac0,.int .i64 k,.string N,.string I,.string D,.slice A1 en.length Ac1,.slice A2 le.length Ac2,.slice A3 mo.length Ac3,.slice A4 ks.length Ac4,.int .i64 p])∧Hid (CB wr g2 30 [.slice B0 vs'.length Bc0,.int .i64 k',.string N',.string I',.string D',.slice B1 qen.length Bc1,.slice B2 qle.length Bc2,.slice B3 qmo.length Bc3,.slice B4 qks.length Bc4,.int .i64 qp])) (fun iv _=>vs.length-(intOf iv).toNat)
 case atStart=>exact ⟨0,Nat.zero_le _,rfl,HB,HX,HY⟩
 case round =>
  obtain ⟨i,hi,rfl,HBW,HXW,HYW⟩:=hrel
  have x0:=HXW.out.c 0 rfl
  have y0:=HYW.out.c 0 rfl
  by_cases him:i<vs.length
  ·have HIM:=h_ him
   have him':(i:Int)<vs.length:=by omega
   have him2:(i:Int)<vs'.length:=by rw [←HL.out];exact him'
   have him3:i<vs'.length:=by rw [←HL.out];exact him
   obtain ⟨a,ha⟩:∃a,vs[i]?=some a:=⟨_,List.getElem?_eq_getElem him⟩
   obtain ⟨b,hb⟩:∃b,vs'[i]?=some b:=⟨_,List.getElem?_eq_getElem him3⟩
   obtain ⟨a1,a2,a3⟩:=HVS.out.2.2 i a b ha hb
   obtain ⟨g,_,zs,Fy,hv,_,_,hg,hy,_,hyc⟩:=row_elem (f:=dvVar) (k:=3) (fun _=>rfl) (show DvAt w (.row 51 3 vs.length (vs.flatMap dvVar)) _ _ from HVS.out.1) ha
   obtain ⟨g',_,us,Fz,hv',_,_,hg',hz,_,hzc⟩:=row_elem (f:=dvVar) (k:=3) (fun _=>rfl) (show DvAt w (.row 51 3 vs'.length (vs'.flatMap dvVar)) _ _ from HVS.out.2.1) hb
   obtain rfl:A0=some ⟨g,0,none⟩:=by injection hv
   obtain rfl:B0=some ⟨g',0,none⟩:=by injection hv'
   obtain rfl:=var_vals hy
   obtain rfl:=var_vals hz
   rw [←a1] at hzc
   obtain ⟨EX,hEX⟩:=str_of a.name
   rw [hEX] at hyc hzc
   have q1:(a.num != b.num)=false:=by simp [bne,a2]
   have HT:=h_ a3
   have kb:∀{p:Addr} {u:Value},w.cell? p=some u→wr.cell? p=some u:=fun hc=>by rw [World.cell?_of_block (HBW.out.block _ (World.block_lt_of_cell? w _ hc))];exact hc
   have u0:wr.cell? ⟨g,i*3,none⟩=_:=kb (hyc 0 _ rfl)
   have v0:wr.cell? ⟨g',i*3,none⟩=_:=kb (hzc 0 _ rfl)
   have u1:=kb (hyc 1 _ rfl)
   have v1:=kb (hzc 1 _ rfl)
   have u2:=kb (hyc 2 _ rfl)
   have v2:=kb (hzc 2 _ rfl)
   clear kb hyc hzc hy hz ha hb hv hv' hEX hg hg' a1 a2 a3
   cases pl
   ·clear u2 v2
    go_wp2_with fail
    go_quiet (fail)
    clear x0 y0 u0 v0 u1 v1 q1
    go_wp2_with fail
    go_roundw
    case rel=>exact ⟨i+1,by have:=HIM.out;omega,by have h1:=HIM.out;have h2:=HMX.out;rw [Go.IntWalk.wrap64_in _ ⟨by omega,by omega⟩];rfl,HBW.out.trans ((drewN_below wr _).mono HBW.out.size),HXW.out.below (drewN_below wr _),HYW.out.below (drewN_below wr _)⟩
    case measure=>have h1:=HIM.out;have h2:=HMX.out;rw [Go.IntWalk.wrap64_in _ ⟨by omega,by omega⟩];simp [intOf];omega
   ·have q2:(a.at_ != b.at_)=false:=by simp [bne,HT.out rfl]
    go_wp2_with fail
    go_quiet (fail)
    clear x0 y0 u0 v0 u1 v1 u2 v2 q1 q2
    go_wp2_with fail
    go_roundw
    case rel=>exact ⟨i+1,by have:=HIM.out;omega,by have h1:=HIM.out;have h2:=HMX.out;rw [Go.IntWalk.wrap64_in _ ⟨by omega,by omega⟩];rfl,HBW.out.trans ((drewN_below wr _).mono HBW.out.size),HXW.out.below (drewN_below wr _),HYW.out.below (drewN_below wr _)⟩
    case measure=>have h1:=HIM.out;have h2:=HMX.out;rw [Go.IntWalk.wrap64_in _ ⟨by omega,by omega⟩];simp [intOf];omega
  ·have him':¬(i:Int)<vs.length:=by omega
   have x1:=HXW.out.c 1 rfl
   have x2:=HXW.out.c 2 rfl
   have x3:=HXW.out.c 3 rfl
   have x4:=HXW.out.c 4 rfl
   have x5:=HXW.out.c 5 rfl
   have x6:=HXW.out.c 6 rfl
   have x7:=HXW.out.c 7 rfl
   have x8:=HXW.out.c 8 rfl
   have x9:=HXW.out.c 9 rfl
   have y1:=HYW.out.c 1 rfl
   have y2:=HYW.out.c 2 rfl
   have y3:=HYW.out.c 3 rfl
   have y4:=HYW.out.c 4 rfl
   have y5:=HYW.out.c 5 rfl
   have y6:=HYW.out.c 6 rfl
   have y7:=HYW.out.c 7 rfl
   have y8:=HYW.out.c 8 rfl
   have y9:=HYW.out.c 9 rfl
   have HCC:=h_ (HCN.out wr HBW.out)
   clear hi him HCN
   go_wp2_with fail
   refine HCC.out.mono ?_
   rintro e w4 ⟨rfl,hb⟩
   have HBW4:=h_ (HBW.out.trans (hb.mono HBW.out.size))
   clear hb HCC
   go_wp2_with fail
   go_ret
   exact ⟨rfl,HBW4.out⟩
theorem chart_any (w:World) (s:ByteArray) (hVr:Vars w) (hV:Vs w) {R:Rs SyChart} (hR:syF s.data.toList=R) :
  Calls Tryz.prog 8 #[.string s] w fun e w'=>∃y0 y1 y2 y3 y4 y5 y6 y7 y8 y9 F,e=.returned (.tuple #[.agg #[y0,y1,y2,y3,y4,y5,y6,y7,y8,y9],.agg #[.int .i64 R.fc,.int .i64 R.fp]])∧(∀u∈[y0,y1,y2,y3,y4,y5,y6,y7,y8,y9],u.oneCell'=true)∧DvsAt w' (dvChart true R.chart) [y0,y1,y2,y3,y4,y5,y6,y7,y8,y9] F∧F.Nodup∧(∀g∈F,w.heap.size≤g)∧(∀c p,R=.bad c p→c≠0)∧Below w.heap.size w w':=by
 refine (sparse_any w s hVr hV).mono ?_
 rw [hR]
 rintro e w' ⟨ys,rfl,⟨F,hr,h1,h2⟩,hl,hb,hz⟩
 have zo:=hr.ones
 obtain ⟨y0,y1,y2,y3,y4,y5,y6,y7,y8,y9,rfl⟩:=cells10 hl
 exact ⟨y0,y1,y2,y3,y4,y5,y6,y7,y8,y9,F,rfl,zo,hr,h1,h2,hz,hb⟩
structure Rv where
 A:Option Addr
 n:Nat
 c:Nat
 q:Nat
 N:Int
 M:Int
 C:Int
 D:Int
 code:Int
 pos:Int
def RvB (w:World) (b:Nat) (r:Rv):Prop:=w.heap[b]?=some (.cells #[.slice r.A r.n r.c,.int .i64 (r.q:Int),.int .i64 r.N,.int .i64 r.M,.int .i64 r.C,.int .i64 r.D,.int .i64 r.code,.int .i64 r.pos] 64 (0,0))
section
variable {w w':World} {b:Nat} {r:Rv}
theorem RvB.lt (h:RvB w b r):b<w.heap.size:=by
 rcases Nat.lt_or_ge b w.heap.size with hlt|hge
 ·exact hlt
 ·unfold RvB at h;rw [Array.getElem?_eq_none hge] at h;cases h
theorem RvB.c0 (h:RvB w b r):w.cell? ⟨b,0,none⟩=some (.slice r.A r.n r.c):=cell_of_row w b 0 _ _ _ h
theorem RvB.c1 (h:RvB w b r):w.cell? ⟨b,1,none⟩=some (.int .i64 (r.q:Int)):=cell_of_row w b 1 _ _ _ h
theorem RvB.c2 (h:RvB w b r):w.cell? ⟨b,2,none⟩=some (.int .i64 r.N):=cell_of_row w b 2 _ _ _ h
theorem RvB.c3 (h:RvB w b r):w.cell? ⟨b,3,none⟩=some (.int .i64 r.M):=cell_of_row w b 3 _ _ _ h
theorem RvB.c4 (h:RvB w b r):w.cell? ⟨b,4,none⟩=some (.int .i64 r.C):=cell_of_row w b 4 _ _ _ h
theorem RvB.c5 (h:RvB w b r):w.cell? ⟨b,5,none⟩=some (.int .i64 r.D):=cell_of_row w b 5 _ _ _ h
theorem RvB.c6 (h:RvB w b r):w.cell? ⟨b,6,none⟩=some (.int .i64 r.code):=cell_of_row w b 6 _ _ _ h
theorem RvB.c7 (h:RvB w b r):w.cell? ⟨b,7,none⟩=some (.int .i64 r.pos):=cell_of_row w b 7 _ _ _ h
theorem RvB.fr (h:RvB w b r) (i:Nat):w.frozen? ⟨b,i,none⟩=false:=by
 unfold RvB at h
 simp [World.frozen?,h]
theorem RvB.below (h:RvB w b r) (hb:Below w.heap.size w w'):RvB w' b r:=(hb.block b h.lt).trans h
theorem RvB.alloc (h:RvB w b r) (o:Obj):RvB (w.alloc o) b r:=(Below.heap_alloc w o b h.lt).trans h
theorem RvB.mv {g:Nat} (h:RvB w b r) (hb:Mv g w w') (hn:b≠g):RvB w' b r:=(hb.block h.lt hn).trans h
theorem RvB.setq (h:RvB w b r) (q:Nat):RvB (w.setCell ⟨b,1,none⟩ (.int .i64 (q:Int))) b { r with q:=q }:=heap_setCell_same w b 1 _ _ _ h
theorem RvB.setN (h:RvB w b r) (q:Int):RvB (w.setCell ⟨b,2,none⟩ (.int .i64 q)) b { r with N:=q }:=heap_setCell_same w b 2 _ _ _ h
theorem RvB.setM (h:RvB w b r) (q:Int):RvB (w.setCell ⟨b,3,none⟩ (.int .i64 q)) b { r with M:=q }:=heap_setCell_same w b 3 _ _ _ h
theorem RvB.setC (h:RvB w b r) (q:Int):RvB (w.setCell ⟨b,4,none⟩ (.int .i64 q)) b { r with C:=q }:=heap_setCell_same w b 4 _ _ _ h
theorem RvB.setD (h:RvB w b r) (q:Int):RvB (w.setCell ⟨b,5,none⟩ (.int .i64 q)) b { r with D:=q }:=heap_setCell_same w b 5 _ _ _ h
theorem RvB.setF (h:RvB w b r) (x y:Int):RvB ((w.setCell ⟨b,6,none⟩ (.int .i64 x)).setCell ⟨b,7,none⟩ (.int .i64 y)) b { r with code:=x,pos:=y } :=
 heap_setCell_same (w.setCell ⟨b,6,none⟩ (.int .i64 x)) b 7 _ _ _ (heap_setCell_same w b 6 _ _ _ h)
end
def Rv.stop (r:Rv) (e:Int) (t:Tk):Rv:=if r.code=0 then { r with code:=e,pos:=t.at_ } else r
def Rv.wrong (r:Rv) (t:Tk):Rv:=r.stop (wrC t) t
def Rv.next (r:Rv) (d:Bool):Rv:=if d=true then { r with q:=r.q+1 } else r
theorem xstop_any (w:World) (b:Nat) (r:Rv) (e:Int) (xs:List Tk) (t:Tk) (h:RvB w b r) (hA:TkAt w r.A r.n xs) (ht:xs[r.q]?=some t) :
  Calls Tryz.prog 39 #[.pointer (some ⟨b,0,none⟩),.int .i64 e] w fun e' w'=>e'=.returned (.tuple #[])∧RvB w' b (r.stop e t)∧Mv b w w':=by
 have HR:=h_ h
 have hq:r.q<r.n:=by rw [←hA.1];exact (List.getElem?_eq_some_iff.1 ht).1
 obtain ⟨A,n,c,q,N,M,C,D,code,pos⟩:=r
 simp only at hq hA ht HR
 obtain ⟨g,o,rfl,x0,x1,x2,x3⟩:=hA.2 q t ht
 have r0:=h.c0
 have r1:=h.c1
 have r6:=h.c6
 have r7:=h.c7
 have f6:=h.fr 6
 have f7:=h.fr 7
 have hq':(q:Int)<n:=by omega
 by_cases hc:code=0
 ·subst hc
  clear h hA ht x0 x1 x2
  go_enter Tryz.func39,Tryz.ntmps39
  go_wp2_with fail
  go_region
  all_goals
   go_wp2_with fail
   go_end0
   exact ⟨rfl,HR.out.setF _ _,(((Mv.refl b w).set 6 _).set 7 _).drew⟩
 ·have hc0:(code==0)=false:=by simpa using hc
  have HC:=h_ hc
  clear h hA ht x0 x1 x2 hc
  go_enter Tryz.func39,Tryz.ntmps39
  go_wp2_with fail
  go_end0
  refine ⟨rfl,?_,Mv.refl b w⟩
  unfold Rv.stop
  rw [if_neg HC.out]
  exact HR.out
theorem xwrong_any (w:World) (b:Nat) (r:Rv) (xs:List Tk) (t:Tk) (h:RvB w b r) (hA:TkAt w r.A r.n xs) (ht:xs[r.q]?=some t) :
  Calls Tryz.prog 21 #[.pointer (some ⟨b,0,none⟩)] w fun e' w'=>e'=.returned (.tuple #[])∧RvB w' b (r.wrong t)∧Mv b w w':=by
 have HS:=h_ (fun (m:Nat) (e:Int)=>xstop_any (w.drewN m) b r e xs t h hA ht)
 have hq:r.q<r.n:=by rw [←hA.1];exact (List.getElem?_eq_some_iff.1 ht).1
 obtain ⟨A,n,c,q,N,M,C,D,code,pos⟩:=r
 simp only at hq hA ht HS
 obtain ⟨g,o,rfl,x0,_⟩:=hA.2 q t ht
 have r0:=h.c0
 have r1:=h.c1
 have hq':(q:Int)<n:=by omega
 clear h hA ht
 by_cases hk:t.kind=5
 ·have hk1:(t.kind==5)=true:=by rw [hk];rfl
  have HW:Hid (wrC t=3):=by show _=_;unfold wrC;rw [if_pos hk]
  clear hk
  go_enter Tryz.func21,Tryz.ntmps21
  go_wp2_with fail
  go_quiet (fail)
  go_wp2_with fail
  refine (HS.out _ 3).mono ?_
  rintro e w1 ⟨rfl,h1,h2⟩
  go_wp2_with fail
  refine bodyPost_ret (results_none rfl _ _ _) rfl ?_
  exact ⟨rfl,by unfold Rv.wrong;rw [HW.out];exact h1,(Mv.of b (drewN_below w _)).trans h2⟩
 ·have hk1:(t.kind==5)=false:=by simpa using hk
  have HW:Hid (wrC t=4):=by show _=_;unfold wrC;rw [if_neg hk]
  clear hk
  go_enter Tryz.func21,Tryz.ntmps21
  go_wp2_with fail
  go_quiet (fail)
  go_wp2_with fail
  refine (HS.out _ 4).mono ?_
  rintro e w1 ⟨rfl,h1,h2⟩
  go_wp2_with fail
  go_end0
  exact ⟨rfl,by unfold Rv.wrong;rw [HW.out];exact h1,(Mv.of b (drewN_below w _)).trans h2⟩
theorem isTk_beq (k:Int) (u:List UInt8) (t:Tk):isTk k u t=((t.kind==k)&&(t.text==u)):=by
 unfold isTk
 rw [Bool.eq_iff_iff]
 simp
theorem xis_any (w:World) (b:Nat) (r:Rv) (xs:List Tk) (t:Tk) (k:Int) (S:ByteArray) (h:RvB w b r) (hA:TkAt w r.A r.n xs) (ht:xs[r.q]?=some t) :
  Calls Tryz.prog 43 #[.pointer (some ⟨b,0,none⟩),.int .i64 k,.string S] w fun e w'=>e=.returned (.bool ((r.code==0)&&isTk k S.data.toList t))∧Below w.heap.size w w':=by
 have hq:r.q<r.n:=by rw [←hA.1];exact (List.getElem?_eq_some_iff.1 ht).1
 obtain ⟨A,n,c,q,N,M,C,D,code,pos⟩:=r
 simp only at hq hA ht
 obtain ⟨g,o,rfl,x0,x1,x2,x3⟩:=hA.2 q t ht
 obtain ⟨X,hX⟩:∃X,txV t.text=.string X:=⟨_,rfl⟩
 have eX:X.toList=t.text:=by
  unfold txV at hX
  injection hX with hX
  rw [←hX,Lib.toList_data]
 have hsg:isTk k S.data.toList t=((t.kind==k)&&(X.toList==S.toList)):=by rw [eX,Lib.toList_data,isTk_beq]
 simp only
 rw [hsg]
 rw [hX] at x1
 have r0:=h.c0
 have r1:=h.c1
 have r0':∀ob:Obj,(w.alloc ob).cell? ⟨b,0,none⟩=some (.slice (some ⟨g,o,none⟩) n c):=fun ob=>(h.alloc ob).c0
 have r1':∀o:Obj,(w.alloc o).cell? ⟨b,1,none⟩=some (.int .i64 (q:Int)):=fun o=>(h.alloc o).c1
 have r6:∀o:Obj,(w.alloc o).cell? ⟨b,6,none⟩=some (.int .i64 code):=fun o=>(h.alloc o).c6
 have ka:∀{p:Addr} {u:Value},w.cell? p=some u→∀ob:Obj,(w.alloc ob).cell? p=some u:=fun hc ob=>by rw [World.cell?_alloc_lt _ _ _ (World.block_lt_of_cell? w _ hc)];exact hc
 have y0:=ka x0
 have y1:=ka x1
 have y2:=ka x2
 have y3:=ka x3
 clear ka
 have hq':(q:Int)<n:=by omega
 obtain ⟨d0,hd0⟩:∃d0,(code==0)=d0:=⟨_,rfl⟩
 obtain ⟨d1,hd1⟩:∃d1,(t.kind==k)=d1:=⟨_,rfl⟩
 obtain ⟨d2,hd2⟩:∃d2,(X.toList==S.toList)=d2:=⟨_,rfl⟩
 rw [hd0,hd1,hd2]
 clear h hA ht hX eX hsg
 go_enter Tryz.func43,Tryz.ntmps43
 go_wp2_with fail
 go_region
 all_goals
  cases d0 <;> cases d1
  all_goals
   go_wp2_with fail
   go_ret
   exact ⟨by simp,((b_ _ w).alloc (n_ _) _).drew⟩
theorem xpass_any (w:World) (b:Nat) (r:Rv) (xs:List Tk) (t:Tk) (k:Int) (S:ByteArray) (h:RvB w b r) (hA:TkAt w r.A r.n xs) (ht:xs[r.q]?=some t) (hn:r.n≤1000000000) :
  Calls Tryz.prog 38 #[.pointer (some ⟨b,0,none⟩),.int .i64 k,.string S] w fun e w'=>e=.returned (.bool ((r.code==0)&&isTk k S.data.toList t))∧RvB w' b (r.next ((r.code==0)&&isTk k S.data.toList t))∧Mv b w w':=by
 have hq:r.q<r.n:=by rw [←hA.1];exact (List.getElem?_eq_some_iff.1 ht).1
 have HS:=h_ (xis_any w b r xs t k S h hA ht)
 obtain ⟨d,hd⟩:∃d,((r.code==0)&&isTk k S.data.toList t)=d:=⟨_,rfl⟩
 rw [hd] at HS ⊢
 have HR:=h_ h
 clear h hA ht hd
 go_enter Tryz.func38,Tryz.ntmps38
 go_wp2_with fail
 refine HS.out.mono ?_
 rintro e w1 ⟨rfl,hb⟩
 have HR1:=h_ (HR.out.below hb)
 have HM:=h_ (Mv.of b hb)
 have r1:=HR1.out.c1
 have f1:=HR1.out.fr 1
 clear hb
 cases d
 ·go_wp2_with fail
  go_ret
  exact ⟨rfl,HR1.out,HM.out⟩
 ·go_wp2_with fail
  go_ret
  refine ⟨rfl,?_,HM.out.set 1 _⟩
  have:=HR1.out.setq (r.q+1)
  rw [Int.natCast_add] at this
  exact this
theorem xmust_any (w:World) (b:Nat) (r:Rv) (xs:List Tk) (t:Tk) (k:Int) (S:ByteArray) (h:RvB w b r) (hA:TkAt w r.A r.n xs) (ht:xs[r.q]?=some t) (hn:r.n≤1000000000) (hAb:∀g o,r.A=some ⟨g,o,none⟩→g≠b) :
  Calls Tryz.prog 17 #[.pointer (some ⟨b,0,none⟩),.int .i64 k,.string S] w fun e w'=>e=.returned (.tuple #[])∧RvB w' b (if ((r.code==0)&&isTk k S.data.toList t)=true then r.next true else r.wrong t)∧Mv b w w':=by
 have HS:=h_ (xpass_any w b r xs t k S h hA ht hn)
 have HW:=h_ (fun (w':World) (hm:Mv b w w') (hr:RvB w' b r)=>xwrong_any w' b r xs t hr (hA.mv hm hAb) ht)
 obtain ⟨d,hd⟩:∃d,((r.code==0)&&isTk k S.data.toList t)=d:=⟨_,rfl⟩
 rw [hd] at HS ⊢
 clear h hA ht hd
 go_enter Tryz.func17,Tryz.ntmps17
 go_wp2_with fail
 refine HS.out.mono ?_
 rintro e w1 ⟨rfl,hr,hb⟩
 cases d
 ·have HB:=h_ hb
  have HR1:=h_ hr
  clear hb hr
  go_wp2_with fail
  refine (HW.out w1 HB.out HR1.out).mono ?_
  rintro e w2 ⟨rfl,h1,h2⟩
  go_wp2_with fail
  go_end0
  exact ⟨rfl,h1,HB.out.trans h2⟩
 ·have HB:=h_ hb
  have HR1:=h_ hr
  clear hb hr
  go_wp2_with fail
  go_end0
  exact ⟨rfl,HR1.out,HB.out⟩
theorem xname_any (w:World) (b:Nat) (r:Rv) (xs:List Tk) (t:Tk) (h:RvB w b r) (hA:TkAt w r.A r.n xs) (ht:xs[r.q]?=some t) (hn:r.n≤1000000000) :
  Calls Tryz.prog 40 #[.pointer (some ⟨b,0,none⟩)] w fun e w'=>e=.returned (if ((r.code==0)&&(t.kind==1))=true then .tuple #[txV t.text,.int .i64 t.at_] else .tuple #[.string ⟨#[]⟩,.int .i64 0])∧RvB w' b (if ((r.code==0)&&(t.kind==1))=true then r.next true else r.wrong t)∧Mv b w w':=by
 have hq:r.q<r.n:=by rw [←hA.1];exact (List.getElem?_eq_some_iff.1 ht).1
 have HW:=h_ (fun (w':World) (hb:Below w.heap.size w w')=>xwrong_any w' b r xs t (h.below hb) (hA.below hb) ht)
 have HR:=h_ (fun (w':World) (hb:Below w.heap.size w w')=>h.below hb)
 have hlt:=h.lt
 obtain ⟨A,n,c,q,N,M,C,D,code,pos⟩:=r
 simp only at hq hA ht hn HW HR ⊢
 obtain ⟨g,o,rfl,x0,x1,x2,x3⟩:=hA.2 q t ht
 obtain ⟨X,hX⟩:∃X,txV t.text=.string X:=⟨_,rfl⟩
 rw [hX] at x1 ⊢
 have r0:=h.c0
 have r1:=h.c1
 have r0':∀ob:Obj,(w.alloc ob).cell? ⟨b,0,none⟩=some (.slice (some ⟨g,o,none⟩) n c):=fun ob=>(h.alloc ob).c0
 have r1':∀o:Obj,(w.alloc o).cell? ⟨b,1,none⟩=some (.int .i64 (q:Int)):=fun o=>(h.alloc o).c1
 have f1':∀o:Obj,(w.alloc o).frozen? ⟨b,1,none⟩=false:=fun o=>(h.alloc o).fr 1
 have r6:∀o:Obj,(w.alloc o).cell? ⟨b,6,none⟩=some (.int .i64 code):=fun o=>(h.alloc o).c6
 have ka:∀{p:Addr} {u:Value},w.cell? p=some u→∀ob:Obj,(w.alloc ob).cell? p=some u:=fun hc ob=>by rw [World.cell?_alloc_lt _ _ _ (World.block_lt_of_cell? w _ hc)];exact hc
 have y0:=ka x0
 have y1:=ka x1
 have y2:=ka x2
 have y3:=ka x3
 clear ka
 have hq':(q:Int)<n:=by omega
 have hne:∀a b:Int,(a != b)=!(a==b):=fun _ _=>rfl
 obtain ⟨d1,hd1⟩:∃d1,(t.kind==1)=d1:=⟨_,rfl⟩
 have hd1':(t.kind != 1)=!d1:=by rw [hne,hd1]
 rw [hd1]
 by_cases hc:code=0
 ·subst hc
  clear h hA ht hX hne
  cases d1
  ·go_enter Tryz.func40,Tryz.ntmps40
   go_wp2_with fail
   go_region
   all_goals
    go_wp2_with fail
    refine (HW.out _ (((b_ _ w).alloc (n_ _) _).drew)).mono ?_
    rintro e w1 ⟨rfl,h1,h2⟩
    go_wp2_with fail
    go_ret2
    exact ⟨rfl,h1,(Mv.of b (((b_ _ w).alloc (n_ _) _).drew)).trans h2⟩
  ·go_enter Tryz.func40,Tryz.ntmps40
   go_wp2_with fail
   go_region
   all_goals
    go_wp2_with fail
    go_quiet (fail)
    go_wp2_with fail
    go_ret2
    refine ⟨rfl,?_,(((Mv.refl b w).set 1 _).trans (Mv.of b ((b_ _ _).alloc (n_ _) _))).trans (Mv.of b (drewN_below _ _))⟩
    have:=(HR.out w (b_ _ w)).setq (q+1)
    rw [Int.natCast_add] at this
    exact (this.alloc _).below (drewN_below _ _)
 ·have hc0:(code==0)=false:=by simpa using hc
  have hc1:(code != 0)=true:=by rw [hne,hc0];rfl
  rw [hc0]
  clear h hA ht hX hne hc
  go_enter Tryz.func40,Tryz.ntmps40
  go_wp2_with fail
  go_region
  all_goals
   go_wp2_with fail
   refine (HW.out _ (((b_ _ w).alloc (n_ _) _).drew)).mono ?_
   rintro e w1 ⟨rfl,h1,h2⟩
   go_wp2_with fail
   go_ret2
   exact ⟨rfl,h1,(Mv.of b (((b_ _ w).alloc (n_ _) _).drew)).trans h2⟩
theorem xint_any (w:World) (b:Nat) (r:Rv) (xs:List Tk) (t:Tk) (h:RvB w b r) (hA:TkAt w r.A r.n xs) (ht:xs[r.q]?=some t) (hn:r.n≤1000000000) :
  Calls Tryz.prog 41 #[.pointer (some ⟨b,0,none⟩)] w fun e w'=>e=.returned (if ((r.code==0)&&(t.kind==3))=true then .int .i64 t.num else .int .i64 0)∧RvB w' b (if ((r.code==0)&&(t.kind==3))=true then r.next true else r.wrong t)∧Mv b w w':=by
 have hq:r.q<r.n:=by rw [←hA.1];exact (List.getElem?_eq_some_iff.1 ht).1
 have HW:=h_ (fun (w':World) (hb:Below w.heap.size w w')=>xwrong_any w' b r xs t (h.below hb) (hA.below hb) ht)
 have HR:=h_ (fun (w':World) (hb:Below w.heap.size w w')=>h.below hb)
 have hlt:=h.lt
 obtain ⟨A,n,c,q,N,M,C,D,code,pos⟩:=r
 simp only at hq hA ht hn HW HR ⊢
 obtain ⟨g,o,rfl,x0,x1,x2,x3⟩:=hA.2 q t ht
 obtain ⟨X,hX⟩:∃X,txV t.text=.string X:=⟨_,rfl⟩
 rw [hX] at x1
 have r0:=h.c0
 have r1:=h.c1
 have r0':∀ob:Obj,(w.alloc ob).cell? ⟨b,0,none⟩=some (.slice (some ⟨g,o,none⟩) n c):=fun ob=>(h.alloc ob).c0
 have r1':∀o:Obj,(w.alloc o).cell? ⟨b,1,none⟩=some (.int .i64 (q:Int)):=fun o=>(h.alloc o).c1
 have f1':∀o:Obj,(w.alloc o).frozen? ⟨b,1,none⟩=false:=fun o=>(h.alloc o).fr 1
 have r6:∀o:Obj,(w.alloc o).cell? ⟨b,6,none⟩=some (.int .i64 code):=fun o=>(h.alloc o).c6
 have ka:∀{p:Addr} {u:Value},w.cell? p=some u→∀ob:Obj,(w.alloc ob).cell? p=some u:=fun hc ob=>by rw [World.cell?_alloc_lt _ _ _ (World.block_lt_of_cell? w _ hc)];exact hc
 have y0:=ka x0
 have y1:=ka x1
 have y2:=ka x2
 have y3:=ka x3
 clear ka
 have hq':(q:Int)<n:=by omega
 have hne:∀a b:Int,(a != b)=!(a==b):=fun _ _=>rfl
 obtain ⟨d1,hd1⟩:∃d1,(t.kind==3)=d1:=⟨_,rfl⟩
 have hd1':(t.kind != 3)=!d1:=by rw [hne,hd1]
 rw [hd1]
 by_cases hc:code=0
 ·subst hc
  clear h hA ht hX hne
  cases d1
  ·go_enter Tryz.func41,Tryz.ntmps41
   go_wp2_with fail
   go_region
   all_goals
    go_wp2_with fail
    refine (HW.out _ (((b_ _ w).alloc (n_ _) _).drew)).mono ?_
    rintro e w1 ⟨rfl,h1,h2⟩
    go_wp2_with fail
    go_ret
    exact ⟨rfl,h1,(Mv.of b (((b_ _ w).alloc (n_ _) _).drew)).trans h2⟩
  ·go_enter Tryz.func41,Tryz.ntmps41
   go_wp2_with fail
   go_region
   all_goals
    go_wp2_with fail
    go_ret
    refine ⟨rfl,?_,(((Mv.refl b w).set 1 _).trans (Mv.of b ((b_ _ _).alloc (n_ _) _))).drew⟩
    have:=(HR.out w (b_ _ w)).setq (q+1)
    rw [Int.natCast_add] at this
    exact this.alloc _
 ·have hc0:(code==0)=false:=by simpa using hc
  have hc1:(code != 0)=true:=by rw [hne,hc0];rfl
  rw [hc0]
  clear h hA ht hX hne hc
  go_enter Tryz.func41,Tryz.ntmps41
  go_wp2_with fail
  go_region
  all_goals
   go_wp2_with fail
   refine (HW.out _ (((b_ _ w).alloc (n_ _) _).drew)).mono ?_
   rintro e w1 ⟨rfl,h1,h2⟩
   go_wp2_with fail
   go_ret
   exact ⟨rfl,h1,(Mv.of b (((b_ _ w).alloc (n_ _) _).drew)).trans h2⟩
def kwN (code:Int) (t:Tk) (l:List (List UInt8)):Int:=if code=0 then ((wordAt [t] l 1:Nat):Int) else 0
theorem wordAt_yes {t:Tk}:∀{l:List (List UInt8)} {i k:Nat} {u:List UInt8},l[i]?=some u→isTk 2 u t=true→(∀(j:Nat) (v:List UInt8),j<i→l[j]?=some v→isTk 2 v t=false)→wordAt [t] l k=k+i
 |[],i,_,_,h,_,_=>by simp at h
 |v::l,0,k,u,h,hu,_=>by
  have:v=u:=by simpa using h
  subst this
  rw [wordAt]
  show (if isTk 2 v t=true then _ else _)=_
  rw [if_pos hu]
  rfl
 |v::l,i+1,k,u,h,hu,hn=>by
  have h0:=hn 0 v (Nat.succ_pos i) rfl
  rw [wordAt]
  show (if isTk 2 v t=true then _ else _)=_
  rw [h0,if_neg (by decide),wordAt_yes (l:=l) (i:=i) (k:=k+1) (by simpa using h) hu (fun j x hj hx=>hn (j+1) x (by omega) (by simpa using hx))]
  omega
theorem wordAt_none {t:Tk}:∀{l:List (List UInt8)} {k:Nat},(∀(j:Nat) (v:List UInt8),l[j]?=some v→isTk 2 v t=false)→wordAt [t] l k=0
 |[],_,_=>rfl
 |v::l,k,hn=>by
  have h0:=hn 0 v rfl
  rw [wordAt]
  show (if isTk 2 v t=true then _ else _)=_
  rw [h0,if_neg (by decide)]
  exact wordAt_none fun j x hx=>hn (j+1) x (by simpa using hx)
theorem xmoving_any (w:World) (b:Nat) (r:Rv) (xs:List Tk) (t:Tk) (h:RvB w b r) (hA:TkAt w r.A r.n xs) (ht:xs[r.q]?=some t) :
  Calls Tryz.prog 45 #[.pointer (some ⟨b,0,none⟩)] w fun e w'=>e=.returned (.int .i64 (kwN r.code t [wOn,wAlways,wAfter]))∧Below w.heap.size w w':=by
 have HSG:=h_ (fun (w':World) (hb:Below w.heap.size w w') (S:ByteArray)=>xis_any w' b r xs t 2 S (h.below hb) (hA.below hb) ht)
 obtain ⟨code,hcode⟩:∃code,r.code=code:=⟨_,rfl⟩
 rw [hcode] at HSG ⊢
 clear h hA ht hcode
 obtain ⟨L,hL⟩:∃L,[wOn,wAlways,wAfter]=L:=⟨_,rfl⟩
 have HLL:=h_ hL
 obtain ⟨g,hg⟩:∃g,w.heap.size=g:=⟨_,rfl⟩
 obtain ⟨W,hW⟩:∃W,W=w.alloc (.cells #[.string ⟨#[111,110]⟩,.string ⟨#[97,108,119,97,121,115]⟩,.string ⟨#[97,102,116,101,114]⟩] 9):=⟨_,rfl⟩
 have HBW:Hid (Below w.heap.size w W):=by rw [hW];exact (b_ _ w).alloc (n_ _) _
 have HC:Hid (∀(i:Nat) (u:List UInt8),L[i]?=some u→W.cell? ⟨g,i,none⟩=some (txV u)):=by
  have hb:W.heap[g]?=some (.cells #[.string ⟨#[111,110]⟩,.string ⟨#[97,108,119,97,121,115]⟩,.string ⟨#[97,102,116,101,114]⟩] 9 (0,0)):=by rw [hW,←hg];exact heap_alloc_new w _
  intro i u hu
  rw [←hL] at hu
  match i,hu with
  |0,hu => have:wOn=u:=by simpa using hu
           subst this;exact cell_of_row W g 0 _ _ _ hb
  |1,hu => have:wAlways=u:=by simpa using hu
           subst this;exact cell_of_row W g 1 _ _ _ hb
  |2,hu => have:wAfter=u:=by simpa using hu
           subst this;exact cell_of_row W g 2 _ _ _ hb
  |i+3,hu=>simp at hu
 have hm:L.length=3:=by rw [←hL];rfl
 have HM:=h_ hm
 rw [hL]
 clear hL hm
 go_enter Tryz.func45,Tryz.ntmps45
 go_wp2_with fail
 rw [←hW]
 try rw [hg]
 clear hW hg
 go_loopw [4] (fun iv wr=>∃i:Nat,i≤3∧iv=.int .i64 (i:Int)∧Hid (∀(j:Nat) (u:List UInt8),j<i→L[j]?=some u→code≠0∨isTk 2 u t=false)∧Hid (Below w.heap.size w wr)∧Hid (Below W.heap.size W wr)) (fun iv _=>3-(intOf iv).toNat)
 case atStart=>exact ⟨0,Nat.zero_le _,rfl,fun j o h=>absurd h (Nat.not_lt_zero _),HBW,b_ _ _⟩
 case round =>
  obtain ⟨i,hi,rfl,HNO,HB,HBR⟩:=hrel
  by_cases him:i<3
  ·have him':(i:Int)<3:=by omega
   obtain ⟨u,hu⟩:∃u,L[i]?=some u:=⟨_,List.getElem?_eq_getElem (by rw [HM.out];exact him)⟩
   obtain ⟨X,hX⟩:∃X:ByteArray,X=⟨u.toArray⟩:=⟨_,rfl⟩
   have hXl:X.data.toList=u:=by rw [hX]
   have hXv:txV u=.string X:=by rw [hX];rfl
   have u1:wr.cell? ⟨g,i,none⟩=some (.string X):=by
    have:=HC.out i u hu
    rw [HBR.out.cell (World.block_lt_of_cell? W _ this),this,hXv]
   have HS:=h_ (HSG.out wr HB.out X)
   rw [hXl] at HS
   have HO:=h_ hu
   clear hX hXl hXv hu
   obtain ⟨dd,hdd⟩:∃dd,((code==0)&&isTk 2 u t)=dd:=⟨_,rfl⟩
   rw [hdd] at HS
   have HDD:=h_ hdd
   clear hdd
   go_wp2_with fail
   refine HS.out.mono ?_
   rintro e w3 ⟨rfl,hb3⟩
   have HB3:Hid (Below W.heap.size W w3):=HBR.out.trans (hb3.mono HBR.out.size)
   have HB4:Hid (Below w.heap.size w w3):=HB.out.trans (hb3.mono HB.out.size)
   clear hb3
   cases dd
   ·have HR:Hid (∀(j:Nat) (v:List UInt8),j<i+1→L[j]?=some v→code≠0∨isTk 2 v t=false):=fun j o' hj ho'=>by
     rcases Nat.lt_succ_iff_lt_or_eq.1 hj with h|rfl
     ·exact HNO.out j o' h ho'
     ·rw [HO.out] at ho'
      injection ho' with ho'
      subst ho'
      have:=HDD.out
      rw [Bool.and_eq_false_iff] at this
      rcases this with h|h
      ·exact .inl (by simpa using h)
      ·exact .inr h
    go_wp2_with fail
    go_roundw
    case rel=>exact ⟨i+1,by omega,by go_num,HR,HB4,HB3⟩
    case measure=>simp [intOf];omega
   ·have HR:Hid (kwN code t L=(i:Int)+1):=by
     show _=_
     have:=HDD.out
     rw [Bool.and_eq_true] at this
     have hc:code=0:=by simpa using this.1
     unfold kwN
     rw [if_pos hc,wordAt_yes HO.out this.2 (fun j x hj hx=>(HNO.out j x hj hx).resolve_left (fun h=>h hc))]
     omega
    go_wp2_with fail
    go_ret
    exact ⟨by rw [HR.out];rfl,HB4.out⟩
  ·have HR:Hid (kwN code t L=0):=by
    show _=_
    unfold kwN
    split
    ·rename_i hc
     rw [wordAt_none (fun j x hx=>(HNO.out j x (by
      have:=(List.getElem?_eq_some_iff.1 hx).1
      rw [HM.out] at this
      omega) hx).resolve_left (fun h=>h hc))]
     rfl
    ·rfl
   have him':¬(i:Int)<3:=by omega
   go_wp2_with fail
   go_ret
   exact ⟨by rw [HR.out];rfl,HB.out⟩
theorem xkind_any (w:World) (b:Nat) (r:Rv) (xs:List Tk) (t:Tk) (h:RvB w b r) (hA:TkAt w r.A r.n xs) (ht:xs[r.q]?=some t) :
  Calls Tryz.prog 47 #[.pointer (some ⟨b,0,none⟩)] w fun e w'=>e=.returned (.int .i64 (kwN r.code t [wState,wParallel,wHistory,wDeep]))∧Below w.heap.size w w':=by
 have HSG:=h_ (fun (w':World) (hb:Below w.heap.size w w') (S:ByteArray)=>xis_any w' b r xs t 2 S (h.below hb) (hA.below hb) ht)
 obtain ⟨code,hcode⟩:∃code,r.code=code:=⟨_,rfl⟩
 rw [hcode] at HSG ⊢
 clear h hA ht hcode
 obtain ⟨L,hL⟩:∃L,[wState,wParallel,wHistory,wDeep]=L:=⟨_,rfl⟩
 have HLL:=h_ hL
 obtain ⟨g,hg⟩:∃g,w.heap.size=g:=⟨_,rfl⟩
 obtain ⟨W,hW⟩:∃W,W=w.alloc (.cells #[.string ⟨#[115,116,97,116,101]⟩,.string ⟨#[112,97,114,97,108,108,101,108]⟩,.string ⟨#[104,105,115,116,111,114,121]⟩,.string ⟨#[100,101,101,112]⟩] 9):=⟨_,rfl⟩
 have HBW:Hid (Below w.heap.size w W):=by rw [hW];exact (b_ _ w).alloc (n_ _) _
 have HC:Hid (∀(i:Nat) (u:List UInt8),L[i]?=some u→W.cell? ⟨g,i,none⟩=some (txV u)):=by
  have hb:W.heap[g]?=some (.cells #[.string ⟨#[115,116,97,116,101]⟩,.string ⟨#[112,97,114,97,108,108,101,108]⟩,.string ⟨#[104,105,115,116,111,114,121]⟩,.string ⟨#[100,101,101,112]⟩] 9 (0,0)):=by rw [hW,←hg];exact heap_alloc_new w _
  intro i u hu
  rw [←hL] at hu
  match i,hu with
  |0,hu => have:wState=u:=by simpa using hu
           subst this;exact cell_of_row W g 0 _ _ _ hb
  |1,hu => have:wParallel=u:=by simpa using hu
           subst this;exact cell_of_row W g 1 _ _ _ hb
  |2,hu => have:wHistory=u:=by simpa using hu
           subst this;exact cell_of_row W g 2 _ _ _ hb
  |3,hu => have:wDeep=u:=by simpa using hu
           subst this;exact cell_of_row W g 3 _ _ _ hb
  |i+4,hu=>simp at hu
 have hm:L.length=4:=by rw [←hL];rfl
 have HM:=h_ hm
 rw [hL]
 clear hL hm
 go_enter Tryz.func47,Tryz.ntmps47
 go_wp2_with fail
 rw [←hW]
 try rw [hg]
 clear hW hg
 go_loopw [4] (fun iv wr=>∃i:Nat,i≤4∧iv=.int .i64 (i:Int)∧Hid (∀(j:Nat) (u:List UInt8),j<i→L[j]?=some u→code≠0∨isTk 2 u t=false)∧Hid (Below w.heap.size w wr)∧Hid (Below W.heap.size W wr)) (fun iv _=>4-(intOf iv).toNat)
 case atStart=>exact ⟨0,Nat.zero_le _,rfl,fun j o h=>absurd h (Nat.not_lt_zero _),HBW,b_ _ _⟩
 case round =>
  obtain ⟨i,hi,rfl,HNO,HB,HBR⟩:=hrel
  by_cases him:i<4
  ·have him':(i:Int)<4:=by omega
   obtain ⟨u,hu⟩:∃u,L[i]?=some u:=⟨_,List.getElem?_eq_getElem (by rw [HM.out];exact him)⟩
   obtain ⟨X,hX⟩:∃X:ByteArray,X=⟨u.toArray⟩:=⟨_,rfl⟩
   have hXl:X.data.toList=u:=by rw [hX]
   have hXv:txV u=.string X:=by rw [hX];rfl
   have u1:wr.cell? ⟨g,i,none⟩=some (.string X):=by
    have:=HC.out i u hu
    rw [HBR.out.cell (World.block_lt_of_cell? W _ this),this,hXv]
   have HS:=h_ (HSG.out wr HB.out X)
   rw [hXl] at HS
   have HO:=h_ hu
   clear hX hXl hXv hu
   obtain ⟨dd,hdd⟩:∃dd,((code==0)&&isTk 2 u t)=dd:=⟨_,rfl⟩
   rw [hdd] at HS
   have HDD:=h_ hdd
   clear hdd
   go_wp2_with fail
   refine HS.out.mono ?_
   rintro e w3 ⟨rfl,hb3⟩
   have HB3:Hid (Below W.heap.size W w3):=HBR.out.trans (hb3.mono HBR.out.size)
   have HB4:Hid (Below w.heap.size w w3):=HB.out.trans (hb3.mono HB.out.size)
   clear hb3
   cases dd
   ·have HR:Hid (∀(j:Nat) (v:List UInt8),j<i+1→L[j]?=some v→code≠0∨isTk 2 v t=false):=fun j o' hj ho'=>by
     rcases Nat.lt_succ_iff_lt_or_eq.1 hj with h|rfl
     ·exact HNO.out j o' h ho'
     ·rw [HO.out] at ho'
      injection ho' with ho'
      subst ho'
      have:=HDD.out
      rw [Bool.and_eq_false_iff] at this
      rcases this with h|h
      ·exact .inl (by simpa using h)
      ·exact .inr h
    go_wp2_with fail
    go_roundw
    case rel=>exact ⟨i+1,by omega,by go_num,HR,HB4,HB3⟩
    case measure=>simp [intOf];omega
   ·have HR:Hid (kwN code t L=(i:Int)+1):=by
     show _=_
     have:=HDD.out
     rw [Bool.and_eq_true] at this
     have hc:code=0:=by simpa using this.1
     unfold kwN
     rw [if_pos hc,wordAt_yes HO.out this.2 (fun j x hj hx=>(HNO.out j x hj hx).resolve_left (fun h=>h hc))]
     omega
    go_wp2_with fail
    go_ret
    exact ⟨by rw [HR.out];rfl,HB4.out⟩
  ·have HR:Hid (kwN code t L=0):=by
    show _=_
    unfold kwN
    split
    ·rename_i hc
     rw [wordAt_none (fun j x hx=>(HNO.out j x (by
      have:=(List.getElem?_eq_some_iff.1 hx).1
      rw [HM.out] at this
      omega) hx).resolve_left (fun h=>h hc))]
     rfl
    ·rfl
   have him':¬(i:Int)<4:=by omega
   go_wp2_with fail
   go_ret
   exact ⟨by rw [HR.out];rfl,HB.out⟩
end Go.Proofs.YtcddbfdbhjkjgaaGreatDoor
