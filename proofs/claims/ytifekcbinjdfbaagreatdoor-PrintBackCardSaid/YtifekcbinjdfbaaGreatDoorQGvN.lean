import Derived.Test.YtifekcbinjdfbaaGreatDoorQh
import Derived.Test.YtifekcbinjdfbaaGreatDoorQGeC
set_option maxHeartbeats 12800000
set_option maxRecDepth 20000
namespace Go.Proofs.YtifekcbinjdfbaaGreatDoor
open Go.RowKit
theorem node_v {w:World} {k p:Int} {nm ini dft:List UInt8} {en le:List GA} {mo:List GM} {ks:List GN} {xs:List Value} (h:DxsAt w (gNode (.mk k nm ini dft en le mo ks p)) xs) :
  ∃(A1 A2 A3 A4:Option Addr) (c1 c2 c3 c4:Nat),xs=[.int .i64 k,txV nm,txV ini,txV dft,.slice A1 en.length c1,.slice A2 le.length c2,.slice A3 mo.length c3,.slice A4 ks.length c4,.int .i64 p] /\
   DxAt w (gActs en) (.slice A1 en.length c1)/\DxAt w (gActs le) (.slice A2 le.length c2)/\DxAt w (gMoves mo) (.slice A3 mo.length c3)/\DxAt w (gKids ks) (.slice A4 ks.length c4):=by
 have h':DxsAt w (gNode (.mk k nm ini dft en le mo ks p)++[]) xs:=by rw [List.append_nil];exact h
 obtain ⟨A1,A2,A3,A4,c1,c2,c3,c4,ys,rfl,h1,h2,h3,h4,h5⟩:=node_vals' h';unfold DxsAt at h5;subst h5;exact ⟨A1,A2,A3,A4,c1,c2,c3,c4,rfl,h1,h2,h3,h4⟩
def SGN (x:GN):Prop:=∀(y:GN) (pl:Bool) (w:World) (xs ys:List Value),DxsAt w (gNode x) xs->DxsAt w (gNode y) ys->nX pl x y ->
 Calls Tryz.prog 21 #[.agg xs.toArray,.agg ys.toArray,.bool pl] w λ e w'=>e=.returned (.bool true)/\Below w.heap.size w w'
theorem samenode_g (k p:Int) (nm ini dft:List UInt8) (en le:List GA) (mo:List GM) (ks:List GN) (ih:∀(i:Nat) (a:GN),ks[i]?=some a->SGN a):SGN (.mk k nm ini dft en le mo ks p):=by
 intro y pl w xs ys h h' hg;obtain ⟨k',nm',ini',dft',qen,qle,qmo,qks,qp⟩:=y;unfold nX at hg;obtain ⟨rfl,rfl,rfl,rfl,s5,s6,s7,s8,s9⟩:=hg;obtain ⟨A1,A2,A3,A4,Ac1,Ac2,Ac3,Ac4,rfl,a1,a2,a3,a4⟩:=node_v h;obtain ⟨B1,B2,B3,B4,Bc1,Bc2,Bc3,Bc4,rfl,b1,b2,b3,b4⟩:=node_v h';obtain ⟨N,hN⟩:=str_of nm;obtain ⟨I,hI⟩:=str_of ini;obtain ⟨D,hD⟩:=str_of dft;rw [hN,hI,hD];have l5:=s5.1;have l6:=s6.1;have l7:=s7.1;have l8:=nsX_len s8
 obtain ⟨g1,hg1⟩:∃g,g=w.heap.size:=⟨_,rfl⟩
 obtain ⟨g2,hg2⟩:∃g,g=w.heap.size+1:=⟨_,rfl⟩
 obtain ⟨Wa,hWa⟩:∃W,W=w.alloc (.cells #[.int .i64 k,.string N,.string I,.string D,.slice A1 en.length Ac1,.slice A2 le.length Ac2,.slice A3 mo.length Ac3,.slice A4 ks.length Ac4,.int .i64 p] 27):=⟨_,rfl⟩
 obtain ⟨W0,hW0⟩:∃W,W=Wa.alloc (.cells #[.int .i64 k,.string N,.string I,.string D,.slice B1 qen.length Bc1,.slice B2 qle.length Bc2,.slice B3 qmo.length Bc3,.slice B4 qks.length Bc4,.int .i64 qp] 27):=⟨_,rfl⟩
 have hsa:Wa.heap.size=w.heap.size+1:=by rw [hWa];simp
 have HX:Hid (CB W0 g1 27 [.int .i64 k,.string N,.string I,.string D,.slice A1 en.length Ac1,.slice A2 le.length Ac2,.slice A3 mo.length Ac3,.slice A4 ks.length Ac4,.int .i64 p]):=by rw [hW0,hWa,hg1];exact (CB.new w _ [.int .i64 k,.string N,.string I,.string D,.slice A1 en.length Ac1,.slice A2 le.length Ac2,.slice A3 mo.length Ac3,.slice A4 ks.length Ac4,.int .i64 p]).alloc _
 have HY:Hid (CB W0 g2 27 [.int .i64 k,.string N,.string I,.string D,.slice B1 qen.length Bc1,.slice B2 qle.length Bc2,.slice B3 qmo.length Bc3,.slice B4 qks.length Bc4,.int .i64 qp]):=by
  have:=CB.new Wa 27 [.int .i64 k,.string N,.string I,.string D,.slice B1 qen.length Bc1,.slice B2 qle.length Bc2,.slice B3 qmo.length Bc3,.slice B4 qks.length Bc4,.int .i64 qp];rw [hsa,<-hg2] at this;rw [hW0];exact this
 have HB:Hid (Below w.heap.size w W0):=by rw [hW0,hWa];exact ((b_ _ w).alloc (n_ _) _).alloc (by simp) _
 have HC1:=h_ (sameacts_g W0 pl en qen _ _ (a1.below HB.out) (b1.below HB.out) s5);have HC2:=h_ (λ (W:World) (hb:Below w.heap.size w W)=>sameacts_g W pl le qle _ _ (a2.below hb) (b2.below hb) s6);have HMO:=h_ (And.intro a3 (And.intro b3 s7.2));have HKS:=h_ (And.intro a4 (And.intro b4 s8));have HIH:=h_ ih
 have HMX:Hid (mo.length<=9223372036854775807/\ks.length<=9223372036854775807):=by
  obtain ⟨_,_,e1,f1,f2⟩:=DxAt.slice (show DxAt w (.row 43 13 mo.length _) _ from a3);obtain ⟨_,_,e2,f3,f4⟩:=DxAt.slice (show DxAt w (.row 27 9 ks.length _) _ from a4)
  have:maxLen<=9223372036854775807:=by decide
  exact ⟨by omega,by omega⟩
 have HL7:=h_ l7;have HL8:=h_ l8
 have e7:((mo.length:Int) != qmo.length)=false:=by rw [l7];simp
 have e8:((ks.length:Int) != qks.length)=false:=by rw [l8];simp
 have S9:=h_ s9;have x0:=HX.out.c 0 rfl;have x1:=HX.out.c 1 rfl;have x2:=HX.out.c 2 rfl;have x3:=HX.out.c 3 rfl;have x4:=HX.out.c 4 rfl;have x6:=HX.out.c 6 rfl;have x7:=HX.out.c 7 rfl;have x8:=HX.out.c 8 rfl;have y0:=HY.out.c 0 rfl;have y1:=HY.out.c 1 rfl;have y2:=HY.out.c 2 rfl;have y3:=HY.out.c 3 rfl;have y4:=HY.out.c 4 rfl;have y6:=HY.out.c 6 rfl;have y7:=HY.out.c 7 rfl;have y8:=HY.out.c 8 rfl;clear h h' s5 s6 s7 s8 s9 l5 l6 l7 l8 a1 a2 a3 a4 b1 b2 b3 b4 hN hI hD hsa ih;go_enter Tryz.func21,Tryz.ntmps21;go_upto_region 1 with fail;rw [<-hWa,<-hW0,<-hg2,<-hg1];clear hWa hW0 hg2 hg1
 go_cut [66] from 13 to 66 (λ s66 wr=>s66=.bool false/\W0=wr)
 case first =>
  cases pl
  ·go_wp2_with fail
   go_meet
   exact ⟨rfl,rfl⟩
  ·have q5:(p != qp)=false:=by rw [S9.out rfl];simp
   go_wp2_with fail
   go_meet
   exact ⟨rfl,rfl⟩
 case rest =>
 obtain ⟨rfl,rfl⟩:=hcut;clear x0 x1 x2 x3 x6 x7 x8 y0 y1 y2 y3 y6 y7 y8 e7 e8;go_wp2_with fail;refine HC1.out.mono ?_;rintro e w1 ⟨rfl,hb⟩;have HX1:=h_ (HX.out.below hb);have HY1:=h_ (HY.out.below hb);have HB1:=h_ (HB.out.trans (hb.mono HB.out.size));have HCA:=h_ (HC2.out w1 HB1.out);have x5:=HX1.out.c 5 rfl;have y5:=HY1.out.c 5 rfl;clear hb HC1 HC2 HX HY HB x4 y4;go_wp2_with fail;refine HCA.out.mono ?_;rintro e w2 ⟨rfl,hb⟩;have HX2:=h_ (HX1.out.below hb);have HY2:=h_ (HY1.out.below hb);have HB2:=h_ (HB1.out.trans (hb.mono HB1.out.size));clear hb HCA HX1 HY1 HB1 x5 y5;go_wp2_with fail
 go_loopw [9] (λ iv wr=>∃i:Nat,i<=mo.length/\iv=.int .i64 (i:Int)/\Hid (Below w.heap.size w wr)/\Hid (CB wr g1 27 [.int .i64 k,.string N,.string I,.string D,.slice A1 en.length Ac1,.slice A2 le.length Ac2,.slice A3 mo.length Ac3,.slice A4 ks.length Ac4,.int .i64 p])/\Hid (CB wr g2 27 [.int .i64 k,.string N,.string I,.string D,.slice B1 qen.length Bc1,.slice B2 qle.length Bc2,.slice B3 qmo.length Bc3,.slice B4 qks.length Bc4,.int .i64 qp])) (λ iv _=>mo.length-(intOf iv).toNat)
 case atStart=>exact ⟨0,Nat.zero_le _,rfl,HB2,HX2,HY2⟩
 case round =>
  obtain ⟨i,hi,rfl,HBW,HXW,HYW⟩:=hrel;have x6:=HXW.out.c 6 rfl;have y6:=HYW.out.c 6 rfl
  by_cases him:i<mo.length
  ·have him':(i:Int)<mo.length:=by omega
   have HIM:=h_ him
   have him2:(i:Int)<qmo.length:=by rw [<-HL7.out];exact him'
   have him3:i<qmo.length:=by rw [<-HL7.out];exact him
   obtain ⟨a,ha⟩:∃a,mo[i]?=some a:=⟨_,List.getElem?_eq_getElem him⟩
   obtain ⟨b,hb⟩:∃b,qmo[i]?=some b:=⟨_,List.getElem?_eq_getElem (by rw [<-HL7.out];exact him)⟩
   have hab:=HMO.out.2.2 i a b ha hb;obtain ⟨g,og,c,ys,hv,_,_,hg,hy,_,hyc⟩:=DxAt.elem (f:=gMove) (k:=13) gMove_len (by decide) (show DxAt w (.row 43 13 mo.length (mo.flatMap gMove)) _ from HMO.out.1) ha;obtain ⟨g',og',c',zs,hv',_,_,hg',hz,_,hzc⟩:=DxAt.elem (f:=gMove) (k:=13) gMove_len (by decide) (show DxAt w (.row 43 13 qmo.length (qmo.flatMap gMove)) _ from HMO.out.2.1) hb
   obtain rfl:A3=some ⟨g,og,none⟩:=by injection hv
   obtain rfl:B3=some ⟨g',og',none⟩:=by injection hv'
   obtain ⟨me,mA,mT,mc,md,rfl,_,ma,mt⟩:=move_vals' hy;obtain ⟨qe,qA,qT,qc,qd,rfl,_,qa,qt⟩:=move_vals' hz;have HCM:=h_ (λ (W:World) (hbw:Below w.heap.size w W)=>samemove_g W pl a b _ _ (hy.below hbw) (hz.below hbw) hab);obtain ⟨EX,hEX⟩:=str_of a.event;obtain ⟨EY,hEY⟩:=str_of b.event;rw [hEX,hEY] at HCM;rw [hEX] at hyc;rw [hEY] at hzc
   have kb:∀{p:Addr} {u:Value},w.cell? p=some u->wr.cell? p=some u:=λ hc=>by rw [World.cell?_of_block (HBW.out.block _ (World.block_lt_of_cell? w _ hc))];exact hc
   have u0:wr.cell? ⟨g,og+i*13,none⟩=_:=kb (hyc 0 _ rfl);have v0:wr.cell? ⟨g',og' + i*13,none⟩=_:=kb (hzc 0 _ rfl);have u1:=kb (hyc 1 _ rfl);have v1:=kb (hzc 1 _ rfl);have u2:=kb (hyc 2 _ rfl);have v2:=kb (hzc 2 _ rfl);have u3:=kb (hyc 3 _ rfl);have v3:=kb (hzc 3 _ rfl);have u4:=kb (hyc 4 _ rfl);have v4:=kb (hzc 4 _ rfl);have u5:=kb (hyc 5 _ rfl);have v5:=kb (hzc 5 _ rfl);have u6:=kb (hyc 6 _ rfl);have v6:=kb (hzc 6 _ rfl);have u7:=kb (hyc 7 _ rfl);have v7:=kb (hzc 7 _ rfl);have u8:=kb (hyc 8 _ rfl);have v8:=kb (hzc 8 _ rfl);have u9:=kb (hyc 9 _ rfl);have v9:=kb (hzc 9 _ rfl);have u10:=kb (hyc 10 _ rfl);have v10:=kb (hzc 10 _ rfl);have u11:=kb (hyc 11 _ rfl);have v11:=kb (hzc 11 _ rfl);have u12:=kb (hyc 12 _ rfl);have v12:=kb (hzc 12 _ rfl);clear kb hyc hzc ma mt qa qt hy hz hab ha hb hv hv' hEX hEY hg hg';go_wp2_with fail
   go_still_tail 11,(by kernel_rfl)
   change wpList _ _ _ _ _ (World.drew wr)
   obtain ⟨W1,hW1⟩:∃W1,W1=wr.drew:=⟨_,rfl⟩
   have HBW1:Hid (Below w.heap.size w W1):=by rw [hW1];exact HBW.out.trans (b_ _ wr).drew
   have HXW1:Hid (CB W1 g1 27 [.int .i64 k,.string N,.string I,.string D,.slice A1 en.length Ac1,.slice A2 le.length Ac2,.slice (some ⟨g,og,none⟩) mo.length Ac3,.slice A4 ks.length Ac4,.int .i64 p]):=by rw [hW1];exact HXW.out
   have HYW1:Hid (CB W1 g2 27 [.int .i64 k,.string N,.string I,.string D,.slice B1 qen.length Bc1,.slice B2 qle.length Bc2,.slice (some ⟨g',og',none⟩) qmo.length Bc3,.slice B4 qks.length Bc4,.int .i64 qp]):=by rw [hW1];exact HYW.out
   have HCC:=h_ (HCM.out W1 HBW1.out);rw [<-hW1];clear hW1 HCM HBW HXW HYW x6 y6 u0 v0 u1 v1 u2 v2 u3 v3 u4 v4 u5 v5 u6 v6 u7 v7 u8 v8 u9 v9 u10 v10 u11 v11 u12 v12;go_wp2_with fail;refine HCC.out.mono ?_;rintro e w4 ⟨rfl,hb⟩;have HBW4:=h_ (HBW1.out.trans (hb.mono HBW1.out.size));have HXW4:=h_ (HXW1.out.below hb);have HYW4:=h_ (HYW1.out.below hb);clear hb HCC HBW1 HXW1 HYW1;go_wp2_with fail
   go_roundw
   case rel=>exact ⟨i+1,by have:=HIM.out;omega,by have h1:=HIM.out;have h2:=HMX.out;rw [Go.IntWalk.wrap64_in _ ⟨by omega,by omega⟩];rfl,HBW4,HXW4,HYW4⟩
   case measure=>have h1:=HIM.out;have h2:=HMX.out;rw [Go.IntWalk.wrap64_in _ ⟨by omega,by omega⟩];simp [intOf];omega
  have him':¬(i:Int)<mo.length:=by omega
  clear hi him;go_wp2_with fail;clear x6 y6
  go_loopw [11] (λ iv wr=>∃i:Nat,i<=ks.length/\iv=.int .i64 (i:Int)/\Hid (Below w.heap.size w wr)/\Hid (CB wr g1 27 [.int .i64 k,.string N,.string I,.string D,.slice A1 en.length Ac1,.slice A2 le.length Ac2,.slice A3 mo.length Ac3,.slice A4 ks.length Ac4,.int .i64 p])/\Hid (CB wr g2 27 [.int .i64 k,.string N,.string I,.string D,.slice B1 qen.length Bc1,.slice B2 qle.length Bc2,.slice B3 qmo.length Bc3,.slice B4 qks.length Bc4,.int .i64 qp])) (λ iv _=>ks.length-(intOf iv).toNat)
  case atStart=>exact ⟨0,Nat.zero_le _,rfl,HBW,HXW,HYW⟩
  case round =>
   obtain ⟨i,hi,rfl,HBW,HXW,HYW⟩:=hrel;have x7:=HXW.out.c 7 rfl;have y7:=HYW.out.c 7 rfl
   by_cases him:i<ks.length
   ·have him':(i:Int)<ks.length:=by omega
    have HIM:=h_ him
    have him2:(i:Int)<qks.length:=by rw [<-HL8.out];exact him'
    have him3:i<qks.length:=by rw [<-HL8.out];exact him
    obtain ⟨a,ha⟩:∃a,ks[i]?=some a:=⟨_,List.getElem?_eq_getElem him⟩
    obtain ⟨b,hb⟩:∃b,qks[i]?=some b:=⟨_,List.getElem?_eq_getElem him3⟩
    have hab:=nsX_get HKS.out.2.2 i a b ha hb;have hih:=HIH.out i a ha;have hk1:=HKS.out.1;have hk2:=HKS.out.2.1;unfold gKids at hk1 hk2;rw [gNodes_flat] at hk1 hk2;obtain ⟨g,og,c,ys,hv,_,_,hg,hy,_,hyc⟩:=DxAt.elem (f:=gNode) (k:=9) gNode_len (by decide) hk1 ha;obtain ⟨g',og',c',zs,hv',_,_,hg',hz,_,hzc⟩:=DxAt.elem (f:=gNode) (k:=9) gNode_len (by decide) hk2 hb
    obtain rfl:A4=some ⟨g,og,none⟩:=by injection hv
    obtain rfl:B4=some ⟨g',og',none⟩:=by injection hv'
    have HCM0:=λ (W:World) (hbw:Below w.heap.size w W)=>hih b pl W _ _ (hy.below hbw) (hz.below hbw) hab;obtain ⟨ka,na,ia,da,ea,la,ma,sa,pa⟩:=a;obtain ⟨kb',nb,ib,db,eb,lb,mb,sb,pb⟩:=b;obtain ⟨E1,E2,E3,E4,Ec1,Ec2,Ec3,Ec4,rfl,_⟩:=node_v hy;obtain ⟨D1,D2,D3,D4,Dc1,Dc2,Dc3,Dc4,rfl,_⟩:=node_v hz;obtain ⟨P1,hP1⟩:=str_of na;obtain ⟨P2,hP2⟩:=str_of ia;obtain ⟨P3,hP3⟩:=str_of da;obtain ⟨R1,hR1⟩:=str_of nb;obtain ⟨R2,hR2⟩:=str_of ib;obtain ⟨R3,hR3⟩:=str_of db;rw [hP1,hP2,hP3,hR1,hR2,hR3] at HCM0;rw [hP1,hP2,hP3] at hyc;rw [hR1,hR2,hR3] at hzc;have HCM:=h_ HCM0
    have kb:∀{p:Addr} {u:Value},w.cell? p=some u->wr.cell? p=some u:=λ hc=>by rw [World.cell?_of_block (HBW.out.block _ (World.block_lt_of_cell? w _ hc))];exact hc
    have u0:wr.cell? ⟨g,og+i*9,none⟩=_:=kb (hyc 0 _ rfl);have v0:wr.cell? ⟨g',og' + i*9,none⟩=_:=kb (hzc 0 _ rfl);have u1:=kb (hyc 1 _ rfl);have v1:=kb (hzc 1 _ rfl);have u2:=kb (hyc 2 _ rfl);have v2:=kb (hzc 2 _ rfl);have u3:=kb (hyc 3 _ rfl);have v3:=kb (hzc 3 _ rfl);have u4:=kb (hyc 4 _ rfl);have v4:=kb (hzc 4 _ rfl);have u5:=kb (hyc 5 _ rfl);have v5:=kb (hzc 5 _ rfl);have u6:=kb (hyc 6 _ rfl);have v6:=kb (hzc 6 _ rfl);have u7:=kb (hyc 7 _ rfl);have v7:=kb (hzc 7 _ rfl);have u8:=kb (hyc 8 _ rfl);have v8:=kb (hzc 8 _ rfl);clear kb hyc hzc hy hz hab ha hb hv hv' hg hg' hk1 hk2 hih HCM0 hP1 hP2 hP3 hR1 hR2 hR3;go_wp2_with fail
    go_still_tail 11,(by kernel_rfl)
    change wpList _ _ _ _ _ (World.drew wr)
    obtain ⟨W1,hW1⟩:∃W1,W1=wr.drew:=⟨_,rfl⟩
    have HBW1:Hid (Below w.heap.size w W1):=by rw [hW1];exact HBW.out.trans (b_ _ wr).drew
    have HXW1:Hid (CB W1 g1 27 [.int .i64 k,.string N,.string I,.string D,.slice A1 en.length Ac1,.slice A2 le.length Ac2,.slice A3 mo.length Ac3,.slice (some ⟨g,og,none⟩) ks.length Ac4,.int .i64 p]):=by rw [hW1];exact HXW.out
    have HYW1:Hid (CB W1 g2 27 [.int .i64 k,.string N,.string I,.string D,.slice B1 qen.length Bc1,.slice B2 qle.length Bc2,.slice B3 qmo.length Bc3,.slice (some ⟨g',og',none⟩) qks.length Bc4,.int .i64 qp]):=by rw [hW1];exact HYW.out
    have HCC:=h_ (HCM.out W1 HBW1.out);rw [<-hW1];clear hW1 HCM HBW HXW HYW x7 y7 u0 v0 u1 v1 u2 v2 u3 v3 u4 v4 u5 v5 u6 v6 u7 v7 u8 v8;go_wp2_with fail;refine HCC.out.mono ?_;rintro e w4 ⟨rfl,hb⟩;have HBW4:=h_ (HBW1.out.trans (hb.mono HBW1.out.size));have HXW4:=h_ (HXW1.out.below hb);have HYW4:=h_ (HYW1.out.below hb);clear hb HCC HBW1 HXW1 HYW1;go_wp2_with fail
    go_roundw
    case rel=>exact ⟨i+1,by have:=HIM.out;omega,by have h1:=HIM.out;have h2:=HMX.out;rw [Go.IntWalk.wrap64_in _ ⟨by omega,by omega⟩];rfl,HBW4,HXW4,HYW4⟩
    case measure=>have h1:=HIM.out;have h2:=HMX.out;rw [Go.IntWalk.wrap64_in _ ⟨by omega,by omega⟩];simp [intOf];omega
   ·have him':¬(i:Int)<ks.length:=by omega
    go_wp2_with fail;go_ret;exact ⟨rfl,HBW.out⟩
theorem toArr {X:ByteArray} {l:List UInt8} (h:txV l=.string X):X.data.toList=l:=by
 have:X=⟨l.toArray⟩:=by injection h with h;exact h.symm
 rw [this]
theorem dec_beq (a b:Int):decide (a=b)=(a==b):=by
 by_cases h:a=b
 ·rw [h];simp
 ·rw [decide_eq_false h];simp [h]
theorem len_beq {α:Type} (l:List α):l.isEmpty=((l.length:Int)==0):=by
 cases l with
 |nil=>rfl
 |cons a l =>
  have:((a::l).length:Int)≠0:=by rw [List.length_cons];omega
  show false=_
  symm
  exact beq_eq_false_iff_ne.2 this
theorem nothing_any (w:World) (x:GX) (ev:EV) (hg:GV w 0 w.heap.size x ev) :
  Calls Tryz.prog 173 #[.agg #[.int .i64 ev.kind,.int .i64 ev.num,.string ev.name,.int .i64 ev.op,.slice ev.A ev.len ev.cap,.int .i64 ev.p]] w λ e w'=>e=.returned (.bool (nothing x))/\Below w.heap.size w w':=by
 obtain ⟨W1,hW1⟩:∃W,W=w.alloc (.cells #[.int .i64 ev.kind,.int .i64 ev.num,.string ev.name,.int .i64 ev.op,.slice ev.A ev.len ev.cap,.int .i64 ev.p] 40):=⟨_,rfl⟩
 obtain ⟨g1,hg1⟩:∃g,g=w.heap.size:=⟨_,rfl⟩
 have HB:Hid (Below w.heap.size w W1):=by rw [hW1];exact (b_ _ w).alloc (n_ _) _
 have HX:Hid (CB W1 g1 40 [.int .i64 ev.kind,.int .i64 ev.num,.string ev.name,.int .i64 ev.op,.slice ev.A ev.len ev.cap,.int .i64 ev.p]):=by rw [hW1,hg1];exact CB.new w _ [.int .i64 ev.kind,.int .i64 ev.num,.string ev.name,.int .i64 ev.op,.slice ev.A ev.len ev.cap,.int .i64 ev.p]
 have hR:nothing x=((ev.kind==0)&&(ev.num==0)&&ev.name.toList.isEmpty&&(ev.op==0)&&((ev.len:Int)==0)):=by
  obtain ⟨a1,a2,a3,a4,a5,a6,_⟩:=hg.out;unfold nothing;rw [dec_beq,dec_beq,dec_beq,len_beq x.subs,<-a1,<-a2,<-a3,<-a4,<-a6,Lib.toList_data]
 obtain ⟨q1,hq1⟩:∃q:Bool,(ev.kind==0)=q:=⟨_,rfl⟩
 obtain ⟨q2,hq2⟩:∃q:Bool,(ev.num==0)=q:=⟨_,rfl⟩
 obtain ⟨q3,hq3⟩:∃q:Bool,(ev.name.toList.isEmpty)=q:=⟨_,rfl⟩
 obtain ⟨q4,hq4⟩:∃q:Bool,(ev.op==0)=q:=⟨_,rfl⟩
 obtain ⟨q5,hq5⟩:∃q:Bool,((ev.len:Int)==0)=q:=⟨_,rfl⟩
 rw [hq1,hq2,hq3,hq4,hq5] at hR;have HR:=h_ hR;have z0:=HX.out.c 0 rfl;have z1:=HX.out.c 1 rfl;have z2:=HX.out.c 2 rfl;have z3:=HX.out.c 3 rfl;have z4:=HX.out.c 4 rfl;clear hR hg;go_enter Tryz.func173,Tryz.ntmps173;go_upto_region 1 with fail;rw [<-hW1,<-hg1];clear hW1 hg1;cases q1
 ·go_wp2_with fail;go_ret;exact ⟨by rw [HR.out];rfl,HB.out⟩
 ·cases q2
  ·go_wp2_with fail;go_ret;exact ⟨by rw [HR.out];rfl,HB.out⟩
  ·cases q3
   ·go_wp2_with fail;go_ret;exact ⟨by rw [HR.out];rfl,HB.out⟩
   ·cases q4
    ·go_wp2_with fail;go_ret;exact ⟨by rw [HR.out];rfl,HB.out⟩
    ·cases q5
     ·go_wp2_with fail;go_ret;exact ⟨by rw [HR.out];rfl,HB.out⟩
     ·go_wp2_with fail;go_ret;exact ⟨by rw [HR.out];rfl,HB.out⟩
theorem isvar_any (w:World) (v:SyVar) (X:ByteArray) (hX:txV v.name=.string X) (hr:v.rng) (hK:KwAt w) :
  Calls Tryz.prog 35 #[.agg #[.string X,.int .i64 v.num,.int .i64 v.at_]] w λ e w'=>e=.returned (.bool (okV v))/\Below w.heap.size w w':=by
 obtain ⟨W1,hW1⟩:∃W,W=w.alloc (.cells #[.string X,.int .i64 v.num,.int .i64 v.at_] 63):=⟨_,rfl⟩
 obtain ⟨g1,hg1⟩:∃g,g=w.heap.size:=⟨_,rfl⟩
 have HB:Hid (Below w.heap.size w W1):=by rw [hW1];exact (b_ _ w).alloc (n_ _) _
 have HX:Hid (CB W1 g1 63 [.string X,.int .i64 v.num,.int .i64 v.at_]):=by rw [hW1,hg1];exact CB.new w _ [.string X,.int .i64 v.num,.int .i64 v.at_]
 have hS:X.size<=140737488351232:=by
  have h1:=hr.1;rw [<-toArr hX] at h1;exact h1
 have HN:=h_ (name_any X W1 hS (hK.below HB.out));rw [toArr hX] at HN
 have hR:okV v=(isNm v.name&&(v.num != -9223372036854775808)):=by
  unfold okV
  congr 1
  by_cases h:v.num=-9223372036854775808
  ·rw [h];decide
  ·rw [decide_eq_true h];simp [h]
 obtain ⟨q1,hq1⟩:∃q:Bool,(isNm v.name)=q:=⟨_,rfl⟩
 obtain ⟨q2,hq2⟩:∃q:Bool,(v.num != -9223372036854775808)=q:=⟨_,rfl⟩
 rw [hq1,hq2] at hR;rw [hq1] at HN;have HR:=h_ hR;have z0:=HX.out.c 0 rfl;have z1:=HX.out.c 1 rfl;clear hR hX hr hK hS;go_enter Tryz.func35,Tryz.ntmps35;go_upto_region 1 with fail;rw [<-hW1,<-hg1];clear hW1 hg1;cases q1
 ·go_wp2_with fail;refine HN.out.mono ?_;rintro e w2 ⟨rfl,rfl⟩;go_wp2_with fail;go_ret;exact ⟨by rw [HR.out];rfl,HB.out⟩
 ·cases q2
  ·go_wp2_with fail;refine HN.out.mono ?_;rintro e w2 ⟨rfl,rfl⟩;go_wp2_with fail;go_ret;exact ⟨by rw [HR.out];rfl,HB.out⟩
  ·go_wp2_with fail;refine HN.out.mono ?_;rintro e w2 ⟨rfl,rfl⟩;go_wp2_with fail;go_ret;exact ⟨by rw [HR.out];rfl,HB.out⟩
theorem isact_any (w:World) (a:GA) (ev:EV) (X:ByteArray) (hX:txV a.name=.string X) (hg:GV w 0 w.heap.size a.val ev) (hr:a.rng) (hE:Ee w) :
  Calls Tryz.prog 137 #[.agg #[.int .i64 a.kind,.string X,.int .i64 ev.kind,.int .i64 ev.num,.string ev.name,.int .i64 ev.op,.slice ev.A ev.len ev.cap,.int .i64 ev.p,.int .i64 a.at_]] w λ e w'=>e=.returned (.bool (okA a))/\Below w.heap.size w w':=by
 obtain ⟨W1,hW1⟩:∃W,W=w.alloc (.cells #[.int .i64 a.kind,.string X,.int .i64 ev.kind,.int .i64 ev.num,.string ev.name,.int .i64 ev.op,.slice ev.A ev.len ev.cap,.int .i64 ev.p,.int .i64 a.at_] 121):=⟨_,rfl⟩
 obtain ⟨g1,hg1⟩:∃g,g=w.heap.size:=⟨_,rfl⟩
 have HB:Hid (Below w.heap.size w W1):=by rw [hW1];exact (b_ _ w).alloc (n_ _) _
 have HX:Hid (CB W1 g1 121 [.int .i64 a.kind,.string X,.int .i64 ev.kind,.int .i64 ev.num,.string ev.name,.int .i64 ev.op,.slice ev.A ev.len ev.cap,.int .i64 ev.p,.int .i64 a.at_]):=by rw [hW1,hg1];exact CB.new w _ [.int .i64 a.kind,.string X,.int .i64 ev.kind,.int .i64 ev.num,.string ev.name,.int .i64 ev.op,.slice ev.A ev.len ev.cap,.int .i64 ev.p,.int .i64 a.at_]
 have hS:X.size<=140737488351232:=by
  have h1:=hr.1;rw [<-toArr hX] at h1;exact h1
 have HN:=h_ (name_any X W1 hS (hE.vr.kw.below HB.out));rw [toArr hX] at HN;have hg1':GV W1 0 W1.heap.size a.val ev:=(GV.below hg HB.out (n_ _)).mono (n_ 0) HB.out.size;have HRI:=h_ (eright_any W1 a.val ev (hE.below HB.out).wv hr.2 hg1');simp only [EV.val] at HRI;have HNO:=h_ (nothing_any W1 a.val ev hg1')
 obtain ⟨q1,hq1⟩:∃q:Bool,(isNm a.name)=q:=⟨_,rfl⟩
 rw [hq1] at HN;clear hg1' hg hr hE hX hS
 by_cases k1:a.kind=1∨a.kind=2∨a.kind=3
 rcases k1 with hK|hK|hK
 ·have hR:okA a=(isNm a.name&&a.val.right.isSome):=by
   unfold okA;rw [if_pos (by rw [hK];decide)]
  obtain ⟨q2,hq2⟩:∃q:Bool,a.val.right.isSome=q:=⟨_,rfl⟩
  rw [hq1,hq2] at hR;rw [hq2] at HRI;have HR:=h_ hR;rw [hK] at HX;have z0:=HX.out.c 0 rfl;have z1:=HX.out.c 1 rfl;have z2:=HX.out.c 2 rfl;have z3:=HX.out.c 3 rfl;have z4:=HX.out.c 4 rfl;have z5:=HX.out.c 5 rfl;have z6:=HX.out.c 6 rfl;have z7:=HX.out.c 7 rfl;rw [hK] at hW1 ⊢;clear hR hK hq2 hq1;go_enter Tryz.func137,Tryz.ntmps137;go_upto_region 1 with fail;rw [<-hW1,<-hg1];clear hW1 hg1;cases q1
  ·go_wp2_with fail;refine HN.out.mono ?_;rintro e w2 ⟨rfl,rfl⟩;go_wp2_with fail;go_ret;exact ⟨by rw [HR.out];rfl,HB.out⟩
  ·go_wp2_with fail;refine HN.out.mono ?_;rintro e w2 ⟨rfl,rfl⟩;go_wp2_with fail;refine HRI.out.mono ?_;rintro e w3 ⟨rfl,hb⟩;have HB3:=h_ (HB.out.trans (hb.mono HB.out.size));clear hb HN HRI HX;go_wp2_with fail;go_ret;exact ⟨by rw [HR.out];cases q2 <;> rfl,HB3.out⟩
 ·have hR:okA a=(isNm a.name&&nothing a.val):=by
   unfold okA;rw [if_neg (by rw [hK];decide),hK];rfl
  obtain ⟨q2,hq2⟩:∃q:Bool,nothing a.val=q:=⟨_,rfl⟩
  rw [hq1,hq2] at hR;rw [hq2] at HNO;have HR:=h_ hR;rw [hK] at HX;have z0:=HX.out.c 0 rfl;have z1:=HX.out.c 1 rfl;have z2:=HX.out.c 2 rfl;have z3:=HX.out.c 3 rfl;have z4:=HX.out.c 4 rfl;have z5:=HX.out.c 5 rfl;have z6:=HX.out.c 6 rfl;have z7:=HX.out.c 7 rfl;rw [hK] at hW1 ⊢;clear hR hK hq2 hq1;go_enter Tryz.func137,Tryz.ntmps137;go_upto_region 1 with fail;rw [<-hW1,<-hg1];clear hW1 hg1;cases q1
  ·go_wp2_with fail;refine HN.out.mono ?_;rintro e w2 ⟨rfl,rfl⟩;go_wp2_with fail;go_ret;exact ⟨by rw [HR.out];rfl,HB.out⟩
  ·go_wp2_with fail;refine HN.out.mono ?_;rintro e w2 ⟨rfl,rfl⟩;go_wp2_with fail;refine HNO.out.mono ?_;rintro e w3 ⟨rfl,hb⟩;have HB3:=h_ (HB.out.trans (hb.mono HB.out.size));clear hb HN HNO HX;go_wp2_with fail;go_ret;exact ⟨by rw [HR.out];cases q2 <;> rfl,HB3.out⟩
 ·have hR:okA a=(isNm a.name&&a.val.right.isSome):=by
   unfold okA;rw [if_pos (by rw [hK];decide)]
  obtain ⟨q2,hq2⟩:∃q:Bool,a.val.right.isSome=q:=⟨_,rfl⟩
  rw [hq1,hq2] at hR;rw [hq2] at HRI;have HR:=h_ hR;rw [hK] at HX;have z0:=HX.out.c 0 rfl;have z1:=HX.out.c 1 rfl;have z2:=HX.out.c 2 rfl;have z3:=HX.out.c 3 rfl;have z4:=HX.out.c 4 rfl;have z5:=HX.out.c 5 rfl;have z6:=HX.out.c 6 rfl;have z7:=HX.out.c 7 rfl;rw [hK] at hW1 ⊢;clear hR hK hq2 hq1;go_enter Tryz.func137,Tryz.ntmps137;go_upto_region 1 with fail;rw [<-hW1,<-hg1];clear hW1 hg1;cases q1
  ·go_wp2_with fail;refine HN.out.mono ?_;rintro e w2 ⟨rfl,rfl⟩;go_wp2_with fail;go_ret;exact ⟨by rw [HR.out];rfl,HB.out⟩
  ·go_wp2_with fail;refine HN.out.mono ?_;rintro e w2 ⟨rfl,rfl⟩;go_wp2_with fail;refine HRI.out.mono ?_;rintro e w3 ⟨rfl,hb⟩;have HB3:=h_ (HB.out.trans (hb.mono HB.out.size));clear hb HN HRI HX;go_wp2_with fail;go_ret;exact ⟨by rw [HR.out];cases q2 <;> rfl,HB3.out⟩
 ·have hR:okA a=false:=by
   unfold okA;rw [if_neg (by omega),decide_eq_false (by omega)];simp
  have HR:=h_ hR
  have e1:(a.kind==1)=false:=by simp;omega
  have e2:(a.kind==2)=false:=by simp;omega
  have e3:(a.kind==3)=false:=by simp;omega
  have z0:=HX.out.c 0 rfl;clear hR k1 HN HRI HNO hq1;go_enter Tryz.func137,Tryz.ntmps137;go_upto_region 1 with fail;rw [<-hW1,<-hg1];clear hW1 hg1;go_wp2_with fail;go_ret;exact ⟨by rw [HR.out];rfl,HB.out⟩
theorem trig_any (w:World) (m:GM) (ev:EV) (X:ByteArray) (A1 A2:Option Addr) (c1 c2:Nat) (hX:txV m.event=.string X) (hr:m.rng) (hK0:KwAt w) :
  Calls Tryz.prog 140 #[.agg #[.int .i64 m.kind,.string X,.int .i64 m.wait,.bool m.guarded,.int .i64 ev.kind,.int .i64 ev.num,.string ev.name,.int .i64 ev.op,.slice ev.A ev.len ev.cap,.int .i64 ev.p,.slice A1 m.acts.length c1,.slice A2 m.targets.length c2,.int .i64 m.at_]] w λ e w'=>e=.returned (.bool (trig m))/\Below w.heap.size w w':=by
 obtain ⟨W1,hW1⟩:∃W,W=w.alloc (.cells #[.int .i64 m.kind,.string X,.int .i64 m.wait,.bool m.guarded,.int .i64 ev.kind,.int .i64 ev.num,.string ev.name,.int .i64 ev.op,.slice ev.A ev.len ev.cap,.int .i64 ev.p,.slice A1 m.acts.length c1,.slice A2 m.targets.length c2,.int .i64 m.at_] 43):=⟨_,rfl⟩
 obtain ⟨g1,hg1⟩:∃g,g=w.heap.size:=⟨_,rfl⟩
 have HB:Hid (Below w.heap.size w W1):=by rw [hW1];exact (b_ _ w).alloc (n_ _) _
 have HX:Hid (CB W1 g1 43 [.int .i64 m.kind,.string X,.int .i64 m.wait,.bool m.guarded,.int .i64 ev.kind,.int .i64 ev.num,.string ev.name,.int .i64 ev.op,.slice ev.A ev.len ev.cap,.int .i64 ev.p,.slice A1 m.acts.length c1,.slice A2 m.targets.length c2,.int .i64 m.at_]):=by rw [hW1,hg1];exact CB.new w _ [.int .i64 m.kind,.string X,.int .i64 m.wait,.bool m.guarded,.int .i64 ev.kind,.int .i64 ev.num,.string ev.name,.int .i64 ev.op,.slice ev.A ev.len ev.cap,.int .i64 ev.p,.slice A1 m.acts.length c1,.slice A2 m.targets.length c2,.int .i64 m.at_]
 have hS:X.size<=140737488351232:=by
  have h1:=hr.1;rw [<-toArr hX] at h1;exact h1
 have HN:=h_ (name_any X W1 hS (hK0.below HB.out));rw [toArr hX] at HN
 have hie:m.event.isEmpty=X.toList.isEmpty:=by rw [Lib.toList_data,toArr hX]
 clear hX hr hK0 hS
 by_cases k1:m.kind=1
 ·have hR:trig m=(isNm m.event&&(m.wait==0)):=by
   unfold trig;rw [if_pos k1,dec_beq]
  obtain ⟨q1,hq1⟩:∃q:Bool,isNm m.event=q:=⟨_,rfl⟩
  obtain ⟨q2,hq2⟩:∃q:Bool,(m.wait==0)=q:=⟨_,rfl⟩
  rw [hq1,hq2] at hR;rw [hq1] at HN;have HR:=h_ hR;rw [k1] at HX hW1 ⊢;have z0:=HX.out.c 0 rfl;have z1:=HX.out.c 1 rfl;have z2:=HX.out.c 2 rfl;clear hR k1 hie;go_enter Tryz.func140,Tryz.ntmps140;go_upto_region 1 with fail;rw [<-hW1,<-hg1];clear hW1 hg1;cases q1
  ·go_wp2_with fail;refine HN.out.mono ?_;rintro e w2 ⟨rfl,rfl⟩;go_wp2_with fail;go_ret;exact ⟨by rw [HR.out];rfl,HB.out⟩
  ·cases q2
   ·go_wp2_with fail;refine HN.out.mono ?_;rintro e w2 ⟨rfl,rfl⟩;go_wp2_with fail;go_ret;exact ⟨by rw [HR.out];rfl,HB.out⟩
   ·go_wp2_with fail;refine HN.out.mono ?_;rintro e w2 ⟨rfl,rfl⟩;go_wp2_with fail;go_ret;exact ⟨by rw [HR.out];rfl,HB.out⟩
 ·by_cases k2:m.kind=2
  ·have hR:trig m=(X.toList.isEmpty&&(m.wait==0)):=by
    unfold trig;rw [if_neg k1,if_pos k2,dec_beq,hie]
   obtain ⟨q1,hq1⟩:∃q:Bool,X.toList.isEmpty=q:=⟨_,rfl⟩
   obtain ⟨q2,hq2⟩:∃q:Bool,(m.wait==0)=q:=⟨_,rfl⟩
   rw [hq1,hq2] at hR;have HR:=h_ hR;rw [k2] at HX hW1 ⊢;have z0:=HX.out.c 0 rfl;have z1:=HX.out.c 1 rfl;have z2:=HX.out.c 2 rfl;clear hR k1 k2 hie HN;go_enter Tryz.func140,Tryz.ntmps140;go_upto_region 1 with fail;rw [<-hW1,<-hg1];clear hW1 hg1;cases q1
   ·go_wp2_with fail;go_ret;exact ⟨by rw [HR.out];rfl,HB.out⟩
   ·cases q2
    ·go_wp2_with fail;go_ret;exact ⟨by rw [HR.out];rfl,HB.out⟩
    ·go_wp2_with fail;go_ret;exact ⟨by rw [HR.out];rfl,HB.out⟩
  ·by_cases k3:m.kind=3
   ·have hR:trig m=(X.toList.isEmpty&&decide (0<=m.wait)):=by
     unfold trig;rw [if_neg k1,if_neg k2,decide_eq_true k3,hie,Bool.true_and]
    obtain ⟨q1,hq1⟩:∃q:Bool,X.toList.isEmpty=q:=⟨_,rfl⟩
    obtain ⟨q2,hq2⟩:∃q:Bool,decide (0<=m.wait)=q:=⟨_,rfl⟩
    rw [hq1,hq2] at hR;have HR:=h_ hR;rw [k3] at HX hW1 ⊢;have z0:=HX.out.c 0 rfl;have z1:=HX.out.c 1 rfl;have z2:=HX.out.c 2 rfl;clear hR k1 k2 k3 hie HN;go_enter Tryz.func140,Tryz.ntmps140;go_upto_region 1 with fail;rw [<-hW1,<-hg1];clear hW1 hg1;cases q1
    ·go_wp2_with fail;go_ret;exact ⟨by rw [HR.out];rfl,HB.out⟩
    ·cases q2
     ·go_wp2_with fail;go_ret;exact ⟨by rw [HR.out];rfl,HB.out⟩
     ·go_wp2_with fail;go_ret;exact ⟨by rw [HR.out];rfl,HB.out⟩
   ·have hR:trig m=false:=by
     unfold trig;rw [if_neg k1,if_neg k2,decide_eq_false k3];rfl
    have HR:=h_ hR
    have e1:(m.kind==1)=false:=by simpa using k1
    have e2:(m.kind==2)=false:=by simpa using k2
    have e3:(m.kind==3)=false:=by simpa using k3
    have z0:=HX.out.c 0 rfl;clear hR k1 k2 k3 hie HN;go_enter Tryz.func140,Tryz.ntmps140;go_upto_region 1 with fail;rw [<-hW1,<-hg1];clear hW1 hg1;go_wp2_with fail;go_ret;exact ⟨by rw [HR.out];rfl,HB.out⟩
theorem grd_any (w:World) (m:GM) (ev:EV) (X:ByteArray) (A1 A2:Option Addr) (c1 c2:Nat) (hg:GV w 0 w.heap.size m.guard ev) (hr:m.rng) (hE:Ee w) :
  Calls Tryz.prog 141 #[.agg #[.int .i64 m.kind,.string X,.int .i64 m.wait,.bool m.guarded,.int .i64 ev.kind,.int .i64 ev.num,.string ev.name,.int .i64 ev.op,.slice ev.A ev.len ev.cap,.int .i64 ev.p,.slice A1 m.acts.length c1,.slice A2 m.targets.length c2,.int .i64 m.at_]] w λ e w'=>e=.returned (.bool (grd m))/\Below w.heap.size w w':=by
 obtain ⟨W1,hW1⟩:∃W,W=w.alloc (.cells #[.int .i64 m.kind,.string X,.int .i64 m.wait,.bool m.guarded,.int .i64 ev.kind,.int .i64 ev.num,.string ev.name,.int .i64 ev.op,.slice ev.A ev.len ev.cap,.int .i64 ev.p,.slice A1 m.acts.length c1,.slice A2 m.targets.length c2,.int .i64 m.at_] 43):=⟨_,rfl⟩
 obtain ⟨g1,hg1⟩:∃g,g=w.heap.size:=⟨_,rfl⟩
 have HB:Hid (Below w.heap.size w W1):=by rw [hW1];exact (b_ _ w).alloc (n_ _) _
 have HX:Hid (CB W1 g1 43 [.int .i64 m.kind,.string X,.int .i64 m.wait,.bool m.guarded,.int .i64 ev.kind,.int .i64 ev.num,.string ev.name,.int .i64 ev.op,.slice ev.A ev.len ev.cap,.int .i64 ev.p,.slice A1 m.acts.length c1,.slice A2 m.targets.length c2,.int .i64 m.at_]):=by rw [hW1,hg1];exact CB.new w _ [.int .i64 m.kind,.string X,.int .i64 m.wait,.bool m.guarded,.int .i64 ev.kind,.int .i64 ev.num,.string ev.name,.int .i64 ev.op,.slice ev.A ev.len ev.cap,.int .i64 ev.p,.slice A1 m.acts.length c1,.slice A2 m.targets.length c2,.int .i64 m.at_]
 have hg1':GV W1 0 W1.heap.size m.guard ev:=(GV.below hg HB.out (n_ _)).mono (n_ 0) HB.out.size;have HRI:=h_ (eright_any W1 m.guard ev (hE.below HB.out).wv hr.2.2.1 hg1');simp only [EV.val] at HRI;have HNO:=h_ (nothing_any W1 m.guard ev hg1')
 have hR:grd m=if m.guarded=true then m.guard.right.isSome else nothing m.guard:=rfl
 obtain ⟨q1,hq1⟩:∃q:Bool,m.guard.right.isSome=q:=⟨_,rfl⟩
 obtain ⟨q2,hq2⟩:∃q:Bool,nothing m.guard=q:=⟨_,rfl⟩
 rw [hq1] at HRI;rw [hq2] at HNO;rw [hq1,hq2] at hR
 obtain ⟨d,hd⟩:∃d,m.guarded=d:=⟨_,rfl⟩
 rw [hd] at hR HX hW1 ⊢;clear hg1' hg hr hE hd hq1 hq2;cases d
 ·have HR:Hid (grd m=q2):=hR;have z3:=HX.out.c 3 rfl;have z4:=HX.out.c 4 rfl;have z5:=HX.out.c 5 rfl;have z6:=HX.out.c 6 rfl;have z7:=HX.out.c 7 rfl;have z8:=HX.out.c 8 rfl;have z9:=HX.out.c 9 rfl;clear hR;go_enter Tryz.func141,Tryz.ntmps141;go_upto_region 1 with fail;rw [<-hW1,<-hg1];clear hW1 hg1;go_wp2_with fail;refine HNO.out.mono ?_;rintro e w3 ⟨rfl,hb⟩;have HB3:=h_ (HB.out.trans (hb.mono HB.out.size));clear hb HRI HNO HX;go_wp2_with fail;go_ret;exact ⟨by rw [HR.out];rfl,HB3.out⟩
 ·have HR:Hid (grd m=q1):=hR;have z3:=HX.out.c 3 rfl;have z4:=HX.out.c 4 rfl;have z5:=HX.out.c 5 rfl;have z6:=HX.out.c 6 rfl;have z7:=HX.out.c 7 rfl;have z8:=HX.out.c 8 rfl;have z9:=HX.out.c 9 rfl;clear hR;go_enter Tryz.func141,Tryz.ntmps141;go_upto_region 1 with fail;rw [<-hW1,<-hg1];clear hW1 hg1;go_wp2_with fail;refine HRI.out.mono ?_;rintro e w3 ⟨rfl,hb⟩;have HB3:=h_ (HB.out.trans (hb.mono HB.out.size));clear hb HRI HNO HX;go_wp2_with fail;go_ret;exact ⟨by rw [HR.out];rfl,HB3.out⟩
theorem bodiless_any (w:World) (k p:Int) (N0 I0 D0:ByteArray) (A1 A2 A3 A4:Option Addr) (n1 n2 n3 n4 c1 c2 c3 c4:Nat) :
  Calls Tryz.prog 68 #[.agg #[.int .i64 k,.string N0,.string I0,.string D0,.slice A1 n1 c1,.slice A2 n2 c2,.slice A3 n3 c3,.slice A4 n4 c4,.int .i64 p]] w λ e w'=>e=.returned (.bool (I0.toList.isEmpty&&((n1:Int)==0)&&((n2:Int)==0)&&((n3:Int)==0)&&((n4:Int)==0)))/\Below w.heap.size w w':=by
 obtain ⟨W1,hW1⟩:∃W,W=w.alloc (.cells #[.int .i64 k,.string N0,.string I0,.string D0,.slice A1 n1 c1,.slice A2 n2 c2,.slice A3 n3 c3,.slice A4 n4 c4,.int .i64 p] 27):=⟨_,rfl⟩
 obtain ⟨g1,hg1⟩:∃g,g=w.heap.size:=⟨_,rfl⟩
 have HB:Hid (Below w.heap.size w W1):=by rw [hW1];exact (b_ _ w).alloc (n_ _) _
 have HX:Hid (CB W1 g1 27 [.int .i64 k,.string N0,.string I0,.string D0,.slice A1 n1 c1,.slice A2 n2 c2,.slice A3 n3 c3,.slice A4 n4 c4,.int .i64 p]):=by rw [hW1,hg1];exact CB.new w _ [.int .i64 k,.string N0,.string I0,.string D0,.slice A1 n1 c1,.slice A2 n2 c2,.slice A3 n3 c3,.slice A4 n4 c4,.int .i64 p]
 obtain ⟨q1,hq1⟩:∃q:Bool,(I0.toList.isEmpty)=q:=⟨_,rfl⟩
 obtain ⟨q2,hq2⟩:∃q:Bool,((n1:Int)==0)=q:=⟨_,rfl⟩
 obtain ⟨q3,hq3⟩:∃q:Bool,((n2:Int)==0)=q:=⟨_,rfl⟩
 obtain ⟨q4,hq4⟩:∃q:Bool,((n3:Int)==0)=q:=⟨_,rfl⟩
 obtain ⟨q5,hq5⟩:∃q:Bool,((n4:Int)==0)=q:=⟨_,rfl⟩
 rw [hq1,hq2,hq3,hq4,hq5]
 have HR:Hid (True/\true=true):=⟨trivial,rfl⟩
 have z2:=HX.out.c 2 rfl;have z4:=HX.out.c 4 rfl;have z5:=HX.out.c 5 rfl;have z6:=HX.out.c 6 rfl;have z7:=HX.out.c 7 rfl;go_enter Tryz.func68,Tryz.ntmps68;go_upto_region 1 with fail;rw [<-hW1,<-hg1];clear hW1 hg1;cases q1
 ·go_wp2_with fail;go_ret;exact ⟨rfl,HB.out⟩
 ·cases q2
  ·go_wp2_with fail;go_ret;exact ⟨rfl,HB.out⟩
  ·cases q3
   ·go_wp2_with fail;go_ret;exact ⟨rfl,HB.out⟩
   ·cases q4
    ·go_wp2_with fail;go_ret;exact ⟨rfl,HB.out⟩
    ·cases q5
     ·go_wp2_with fail;go_ret;exact ⟨rfl,HB.out⟩
     ·go_wp2_with fail;go_ret;exact ⟨rfl,HB.out⟩
theorem count8_any (w:World) (b i:Nat) (x more most:Int) (hc:w.cell? ⟨b,i,none⟩=some (.int .i64 x)) (hf:w.frozen? ⟨b,i,none⟩=false) (h0:-9223372036854775808<=x+more) (h1:x+more<=9223372036854775807) :
  Calls Tryz.prog 66 #[.pointer (some ⟨b,i,none⟩),.int .i64 more,.int .i64 most] w λ e w'=>e=.returned (.bool (decide (x+more<=most)))/\w'=w.setCell ⟨b,i,none⟩ (.int .i64 (x+more)):=by
 obtain ⟨y,hy⟩:∃y,x+more=y:=⟨_,rfl⟩
 have HW:=h_ (Go.IntWalk.wrap64_in (x+more) ⟨h0,h1⟩);rw [hy] at HW ⊢
 obtain ⟨W1,hW1⟩:∃W,W=w.setCell ⟨b,i,none⟩ (.int .i64 y):=⟨_,rfl⟩
 have c1:W1.cell? ⟨b,i,none⟩=some (.int .i64 y):=by
  rw [hW1];exact World.cell?_setCell_same _ _ _ (by rw [hc])
 rw [<-hW1]
 obtain ⟨q,hq⟩:∃q:Bool,decide (y<=most)=q:=⟨_,rfl⟩
 rw [hq];clear h0 h1;go_enter Tryz.func66,Tryz.ntmps66;go_upto_region 2 with fail
 try rw [hy]
 try rw [HW.out]
 rw [<-hW1];clear hW1 hc hf hy;cases q
 ·go_wp2_with fail;go_ret;exact ⟨rfl,rfl⟩
 ·go_wp2_with fail;go_ret;exact ⟨rfl,rfl⟩
theorem notM_any (w:World) (b h:Nat) (k q p:Int) (S:ByteArray) (gd:Bool) (ev:EV) (A1 A2:Option Addr) (n1 n2 c1 c2:Nat) (r:Bool) (R:World->Prop) (hc:w.cell? ⟨h,0,none⟩=some (.func (.func 105) #[.pointer (some ⟨b,0,none⟩)] #[])) (hh:h<w.heap.size)
  (HF:Hid (∀W,Below w.heap.size w W->Calls Tryz.prog 105 #[.pointer (some ⟨b,0,none⟩),.agg #[.int .i64 k,.string S,.int .i64 q,.bool gd,.int .i64 ev.kind,.int .i64 ev.num,.string ev.name,.int .i64 ev.op,.slice ev.A ev.len ev.cap,.int .i64 ev.p,.slice A1 n1 c1,.slice A2 n2 c2,.int .i64 p]] W λ e w'=>e=.returned (.bool r)/\R w'/\Mv b W w')) :
  Calls Tryz.prog 139 #[.agg #[.int .i64 k,.string S,.int .i64 q,.bool gd,.int .i64 ev.kind,.int .i64 ev.num,.string ev.name,.int .i64 ev.op,.slice ev.A ev.len ev.cap,.int .i64 ev.p,.slice A1 n1 c1,.slice A2 n2 c2,.int .i64 p],.pointer (some ⟨h,0,none⟩)] w λ e w'=>e=.returned (.bool (!r))/\R w'/\Mv b w w':=by
 obtain ⟨W0,hW0⟩:∃W,W=w.alloc (.cells #[.int .i64 k,.string S,.int .i64 q,.bool gd,.int .i64 ev.kind,.int .i64 ev.num,.string ev.name,.int .i64 ev.op,.slice ev.A ev.len ev.cap,.int .i64 ev.p,.slice A1 n1 c1,.slice A2 n2 c2,.int .i64 p] 43):=⟨_,rfl⟩
 obtain ⟨g0,hg0⟩:∃g,g=w.heap.size:=⟨_,rfl⟩
 have HB:Hid (Below w.heap.size w W0):=by rw [hW0];exact (b_ _ w).alloc (n_ _) _
 have HX:Hid (CB W0 g0 43 [.int .i64 k,.string S,.int .i64 q,.bool gd,.int .i64 ev.kind,.int .i64 ev.num,.string ev.name,.int .i64 ev.op,.slice ev.A ev.len ev.cap,.int .i64 ev.p,.slice A1 n1 c1,.slice A2 n2 c2,.int .i64 p]):=by rw [hW0,hg0];exact CB.new w _ [.int .i64 k,.string S,.int .i64 q,.bool gd,.int .i64 ev.kind,.int .i64 ev.num,.string ev.name,.int .i64 ev.op,.slice ev.A ev.len ev.cap,.int .i64 ev.p,.slice A1 n1 c1,.slice A2 n2 c2,.int .i64 p]
 have c0:W0.cell? ⟨h,0,none⟩=some (.func (.func 105) #[.pointer (some ⟨b,0,none⟩)] #[]):=by rw [World.cell?_of_block (HB.out.block h hh)];exact hc
 have HC:=h_ (HF.out W0 HB.out);have z0:=HX.out.c 0 rfl;have z1:=HX.out.c 1 rfl;have z2:=HX.out.c 2 rfl;have z3:=HX.out.c 3 rfl;have z4:=HX.out.c 4 rfl;have z5:=HX.out.c 5 rfl;have z6:=HX.out.c 6 rfl;have z7:=HX.out.c 7 rfl;have z8:=HX.out.c 8 rfl;have z9:=HX.out.c 9 rfl;have z10:=HX.out.c 10 rfl;have z11:=HX.out.c 11 rfl;have z12:=HX.out.c 12 rfl;clear hc hh HF;go_enter Tryz.func139,Tryz.ntmps139;go_upto_region 1 with fail;rw [<-hW0,<-hg0];clear hW0 hg0;go_wp2_with fail;refine HC.out.mono ?_;rintro e w2 ⟨rfl,hr,hm⟩;have HR:=h_ hr;have HM2:=h_ ((Mv.of_below b HB.out).trans hm);clear hr hm HC HX z0 z1 z2 z3 z4 z5 z6 z7 z8 z9 z10 z11 z12 c0;go_wp2_with fail;go_ret;exact ⟨rfl,HR.out,HM2.out⟩
def allWM {α:Type} (w0:World) (b lvl:Nat) (step:Nat×Nat×Nat->α->Bool×(Nat×Nat×Nat)) (P:Nat×Nat×Nat->Prop) (l:List α) (v:Value):Prop:=∀(i:Nat) (a:α),l[i]?=some a->∃(g og c:Nat) (k q p:Int) (S:ByteArray) (gd:Bool) (ev:EV) (A1 A2:Option Addr) (n1 n2 c1 c2:Nat),v=.slice (some ⟨g,og,none⟩) l.length c/\g<w0.heap.size/\w0.cell? ⟨g,og+i*13,none⟩=some (.int .i64 k)/\w0.cell? ⟨g,og+i*13+1,none⟩=some (.string S)/\w0.cell? ⟨g,og+i*13+2,none⟩=some (.int .i64 q)/\w0.cell? ⟨g,og+i*13+3,none⟩=some (.bool gd)/\w0.cell? ⟨g,og+i*13+4,none⟩=some (.int .i64 ev.kind)/\w0.cell? ⟨g,og+i*13+5,none⟩=some (.int .i64 ev.num)/\w0.cell? ⟨g,og+i*13+6,none⟩=some (.string ev.name)/\w0.cell? ⟨g,og+i*13+7,none⟩=some (.int .i64 ev.op)/\w0.cell? ⟨g,og+i*13+8,none⟩=some (.slice ev.A ev.len ev.cap)/\w0.cell? ⟨g,og+i*13+9,none⟩=some (.int .i64 ev.p)/\w0.cell? ⟨g,og+i*13+10,none⟩=some (.slice A1 n1 c1)/\w0.cell? ⟨g,og+i*13+11,none⟩=some (.slice A2 n2 c2)/\w0.cell? ⟨g,og+i*13+12,none⟩=some (.int .i64 p) /\
 ∀W s,P s->KS w0 W b lvl s->Calls Tryz.prog 105 #[.pointer (some ⟨b,0,none⟩),.agg #[.int .i64 k,.string S,.int .i64 q,.bool gd,.int .i64 ev.kind,.int .i64 ev.num,.string ev.name,.int .i64 ev.op,.slice ev.A ev.len ev.cap,.int .i64 ev.p,.slice A1 n1 c1,.slice A2 n2 c2,.int .i64 p]] W λ e w'=>e=.returned (.bool (step s a).1)/\(KS w0 w' b lvl (step s a).2/\((step s a).1=true->P (step s a).2))/\Mv b W w'
theorem firstM_any {α:Type} (w0 w:World) (b lvl:Nat) (step:Nat×Nat×Nat->α->Bool×(Nat×Nat×Nat)) (P:Nat×Nat×Nat->Prop) (l:List α) (A:Option Addr) (c h n:Nat) (s0:Nat×Nat×Nat) (hn:l.length=n) (hm:n<=9223372036854775807) (H0:Hid (allWM w0 b lvl step P l (.slice A n c))) (hs:KS w0 w b lvl s0) (hP:P s0) (hc:w.cell? ⟨h,0,none⟩=some (.func (.func 105) #[.pointer (some ⟨b,0,none⟩)] #[])) (hh:h<w.heap.size) (hhb:h≠b) :
  Calls Tryz.prog 174 #[.slice A n c,.func (.func 139) #[] #[.pointer (some ⟨h,0,none⟩)]] w λ e w'=>∃r:Int,e=.returned (.int .i64 r)/\decide (0<=r)=!(foldS step s0 l).1/\(KS w0 w' b lvl (foldS step s0 l).2/\((foldS step s0 l).1=true->P (foldS step s0 l).2))/\Mv b w w':=by
 have HN:=h_ hn;have HM:=h_ hm;have HS:=h_ (And.intro hs hP);have HC0:=h_ (And.intro hc (And.intro hh hhb));clear hn hm hs hc hh hhb hP;go_enter Tryz.func174,Tryz.ntmps174;go_wp2_with fail
 go_loopw [8] (λ iv wr=>∃(i:Nat) (s:Nat×Nat×Nat),i<=n/\iv=.int .i64 (i:Int)/\Hid (foldS step s0 l=foldS step s (l.drop i))/\Hid (KS w0 wr b lvl s/\P s)/\Hid (Mv b w wr)) (λ iv _=>n-(intOf iv).toNat)
 case atStart=>exact ⟨0,s0,Nat.zero_le _,rfl,rfl,HS.out,Mv.refl b w⟩
 case round =>
  obtain ⟨i,s,hi,rfl,HT,HKS,HBW⟩:=hrel
  by_cases him:i<n
  ·have him':(i:Int)<n:=by omega
   have HIM:=h_ him
   obtain ⟨a,ha⟩:∃a,l[i]?=some a:=⟨_,List.getElem?_eq_getElem (by rw [HN.out];exact him)⟩
   have hyc:=H0.out i a ha;rw [HN.out] at hyc;obtain ⟨g,og,c',k,q,p,S,gd,ev,A1,A2,n1,n2,c1,c2,hv,hg,y0,y1,y2,y3,y4,y5,y6,y7,y8,y9,y10,y11,y12,hcall⟩:=hyc
   obtain rfl:A=some ⟨g,og,none⟩:=by injection hv
   have hbw:Below w0.heap.size w0 wr:=HKS.out.1.1
   have kb:∀{p:Addr} {u:Value},w0.cell? p=some u->wr.cell? p=some u:=λ hc=>by rw [World.cell?_of_block (hbw.block _ (World.block_lt_of_cell? w0 _ hc))];exact hc
   have u0:=kb y0;have u1:=kb y1;have u2:=kb y2;have u3:=kb y3;have u4:=kb y4;have u5:=kb y5;have u6:=kb y6;have u7:=kb y7;have u8:=kb y8;have u9:=kb y9;have u10:=kb y10;have u11:=kb y11;have u12:=kb y12;have HCL:=h_ (notM_any wr b h k q p S gd ev A1 A2 n1 n2 c1 c2 (step s a).1 (λ w'=>KS w0 w' b lvl (step s a).2/\((step s a).1=true->P (step s a).2)) (by rw [World.cell?_of_block (HBW.out.block HC0.out.2.1 HC0.out.2.2)];exact HC0.out.1) (Nat.lt_of_lt_of_le HC0.out.2.1 HBW.out.size) (h_ (λ W hb=>hcall W s HKS.out.2 (HKS.out.1.below hb))))
   have HFD:Hid (foldS step s0 l=if (step s a).1=true then foldS step (step s a).2 (l.drop (i+1)) else (false,(step s a).2)):=by
    show _=_;rw [HT.out,drop_cons2 ha];rfl
   obtain ⟨r,hr⟩:∃r,(step s a).1=r:=⟨_,rfl⟩
   rw [hr] at HCL HFD
   obtain ⟨s2,hs2⟩:∃s2,(step s a).2=s2:=⟨_,rfl⟩
   rw [hs2] at HCL HFD;clear ha hv hg hcall hbw kb hr hs2 HT y0 y1 y2 y3 y4 y5 y6 y7 y8 y9 y10 y11 y12;cases r
   ·go_wp2_with fail;refine HCL.out.mono ?_;rintro e w2 ⟨rfl,hk,hb⟩;have HB2:=h_ (HBW.out.trans hb);have HK2:=h_ hk.1;clear hb hk HCL u0 u1 u2 u3 u4 u5 u6 u7 u8 u9 u10 u11 u12 HBW HKS;go_wp2_with fail;go_ret;refine ⟨_,rfl,?_,?_,HB2.out⟩
    ·rw [HFD.out];simp
    ·rw [HFD.out];exact ⟨HK2.out,λ h=>by simp at h⟩
   ·go_wp2_with fail;refine HCL.out.mono ?_;rintro e w2 ⟨rfl,hk,hb⟩;have HB2:=h_ (HBW.out.trans hb);have HK2:=h_ (And.intro hk.1 (hk.2 trivial));clear hb hk HCL u0 u1 u2 u3 u4 u5 u6 u7 u8 u9 u10 u11 u12 HBW HKS;go_wp2_with fail
    go_roundw
    case rel=>exact ⟨i+1,s2,by have:=HIM.out;omega,by have h1:=HIM.out;have h2:=HM.out;rw [Go.IntWalk.wrap64_in _ ⟨by omega,by omega⟩];rfl,HFD.out,HK2,HB2⟩
    case measure=>have h1:=HIM.out;have h2:=HM.out;rw [Go.IntWalk.wrap64_in _ ⟨by omega,by omega⟩];simp [intOf];omega
  ·have him':¬(i:Int)<n:=by omega
   have HALL:Hid (foldS step s0 l=(true,s)):=by
    show _=_;rw [HT.out,List.drop_eq_nil_of_le (by rw [HN.out];omega)];rfl
   clear hi;go_wp2_with fail;go_ret;refine ⟨_,rfl,?_,?_,HBW.out⟩
   ·rw [HALL.out];rfl
   ·rw [HALL.out];exact ⟨HKS.out.1,λ _=>HKS.out.2⟩
theorem contM_any {α:Type} (w0 w:World) (b lvl:Nat) (step:Nat×Nat×Nat->α->Bool×(Nat×Nat×Nat)) (P:Nat×Nat×Nat->Prop) (l:List α) (A:Option Addr) (c h n:Nat) (s0:Nat×Nat×Nat) (R1:Bool) (R2:Nat×Nat×Nat) (hR:foldS step s0 l=(R1,R2)) (hn:l.length=n) (hm:n<=9223372036854775807) (H0:Hid (allWM w0 b lvl step P l (.slice A n c))) (hs:KS w0 w b lvl s0) (hP:P s0) (hc:w.cell? ⟨h,0,none⟩=some (.func (.func 105) #[.pointer (some ⟨b,0,none⟩)] #[])) (hh:h<w.heap.size) (hhb:h≠b) :
  Calls Tryz.prog 138 #[.slice A n c,.func (.func 139) #[] #[.pointer (some ⟨h,0,none⟩)]] w λ e w'=>e=.returned (.bool (!R1))/\(KS w0 w' b lvl R2/\(R1=true->P R2))/\Mv b w w':=by
 have HC:=h_ (firstM_any w0 w b lvl step P l A c h n s0 hn hm H0 hs hP hc hh hhb);rw [hR] at HC;simp only at HC;clear hn hm H0 hs hP hc hh hhb hR;go_enter Tryz.func138,Tryz.ntmps138;go_wp2_with fail;refine HC.out.mono ?_;rintro e w2 ⟨r,rfl,hr,hb⟩;have HB9:=h_ hb;have HR9:=h_ hr;clear hb hr HC;go_wp2_with fail;go_ret;refine ⟨?_,HB9.out⟩;rw [<-HR9.out];rfl
theorem everyM_any {α:Type} (w0 w:World) (b lvl:Nat) (step:Nat×Nat×Nat->α->Bool×(Nat×Nat×Nat)) (P:Nat×Nat×Nat->Prop) (l:List α) (A:Option Addr) (c n:Nat) (s0:Nat×Nat×Nat) (hn:l.length=n) (hm:n<=9223372036854775807) (H0:Hid (allWM w0 b lvl step P l (.slice A n c))) (hs:KS w0 w b lvl s0) (hP:P s0) :
  Calls Tryz.prog 104 #[.slice A n c,.func (.func 105) #[.pointer (some ⟨b,0,none⟩)] #[]] w λ e w'=>e=.returned (.bool (foldS step s0 l).1)/\(KS w0 w' b lvl (foldS step s0 l).2/\((foldS step s0 l).1=true->P (foldS step s0 l).2))/\Mv b w w':=by
 obtain ⟨W0,hW0⟩:∃W,W=w.alloc (.cells #[.func (.func 105) #[.pointer (some ⟨b,0,none⟩)] #[]] 45):=⟨_,rfl⟩
 obtain ⟨g0,hg0⟩:∃g,g=w.heap.size:=⟨_,rfl⟩
 have HB:Hid (Below w.heap.size w W0):=by rw [hW0];exact (b_ _ w).alloc (n_ _) _
 have HX:Hid (CB W0 g0 45 [.func (.func 105) #[.pointer (some ⟨b,0,none⟩)] #[]]):=by rw [hW0,hg0];exact CB.new w _ [.func (.func 105) #[.pointer (some ⟨b,0,none⟩)] #[]]
 have hne:g0≠b:=by have:=hs.2.lt;omega
 obtain ⟨⟨R1,R2⟩,hR⟩:∃R,foldS step s0 l=R:=⟨_,rfl⟩
 have HC:=h_ (contM_any w0 W0 b lvl step P l A c g0 n s0 R1 R2 hR hn hm H0 (hs.below HB.out) hP (HX.out.c 0 rfl) HX.out.lt hne);rw [hR];simp only;clear hn hm H0 hR HX hs hP hne;go_enter Tryz.func104,Tryz.ntmps104;go_upto_region 1 with fail;rw [<-hW0,<-hg0];clear hW0 hg0;go_wp2_with fail;refine HC.out.mono ?_;rintro e w2 ⟨rfl,hk,hb⟩;have HB9:=h_ ((Mv.of_below b HB.out).trans hb);have HK9:=h_ hk;clear hb hk HC;go_wp2_with fail;go_ret;exact ⟨by cases R1 <;> rfl,HK9.out,HB9.out⟩
theorem cell_up {w W:World} (hb:Below w.heap.size w W) {p:Addr} {u:Value} (h:w.cell? p=some u):W.cell? p=some u:=by
 rw [World.cell?_of_block (hb.block _ (World.block_lt_of_cell? w _ h))];exact h
theorem allA_of {w0:World} {l:List GA} {v:Value} (hx:DxAt w0 (gActs l) v) (hE:Ee w0) (hr:∀a∈l,a.rng) {W:World} (hb:Below w0.heap.size w0 W):Hid (allWA W l v):=by
 intro i a ha;obtain ⟨g,og,c,ys,hv,_,_,hg,hy,_,hyc⟩:=DxAt.elem gAct_len (by decide) (show DxAt w0 (.row _ 9 l.length (l.flatMap gAct)) v from hx) ha;obtain ⟨ev,rfl,hgv⟩:=act_vals' hy;refine ⟨g,og,c,ev,hv,Nat.lt_of_lt_of_le hg hb.size,cell_up hb (hyc 0 _ rfl),cell_up hb (hyc 1 _ rfl),cell_up hb (hyc 2 _ rfl),cell_up hb (hyc 3 _ rfl),cell_up hb (hyc 4 _ rfl),cell_up hb (hyc 5 _ rfl),cell_up hb (hyc 6 _ rfl),cell_up hb (hyc 7 _ rfl),cell_up hb (hyc 8 _ rfl),λ W' hb'=>?_⟩;have hbb:Below w0.heap.size w0 W':=hb.trans (hb'.mono hb.size);exact isact_any W' a ev ⟨a.name.toArray⟩ rfl ((GV.below hgv hbb (n_ _)).mono (n_ 0) hbb.size) (hr a (List.mem_of_getElem? ha)) (hE.below hbb)
theorem allV_of {w0:World} {l:List SyVar} {v:Value} (hx:DxAt w0 (dvVars l) v) (hE:Ee w0) (hr:∀a∈l,a.rng) {W:World} (hb:Below w0.heap.size w0 W):Hid (allWV W l v):=by
 intro i a ha;obtain ⟨g,og,c,ys,hv,_,_,hg,hy,_,hyc⟩:=DxAt.elem dvVar_len (by decide) (show DxAt w0 (.row _ 3 l.length (l.flatMap dvVar)) v from hx) ha;obtain rfl:=var_vals' hy;refine ⟨g,og,c,(),hv,Nat.lt_of_lt_of_le hg hb.size,cell_up hb (hyc 0 _ rfl),cell_up hb (hyc 1 _ rfl),cell_up hb (hyc 2 _ rfl),λ W' hb'=>?_⟩;have hbb:Below w0.heap.size w0 W':=hb.trans (hb'.mono hb.size);exact isvar_any W' a ⟨a.name.toArray⟩ rfl (hr a (List.mem_of_getElem? ha)) (hE.below hbb).vr.kw
theorem allS_of {w0:World} {l:List (List UInt8)} {A:Option Addr} {c:Nat} (hx:DxAt w0 (dvStrs l) (.slice A l.length c)) (hE:Ee w0) (hr:∀t∈l,t.length<=140737488351232) {W:World} (hb:Below w0.heap.size w0 W):Hid (allWS W l (.slice A l.length c)):=by
 intro i t ht;obtain ⟨_,_,h⟩:=strs_sl hx;obtain ⟨g,o,rfl,hg,hc⟩:=h i ⟨t.toArray⟩ (by rw [List.getElem?_map,ht];rfl);refine ⟨g,o,c,(),rfl,Nat.lt_of_lt_of_le hg hb.size,cell_up hb hc,λ W' hb'=>?_⟩;have hbb:Below w0.heap.size w0 W':=hb.trans (hb'.mono hb.size);refine (name_any ⟨t.toArray⟩ W' (by have:=hr t (List.mem_of_getElem? ht);show t.toArray.size<=_;simpa using this) (hE.below hbb).vr.kw).mono ?_;rintro e w' ⟨rfl,rfl⟩;exact ⟨by simp,b_ _ _⟩
theorem KS.set0 {w0 w:World} {b lvl n m a:Nat} (h:KS w0 w b lvl (n,m,a)) (hb:w0.heap.size<=b) (n':Nat):KS w0 (w.setCell ⟨b,0,none⟩ (.int .i64 (n':Int))) b lvl (n',m,a):=⟨h.1.setCell (p:=⟨b,0,none⟩) hb _,h.2.set 0 _⟩
theorem KS.set1 {w0 w:World} {b lvl n m a:Nat} (h:KS w0 w b lvl (n,m,a)) (hb:w0.heap.size<=b) (n':Nat):KS w0 (w.setCell ⟨b,1,none⟩ (.int .i64 (n':Int))) b lvl (n,n',a):=⟨h.1.setCell (p:=⟨b,1,none⟩) hb _,h.2.set 1 _⟩
theorem KS.set2 {w0 w:World} {b lvl n m a:Nat} (h:KS w0 w b lvl (n,m,a)) (hb:w0.heap.size<=b) (n':Nat):KS w0 (w.setCell ⟨b,2,none⟩ (.int .i64 (n':Int))) b lvl (n,m,n'):=⟨h.1.setCell (p:=⟨b,2,none⟩) hb _,h.2.set 2 _⟩
theorem KS.set3 {w0 w:World} {b lvl:Nat} {s:Nat×Nat×Nat} (h:KS w0 w b lvl s) (hb:w0.heap.size<=b) (n':Nat):KS w0 (w.setCell ⟨b,3,none⟩ (.int .i64 (n':Int))) b n' s:=⟨h.1.setCell (p:=⟨b,3,none⟩) hb _,h.2.set 3 _⟩
theorem kcount_any (w:World) (b i x more most:Nat) (hc:w.cell? ⟨b,i,none⟩=some (.int .i64 (x:Int))) (hf:w.frozen? ⟨b,i,none⟩=false) (h1:x+more<=9223372036854775807) :
  Calls Tryz.prog 66 #[.pointer (some ⟨b,i,none⟩),.int .i64 (more:Int),.int .i64 (most:Int)] w λ e w'=>e=.returned (.bool (decide (x+more<=most)))/\w'=w.setCell ⟨b,i,none⟩ (.int .i64 ((x+more:Nat):Int)):=by
 refine (count8_any w b i x more most hc hf (by omega) (by omega)).mono ?_;rintro e w' ⟨rfl,rfl⟩;refine ⟨?_,by rw [Int.natCast_add]⟩
 congr 2
 by_cases c:x+more<=most
 ·rw [decide_eq_true c,decide_eq_true (by omega)]
 ·rw [decide_eq_false c,decide_eq_false (by omega)]
theorem kblock_any (w0 w:World) (b lvl:Nat) (s:Nat×Nat×Nat) (l:List GA) (A:Option Addr) (c:Nat) (hE:Ee w0) (h:KS w0 w b lvl s) (hb:w0.heap.size<=b) (hs:Rm s) (hx:DxAt w0 (gActs l) (.slice A l.length c)) (hr:∀a∈l,a.rng) (hl63:l.length<=1000000000000000) :
  Calls Tryz.prog 103 #[.pointer (some ⟨b,0,none⟩),.slice A l.length c] w λ e w'=>e=.returned (.bool (blkC s l).1)/\(KS w0 w' b lvl (blkC s l).2/\((blkC s l).1=true->Rm (blkC s l).2))/\Mv b w w':=by
 obtain ⟨n,m,a⟩:=s;have HSP:=h_ (λ h=>((blkC_spec (n,m,a) l hs).1 h).1);have HC:=h_ (kcount_any w b 2 a l.length 400 (h.2.c 2 rfl) (h.2.fr 2) (by have:=hs.2.2;simp only at this;omega))
 obtain ⟨W1,hW1⟩:∃W,W=w.setCell ⟨b,2,none⟩ (.int .i64 ((a+l.length:Nat):Int)):=⟨_,rfl⟩
 have HK1:Hid (KS w0 W1 b lvl (n,m,a+l.length)):=by rw [hW1];exact h.set2 hb _
 have HM1:Hid (Mv b w W1):=by rw [hW1];exact (Mv.refl b w).set 2 _
 have HA:=h_ (everyA_any W1 l A c l.length rfl (by omega) (allA_of hx hE hr HK1.out.1))
 obtain ⟨q1,hq1⟩:∃q,decide (a+l.length<=400)=q:=⟨_,rfl⟩
 obtain ⟨q2,hq2⟩:∃q,l.all okA=q:=⟨_,rfl⟩
 have HR:Hid (blkC (n,m,a) l=(q1&&q2,(n,m,a+l.length))):=by
  show _=_;unfold blkC;rw [hq2];simp only;rw [hq1]
 rw [hq2] at HA;rw [hq1,<-hW1] at HC
 obtain ⟨N,hN⟩:∃N,l.length=N:=⟨_,rfl⟩
 rw [hN] at HC HA ⊢;clear h hs hx hr hE hW1 hq1 hq2 hl63 hN hb;go_enter Tryz.func103,Tryz.ntmps103;cases q1
 ·go_wp2_with fail;refine HC.out.mono ?_;rintro e w2 ⟨rfl,rfl⟩;go_wp2_with fail;go_ret;refine ⟨by rw [HR.out];rfl,⟨by rw [HR.out];exact HK1.out,HSP.out⟩,HM1.out⟩
 ·go_wp2_with fail;refine HC.out.mono ?_;rintro e w2 ⟨rfl,rfl⟩;go_wp2_with fail;refine HA.out.mono ?_;rintro e w3 ⟨rfl,hb⟩;have HB3:=h_ hb;clear hb HC HA;go_wp2_with fail;go_ret;refine ⟨by rw [HR.out];cases q2 <;> rfl,⟨by rw [HR.out];exact HK1.out.below HB3.out,HSP.out⟩,HM1.out.trans (Mv.of_below b HB3.out)⟩
theorem kmove_any (w0 w:World) (b lvl:Nat) (s:Nat×Nat×Nat) (m:GM) (ev:EV) (X:ByteArray) (A1 A2:Option Addr) (c1 c2:Nat) (hE:Ee w0) (h:KS w0 w b lvl s) (hb:w0.heap.size<=b) (hs:Rm s) (hX:txV m.event=.string X) (hg:GV w0 0 w0.heap.size m.guard ev) (ha:DxAt w0 (gActs m.acts) (.slice A1 m.acts.length c1)) (ht:DxAt w0 (dvStrs m.targets) (.slice A2 m.targets.length c2)) (hr:m.rng) (hl:m.acts.length<=1000000000000000) :
  Calls Tryz.prog 105 #[.pointer (some ⟨b,0,none⟩),.agg #[.int .i64 m.kind,.string X,.int .i64 m.wait,.bool m.guarded,.int .i64 ev.kind,.int .i64 ev.num,.string ev.name,.int .i64 ev.op,.slice ev.A ev.len ev.cap,.int .i64 ev.p,.slice A1 m.acts.length c1,.slice A2 m.targets.length c2,.int .i64 m.at_]] w λ e w'=>e=.returned (.bool (mvS s m).1)/\(KS w0 w' b lvl (mvS s m).2/\((mvS s m).1=true->Rm (mvS s m).2))/\Mv b w w':=by
 have HSP:=h_ (λ h=>((mvS_spec s m hs).1 h).1)
 obtain ⟨W1,hW1⟩:∃W,W=w.alloc (.cells #[.int .i64 m.kind,.string X,.int .i64 m.wait,.bool m.guarded,.int .i64 ev.kind,.int .i64 ev.num,.string ev.name,.int .i64 ev.op,.slice ev.A ev.len ev.cap,.int .i64 ev.p,.slice A1 m.acts.length c1,.slice A2 m.targets.length c2,.int .i64 m.at_] 43):=⟨_,rfl⟩
 obtain ⟨g1,hg1⟩:∃g,g=w.heap.size:=⟨_,rfl⟩
 have hal:Below w.heap.size w W1:=by rw [hW1];exact (b_ _ w).alloc (n_ _) _
 have HX:Hid (CB W1 g1 43 [.int .i64 m.kind,.string X,.int .i64 m.wait,.bool m.guarded,.int .i64 ev.kind,.int .i64 ev.num,.string ev.name,.int .i64 ev.op,.slice ev.A ev.len ev.cap,.int .i64 ev.p,.slice A1 m.acts.length c1,.slice A2 m.targets.length c2,.int .i64 m.at_]/\KS w0 W1 b lvl s/\Mv b w W1):=⟨by rw [hW1,hg1];exact CB.new w _ [.int .i64 m.kind,.string X,.int .i64 m.wait,.bool m.guarded,.int .i64 ev.kind,.int .i64 ev.num,.string ev.name,.int .i64 ev.op,.slice ev.A ev.len ev.cap,.int .i64 ev.p,.slice A1 m.acts.length c1,.slice A2 m.targets.length c2,.int .i64 m.at_],h.below hal,Mv.of_below b hal⟩
 have HGB:Hid (g1≠b):=by have:=h.2.lt;rw [hg1];exact λ e=>by omega
 have gvW:∀W:World,Below w0.heap.size w0 W->GV W 0 W.heap.size m.guard ev:=λ W hb=>(GV.below hg hb (n_ _)).mono (n_ 0) hb.size;have H1:=h_ (trig_any W1 m ev X A1 A2 c1 c2 hX hr (hE.below HX.out.2.1.1).vr.kw);have H2:=h_ (λ (W:World) (hb:Below w0.heap.size w0 W)=>grd_any W m ev X A1 A2 c1 c2 (gvW W hb) hr (hE.below hb));have H3:=h_ (λ (W:World) (hk:KS w0 W b lvl s)=>kblock_any w0 W b lvl s m.acts A1 c1 hE hk hb hs ha hr.2.2.2.1 hl)
 have htl:m.targets.length<=9223372036854775807:=by
  have h1:=(strs_sl ht).1;have h2:=(strs_sl ht).2.1
  have:maxLen<=9223372036854775807:=by decide
  omega
 have H4:=h_ (λ (W:World) (hb:Below w0.heap.size w0 W)=>everyS_any W m.targets A2 c2 m.targets.length rfl htl (allS_of ht hE hr.2.2.2.2 hb))
 obtain ⟨q1,hq1⟩:∃q,trig m=q:=⟨_,rfl⟩
 obtain ⟨q2,hq2⟩:∃q,grd m=q:=⟨_,rfl⟩
 obtain ⟨⟨q3,s3⟩,hq3⟩:∃q,blkC s m.acts=q:=⟨_,rfl⟩
 obtain ⟨q4,hq4⟩:∃q,m.targets.all isNm=q:=⟨_,rfl⟩
 have HR:Hid (mvS s m=if (q1&&q2)=true then (q3&&q4,s3) else (false,s)):=by
  show _=_;unfold mvS;rw [hq1,hq2,hq3,hq4]
 rw [hq1] at H1;rw [hq2] at H2;rw [hq3] at H3;simp only at H3;rw [hq4] at H4;have z0:=HX.out.1.c 0 rfl;have z1:=HX.out.1.c 1 rfl;have z2:=HX.out.1.c 2 rfl;have z3:=HX.out.1.c 3 rfl;have z4:=HX.out.1.c 4 rfl;have z5:=HX.out.1.c 5 rfl;have z6:=HX.out.1.c 6 rfl;have z7:=HX.out.1.c 7 rfl;have z8:=HX.out.1.c 8 rfl;have z9:=HX.out.1.c 9 rfl;have z10:=HX.out.1.c 10 rfl;have z11:=HX.out.1.c 11 rfl;have z12:=HX.out.1.c 12 rfl;clear h hal hb hs hX hg ha ht hr hE hq1 hq2 hq3 hq4 gvW htl hl;go_enter Tryz.func105,Tryz.ntmps105;go_upto_region 1 with fail;rw [<-hW1,<-hg1];clear hW1 hg1;cases q1
 ·go_wp2_with fail;refine H1.out.mono ?_;rintro e w2 ⟨rfl,hb⟩;have HF:=h_ (And.intro (HX.out.2.1.below hb) (HX.out.2.2.trans (Mv.of_below b hb)));clear hb H1 H2 H3 H4;go_wp2_with fail;go_ret;exact ⟨by rw [HR.out];rfl,⟨by rw [HR.out];exact HF.out.1,HSP.out⟩,HF.out.2⟩
 ·cases q2
  ·go_wp2_with fail;refine H1.out.mono ?_;rintro e w2 ⟨rfl,hb⟩;have HX2:=h_ (And.intro (HX.out.1.below hb) (And.intro (HX.out.2.1.below hb) (HX.out.2.2.trans (Mv.of_below b hb))));clear hb H1 z0 z1 z2 z3 z4 z5 z6 z7 z8 z9 z10 z11 z12 HX;have z0:=HX2.out.1.c 0 rfl;have z1:=HX2.out.1.c 1 rfl;have z2:=HX2.out.1.c 2 rfl;have z3:=HX2.out.1.c 3 rfl;have z4:=HX2.out.1.c 4 rfl;have z5:=HX2.out.1.c 5 rfl;have z6:=HX2.out.1.c 6 rfl;have z7:=HX2.out.1.c 7 rfl;have z8:=HX2.out.1.c 8 rfl;have z9:=HX2.out.1.c 9 rfl;have z10:=HX2.out.1.c 10 rfl;have z11:=HX2.out.1.c 11 rfl;have z12:=HX2.out.1.c 12 rfl;go_wp2_with fail;refine (H2.out w2 HX2.out.2.1.1).mono ?_;rintro e w3 ⟨rfl,hb⟩;have HF:=h_ (And.intro (HX2.out.2.1.below hb) (HX2.out.2.2.trans (Mv.of_below b hb)));clear hb H2 H3 H4;go_wp2_with fail;go_ret;exact ⟨by rw [HR.out];rfl,⟨by rw [HR.out];exact HF.out.1,HSP.out⟩,HF.out.2⟩
  ·cases q3
   ·go_wp2_with fail;refine H1.out.mono ?_;rintro e w2 ⟨rfl,hb⟩;have HX2:=h_ (And.intro (HX.out.1.below hb) (And.intro (HX.out.2.1.below hb) (HX.out.2.2.trans (Mv.of_below b hb))));clear hb H1 z0 z1 z2 z3 z4 z5 z6 z7 z8 z9 z10 z11 z12 HX;have z0:=HX2.out.1.c 0 rfl;have z1:=HX2.out.1.c 1 rfl;have z2:=HX2.out.1.c 2 rfl;have z3:=HX2.out.1.c 3 rfl;have z4:=HX2.out.1.c 4 rfl;have z5:=HX2.out.1.c 5 rfl;have z6:=HX2.out.1.c 6 rfl;have z7:=HX2.out.1.c 7 rfl;have z8:=HX2.out.1.c 8 rfl;have z9:=HX2.out.1.c 9 rfl;have z10:=HX2.out.1.c 10 rfl;have z11:=HX2.out.1.c 11 rfl;have z12:=HX2.out.1.c 12 rfl;go_wp2_with fail;refine (H2.out w2 HX2.out.2.1.1).mono ?_;rintro e w3 ⟨rfl,hb⟩;have HX3:=h_ (And.intro (HX2.out.1.below hb) (And.intro (HX2.out.2.1.below hb) (HX2.out.2.2.trans (Mv.of_below b hb))));clear hb H2 z0 z1 z2 z3 z4 z5 z6 z7 z8 z9 z10 z11 z12 HX2;have z0:=HX3.out.1.c 0 rfl;have z1:=HX3.out.1.c 1 rfl;have z2:=HX3.out.1.c 2 rfl;have z3:=HX3.out.1.c 3 rfl;have z4:=HX3.out.1.c 4 rfl;have z5:=HX3.out.1.c 5 rfl;have z6:=HX3.out.1.c 6 rfl;have z7:=HX3.out.1.c 7 rfl;have z8:=HX3.out.1.c 8 rfl;have z9:=HX3.out.1.c 9 rfl;have z10:=HX3.out.1.c 10 rfl;have z11:=HX3.out.1.c 11 rfl;have z12:=HX3.out.1.c 12 rfl;go_wp2_with fail;refine (H3.out w3 HX3.out.2.1).mono ?_;rintro e w4 ⟨rfl,hk,hm⟩;have HF:=h_ (And.intro hk.1 (HX3.out.2.2.trans hm));clear hk hm H3 H4;go_wp2_with fail;go_ret;exact ⟨by rw [HR.out];rfl,⟨by rw [HR.out];exact HF.out.1,HSP.out⟩,HF.out.2⟩
   ·cases q4
    ·go_wp2_with fail;refine H1.out.mono ?_;rintro e w2 ⟨rfl,hb⟩;have HX2:=h_ (And.intro (HX.out.1.below hb) (And.intro (HX.out.2.1.below hb) (HX.out.2.2.trans (Mv.of_below b hb))));clear hb H1 z0 z1 z2 z3 z4 z5 z6 z7 z8 z9 z10 z11 z12 HX;have z0:=HX2.out.1.c 0 rfl;have z1:=HX2.out.1.c 1 rfl;have z2:=HX2.out.1.c 2 rfl;have z3:=HX2.out.1.c 3 rfl;have z4:=HX2.out.1.c 4 rfl;have z5:=HX2.out.1.c 5 rfl;have z6:=HX2.out.1.c 6 rfl;have z7:=HX2.out.1.c 7 rfl;have z8:=HX2.out.1.c 8 rfl;have z9:=HX2.out.1.c 9 rfl;have z10:=HX2.out.1.c 10 rfl;have z11:=HX2.out.1.c 11 rfl;have z12:=HX2.out.1.c 12 rfl;go_wp2_with fail;refine (H2.out w2 HX2.out.2.1.1).mono ?_;rintro e w3 ⟨rfl,hb⟩;have HX3:=h_ (And.intro (HX2.out.1.below hb) (And.intro (HX2.out.2.1.below hb) (HX2.out.2.2.trans (Mv.of_below b hb))));clear hb H2 z0 z1 z2 z3 z4 z5 z6 z7 z8 z9 z10 z11 z12 HX2;have z0:=HX3.out.1.c 0 rfl;have z1:=HX3.out.1.c 1 rfl;have z2:=HX3.out.1.c 2 rfl;have z3:=HX3.out.1.c 3 rfl;have z4:=HX3.out.1.c 4 rfl;have z5:=HX3.out.1.c 5 rfl;have z6:=HX3.out.1.c 6 rfl;have z7:=HX3.out.1.c 7 rfl;have z8:=HX3.out.1.c 8 rfl;have z9:=HX3.out.1.c 9 rfl;have z10:=HX3.out.1.c 10 rfl;have z11:=HX3.out.1.c 11 rfl;have z12:=HX3.out.1.c 12 rfl;go_wp2_with fail;refine (H3.out w3 HX3.out.2.1).mono ?_;rintro e w4 ⟨rfl,hk,hm⟩;have HX4:=h_ (And.intro (HX3.out.1.mv hm HGB.out) (And.intro hk.1 (HX3.out.2.2.trans hm)));clear hk hm H3 z0 z1 z2 z3 z4 z5 z6 z7 z8 z9 z10 z11 z12 HX3;have z11:=HX4.out.1.c 11 rfl;go_wp2_with fail;refine (H4.out w4 HX4.out.2.1.1).mono ?_;rintro e w5 ⟨rfl,hb⟩;have HF:=h_ (And.intro (HX4.out.2.1.below hb) (HX4.out.2.2.trans (Mv.of_below b hb)));clear hb H4 z11;go_wp2_with fail;go_ret;exact ⟨by rw [HR.out];rfl,⟨by rw [HR.out];exact HF.out.1,HSP.out⟩,HF.out.2⟩
    ·go_wp2_with fail;refine H1.out.mono ?_;rintro e w2 ⟨rfl,hb⟩;have HX2:=h_ (And.intro (HX.out.1.below hb) (And.intro (HX.out.2.1.below hb) (HX.out.2.2.trans (Mv.of_below b hb))));clear hb H1 z0 z1 z2 z3 z4 z5 z6 z7 z8 z9 z10 z11 z12 HX;have z0:=HX2.out.1.c 0 rfl;have z1:=HX2.out.1.c 1 rfl;have z2:=HX2.out.1.c 2 rfl;have z3:=HX2.out.1.c 3 rfl;have z4:=HX2.out.1.c 4 rfl;have z5:=HX2.out.1.c 5 rfl;have z6:=HX2.out.1.c 6 rfl;have z7:=HX2.out.1.c 7 rfl;have z8:=HX2.out.1.c 8 rfl;have z9:=HX2.out.1.c 9 rfl;have z10:=HX2.out.1.c 10 rfl;have z11:=HX2.out.1.c 11 rfl;have z12:=HX2.out.1.c 12 rfl;go_wp2_with fail;refine (H2.out w2 HX2.out.2.1.1).mono ?_;rintro e w3 ⟨rfl,hb⟩;have HX3:=h_ (And.intro (HX2.out.1.below hb) (And.intro (HX2.out.2.1.below hb) (HX2.out.2.2.trans (Mv.of_below b hb))));clear hb H2 z0 z1 z2 z3 z4 z5 z6 z7 z8 z9 z10 z11 z12 HX2;have z0:=HX3.out.1.c 0 rfl;have z1:=HX3.out.1.c 1 rfl;have z2:=HX3.out.1.c 2 rfl;have z3:=HX3.out.1.c 3 rfl;have z4:=HX3.out.1.c 4 rfl;have z5:=HX3.out.1.c 5 rfl;have z6:=HX3.out.1.c 6 rfl;have z7:=HX3.out.1.c 7 rfl;have z8:=HX3.out.1.c 8 rfl;have z9:=HX3.out.1.c 9 rfl;have z10:=HX3.out.1.c 10 rfl;have z11:=HX3.out.1.c 11 rfl;have z12:=HX3.out.1.c 12 rfl;go_wp2_with fail;refine (H3.out w3 HX3.out.2.1).mono ?_;rintro e w4 ⟨rfl,hk,hm⟩;have HX4:=h_ (And.intro (HX3.out.1.mv hm HGB.out) (And.intro hk.1 (HX3.out.2.2.trans hm)));clear hk hm H3 z0 z1 z2 z3 z4 z5 z6 z7 z8 z9 z10 z11 z12 HX3;have z11:=HX4.out.1.c 11 rfl;go_wp2_with fail;refine (H4.out w4 HX4.out.2.1.1).mono ?_;rintro e w5 ⟨rfl,hb⟩;have HF:=h_ (And.intro (HX4.out.2.1.below hb) (HX4.out.2.2.trans (Mv.of_below b hb)));clear hb H4 z11;go_wp2_with fail;go_ret;exact ⟨by rw [HR.out];rfl,⟨by rw [HR.out];exact HF.out.1,HSP.out⟩,HF.out.2⟩
theorem notN_any (w:World) (b h:Nat) (k p:Int) (S1 S2 S3:ByteArray) (A1 A2 A3 A4:Option Addr) (n1 n2 n3 n4 c1 c2 c3 c4:Nat) (r:Bool) (R:World->Prop) (hc:w.cell? ⟨h,0,none⟩=some (.func (.func 36) #[.pointer (some ⟨b,0,none⟩)] #[])) (hh:h<w.heap.size)
  (HF:Hid (∀W,Below w.heap.size w W->Calls Tryz.prog 36 #[.pointer (some ⟨b,0,none⟩),.agg #[.int .i64 k,.string S1,.string S2,.string S3,.slice A1 n1 c1,.slice A2 n2 c2,.slice A3 n3 c3,.slice A4 n4 c4,.int .i64 p]] W λ e w'=>e=.returned (.bool r)/\R w'/\Mv b W w')) :
  Calls Tryz.prog 144 #[.agg #[.int .i64 k,.string S1,.string S2,.string S3,.slice A1 n1 c1,.slice A2 n2 c2,.slice A3 n3 c3,.slice A4 n4 c4,.int .i64 p],.pointer (some ⟨h,0,none⟩)] w λ e w'=>e=.returned (.bool (!r))/\R w'/\Mv b w w':=by
 obtain ⟨W0,hW0⟩:∃W,W=w.alloc (.cells #[.int .i64 k,.string S1,.string S2,.string S3,.slice A1 n1 c1,.slice A2 n2 c2,.slice A3 n3 c3,.slice A4 n4 c4,.int .i64 p] 27):=⟨_,rfl⟩
 obtain ⟨g0,hg0⟩:∃g,g=w.heap.size:=⟨_,rfl⟩
 have HB:Hid (Below w.heap.size w W0):=by rw [hW0];exact (b_ _ w).alloc (n_ _) _
 have HX:Hid (CB W0 g0 27 [.int .i64 k,.string S1,.string S2,.string S3,.slice A1 n1 c1,.slice A2 n2 c2,.slice A3 n3 c3,.slice A4 n4 c4,.int .i64 p]):=by rw [hW0,hg0];exact CB.new w _ [.int .i64 k,.string S1,.string S2,.string S3,.slice A1 n1 c1,.slice A2 n2 c2,.slice A3 n3 c3,.slice A4 n4 c4,.int .i64 p]
 have c0:W0.cell? ⟨h,0,none⟩=some (.func (.func 36) #[.pointer (some ⟨b,0,none⟩)] #[]):=by rw [World.cell?_of_block (HB.out.block h hh)];exact hc
 have HC:=h_ (HF.out W0 HB.out);have z0:=HX.out.c 0 rfl;have z1:=HX.out.c 1 rfl;have z2:=HX.out.c 2 rfl;have z3:=HX.out.c 3 rfl;have z4:=HX.out.c 4 rfl;have z5:=HX.out.c 5 rfl;have z6:=HX.out.c 6 rfl;have z7:=HX.out.c 7 rfl;have z8:=HX.out.c 8 rfl;clear hc hh HF;go_enter Tryz.func144,Tryz.ntmps144;go_upto_region 1 with fail;rw [<-hW0,<-hg0];clear hW0 hg0;go_wp2_with fail;refine HC.out.mono ?_;rintro e w2 ⟨rfl,hr,hm⟩;have HR:=h_ hr;have HM2:=h_ ((Mv.of_below b HB.out).trans hm);clear hr hm HC HX z0 z1 z2 z3 z4 z5 z6 z7 z8 c0;go_wp2_with fail;go_ret;exact ⟨rfl,HR.out,HM2.out⟩
def allWN {α:Type} (w0:World) (b lvl:Nat) (step:Nat×Nat×Nat->α->Bool×(Nat×Nat×Nat)) (P:Nat×Nat×Nat->Prop) (l:List α) (v:Value):Prop:=∀(i:Nat) (a:α),l[i]?=some a->∃(g og c:Nat) (k p:Int) (S1 S2 S3:ByteArray) (A1 A2 A3 A4:Option Addr) (n1 n2 n3 n4 c1 c2 c3 c4:Nat),v=.slice (some ⟨g,og,none⟩) l.length c/\g<w0.heap.size/\w0.cell? ⟨g,og+i*9,none⟩=some (.int .i64 k)/\w0.cell? ⟨g,og+i*9+1,none⟩=some (.string S1)/\w0.cell? ⟨g,og+i*9+2,none⟩=some (.string S2)/\w0.cell? ⟨g,og+i*9+3,none⟩=some (.string S3)/\w0.cell? ⟨g,og+i*9+4,none⟩=some (.slice A1 n1 c1)/\w0.cell? ⟨g,og+i*9+5,none⟩=some (.slice A2 n2 c2)/\w0.cell? ⟨g,og+i*9+6,none⟩=some (.slice A3 n3 c3)/\w0.cell? ⟨g,og+i*9+7,none⟩=some (.slice A4 n4 c4)/\w0.cell? ⟨g,og+i*9+8,none⟩=some (.int .i64 p) /\
 ∀W s,P s->KS w0 W b lvl s->Calls Tryz.prog 36 #[.pointer (some ⟨b,0,none⟩),.agg #[.int .i64 k,.string S1,.string S2,.string S3,.slice A1 n1 c1,.slice A2 n2 c2,.slice A3 n3 c3,.slice A4 n4 c4,.int .i64 p]] W λ e w'=>e=.returned (.bool (step s a).1)/\(KS w0 w' b lvl (step s a).2/\((step s a).1=true->P (step s a).2))/\Mv b W w'
theorem firstN_any {α:Type} (w0 w:World) (b lvl:Nat) (step:Nat×Nat×Nat->α->Bool×(Nat×Nat×Nat)) (P:Nat×Nat×Nat->Prop) (l:List α) (A:Option Addr) (c h n:Nat) (s0:Nat×Nat×Nat) (hn:l.length=n) (hm:n<=9223372036854775807) (H0:Hid (allWN w0 b lvl step P l (.slice A n c))) (hs:KS w0 w b lvl s0) (hP:P s0) (hc:w.cell? ⟨h,0,none⟩=some (.func (.func 36) #[.pointer (some ⟨b,0,none⟩)] #[])) (hh:h<w.heap.size) (hhb:h≠b) :
  Calls Tryz.prog 177 #[.slice A n c,.func (.func 144) #[] #[.pointer (some ⟨h,0,none⟩)]] w λ e w'=>∃r:Int,e=.returned (.int .i64 r)/\decide (0<=r)=!(foldS step s0 l).1/\(KS w0 w' b lvl (foldS step s0 l).2/\((foldS step s0 l).1=true->P (foldS step s0 l).2))/\Mv b w w':=by
 have HN:=h_ hn;have HM:=h_ hm;have HS:=h_ (And.intro hs hP);have HC0:=h_ (And.intro hc (And.intro hh hhb));clear hn hm hs hc hh hhb hP;go_enter Tryz.func177,Tryz.ntmps177;go_wp2_with fail
 go_loopw [8] (λ iv wr=>∃(i:Nat) (s:Nat×Nat×Nat),i<=n/\iv=.int .i64 (i:Int)/\Hid (foldS step s0 l=foldS step s (l.drop i))/\Hid (KS w0 wr b lvl s/\P s)/\Hid (Mv b w wr)) (λ iv _=>n-(intOf iv).toNat)
 case atStart=>exact ⟨0,s0,Nat.zero_le _,rfl,rfl,HS.out,Mv.refl b w⟩
 case round =>
  obtain ⟨i,s,hi,rfl,HT,HKS,HBW⟩:=hrel
  by_cases him:i<n
  ·have him':(i:Int)<n:=by omega
   have HIM:=h_ him
   obtain ⟨a,ha⟩:∃a,l[i]?=some a:=⟨_,List.getElem?_eq_getElem (by rw [HN.out];exact him)⟩
   have hyc:=H0.out i a ha;rw [HN.out] at hyc;obtain ⟨g,og,c',k,p,S1,S2,S3,A1,A2,A3,A4,n1,n2,n3,n4,c1,c2,c3,c4,hv,hg,y0,y1,y2,y3,y4,y5,y6,y7,y8,hcall⟩:=hyc
   obtain rfl:A=some ⟨g,og,none⟩:=by injection hv
   have hbw:Below w0.heap.size w0 wr:=HKS.out.1.1
   have kb:∀{p:Addr} {u:Value},w0.cell? p=some u->wr.cell? p=some u:=λ hc=>by rw [World.cell?_of_block (hbw.block _ (World.block_lt_of_cell? w0 _ hc))];exact hc
   have u0:=kb y0;have u1:=kb y1;have u2:=kb y2;have u3:=kb y3;have u4:=kb y4;have u5:=kb y5;have u6:=kb y6;have u7:=kb y7;have u8:=kb y8;have HCL:=h_ (notN_any wr b h k p S1 S2 S3 A1 A2 A3 A4 n1 n2 n3 n4 c1 c2 c3 c4 (step s a).1 (λ w'=>KS w0 w' b lvl (step s a).2/\((step s a).1=true->P (step s a).2)) (by rw [World.cell?_of_block (HBW.out.block HC0.out.2.1 HC0.out.2.2)];exact HC0.out.1) (Nat.lt_of_lt_of_le HC0.out.2.1 HBW.out.size) (h_ (λ W hb=>hcall W s HKS.out.2 (HKS.out.1.below hb))))
   have HFD:Hid (foldS step s0 l=if (step s a).1=true then foldS step (step s a).2 (l.drop (i+1)) else (false,(step s a).2)):=by
    show _=_;rw [HT.out,drop_cons2 ha];rfl
   obtain ⟨r,hr⟩:∃r,(step s a).1=r:=⟨_,rfl⟩
   rw [hr] at HCL HFD
   obtain ⟨s2,hs2⟩:∃s2,(step s a).2=s2:=⟨_,rfl⟩
   rw [hs2] at HCL HFD;clear ha hv hg hcall hbw kb hr hs2 HT y0 y1 y2 y3 y4 y5 y6 y7 y8;cases r
   ·go_wp2_with fail;refine HCL.out.mono ?_;rintro e w2 ⟨rfl,hk,hb⟩;have HB2:=h_ (HBW.out.trans hb);have HK2:=h_ hk.1;clear hb hk HCL u0 u1 u2 u3 u4 u5 u6 u7 u8 HBW HKS;go_wp2_with fail;go_ret;refine ⟨_,rfl,?_,?_,HB2.out⟩
    ·rw [HFD.out];simp
    ·rw [HFD.out];exact ⟨HK2.out,λ h=>by simp at h⟩
   ·go_wp2_with fail;refine HCL.out.mono ?_;rintro e w2 ⟨rfl,hk,hb⟩;have HB2:=h_ (HBW.out.trans hb);have HK2:=h_ (And.intro hk.1 (hk.2 trivial));clear hb hk HCL u0 u1 u2 u3 u4 u5 u6 u7 u8 HBW HKS;go_wp2_with fail
    go_roundw
    case rel=>exact ⟨i+1,s2,by have:=HIM.out;omega,by have h1:=HIM.out;have h2:=HM.out;rw [Go.IntWalk.wrap64_in _ ⟨by omega,by omega⟩];rfl,HFD.out,HK2,HB2⟩
    case measure=>have h1:=HIM.out;have h2:=HM.out;rw [Go.IntWalk.wrap64_in _ ⟨by omega,by omega⟩];simp [intOf];omega
  ·have him':¬(i:Int)<n:=by omega
   have HALL:Hid (foldS step s0 l=(true,s)):=by
    show _=_;rw [HT.out,List.drop_eq_nil_of_le (by rw [HN.out];omega)];rfl
   clear hi;go_wp2_with fail;go_ret;refine ⟨_,rfl,?_,?_,HBW.out⟩
   ·rw [HALL.out];rfl
   ·rw [HALL.out];exact ⟨HKS.out.1,λ _=>HKS.out.2⟩
theorem contN_any {α:Type} (w0 w:World) (b lvl:Nat) (step:Nat×Nat×Nat->α->Bool×(Nat×Nat×Nat)) (P:Nat×Nat×Nat->Prop) (l:List α) (A:Option Addr) (c h n:Nat) (s0:Nat×Nat×Nat) (R1:Bool) (R2:Nat×Nat×Nat) (hR:foldS step s0 l=(R1,R2)) (hn:l.length=n) (hm:n<=9223372036854775807) (H0:Hid (allWN w0 b lvl step P l (.slice A n c))) (hs:KS w0 w b lvl s0) (hP:P s0) (hc:w.cell? ⟨h,0,none⟩=some (.func (.func 36) #[.pointer (some ⟨b,0,none⟩)] #[])) (hh:h<w.heap.size) (hhb:h≠b) :
  Calls Tryz.prog 143 #[.slice A n c,.func (.func 144) #[] #[.pointer (some ⟨h,0,none⟩)]] w λ e w'=>e=.returned (.bool (!R1))/\(KS w0 w' b lvl R2/\(R1=true->P R2))/\Mv b w w':=by
 have HC:=h_ (firstN_any w0 w b lvl step P l A c h n s0 hn hm H0 hs hP hc hh hhb);rw [hR] at HC;simp only at HC;clear hn hm H0 hs hP hc hh hhb hR;go_enter Tryz.func143,Tryz.ntmps143;go_wp2_with fail;refine HC.out.mono ?_;rintro e w2 ⟨r,rfl,hr,hb⟩;have HB9:=h_ hb;have HR9:=h_ hr;clear hb hr HC;go_wp2_with fail;go_ret;refine ⟨?_,HB9.out⟩;rw [<-HR9.out];rfl
theorem everyN_any {α:Type} (w0 w:World) (b lvl:Nat) (step:Nat×Nat×Nat->α->Bool×(Nat×Nat×Nat)) (P:Nat×Nat×Nat->Prop) (l:List α) (A:Option Addr) (c n:Nat) (s0:Nat×Nat×Nat) (hn:l.length=n) (hm:n<=9223372036854775807) (H0:Hid (allWN w0 b lvl step P l (.slice A n c))) (hs:KS w0 w b lvl s0) (hP:P s0) :
  Calls Tryz.prog 106 #[.slice A n c,.func (.func 36) #[.pointer (some ⟨b,0,none⟩)] #[]] w λ e w'=>e=.returned (.bool (foldS step s0 l).1)/\(KS w0 w' b lvl (foldS step s0 l).2/\((foldS step s0 l).1=true->P (foldS step s0 l).2))/\Mv b w w':=by
 obtain ⟨W0,hW0⟩:∃W,W=w.alloc (.cells #[.func (.func 36) #[.pointer (some ⟨b,0,none⟩)] #[]] 87):=⟨_,rfl⟩
 obtain ⟨g0,hg0⟩:∃g,g=w.heap.size:=⟨_,rfl⟩
 have HB:Hid (Below w.heap.size w W0):=by rw [hW0];exact (b_ _ w).alloc (n_ _) _
 have HX:Hid (CB W0 g0 87 [.func (.func 36) #[.pointer (some ⟨b,0,none⟩)] #[]]):=by rw [hW0,hg0];exact CB.new w _ [.func (.func 36) #[.pointer (some ⟨b,0,none⟩)] #[]]
 have hne:g0≠b:=by have:=hs.2.lt;omega
 obtain ⟨⟨R1,R2⟩,hR⟩:∃R,foldS step s0 l=R:=⟨_,rfl⟩
 have HC:=h_ (contN_any w0 W0 b lvl step P l A c g0 n s0 R1 R2 hR hn hm H0 (hs.below HB.out) hP (HX.out.c 0 rfl) HX.out.lt hne);rw [hR];simp only;clear hn hm H0 hR HX hs hP hne;go_enter Tryz.func106,Tryz.ntmps106;go_upto_region 1 with fail;rw [<-hW0,<-hg0];clear hW0 hg0;go_wp2_with fail;refine HC.out.mono ?_;rintro e w2 ⟨rfl,hk,hb⟩;have HB9:=h_ ((Mv.of_below b HB.out).trans hb);have HK9:=h_ hk;clear hb hk HC;go_wp2_with fail;go_ret;exact ⟨by cases R1 <;> rfl,HK9.out,HB9.out⟩
end Go.Proofs.YtifekcbinjdfbaaGreatDoor
