import Derived.Test.YtocecpghoncmgaaGreatDoorQh
import Derived.Test.YtocecpghoncmgaaGreatDoorQLkG
import Derived.Test.YtocecpghoncmgaaGreatDoorQLnP
import Derived.Test.YtocecpghoncmgaaGreatDoorQPkA
import Derived.Test.YtocecpghoncmgaaGreatDoorQPrD
import Derived.Test.YtocecpghoncmgaaGreatDoorQXA
import Derived.Deep.RegionHeld3
import Derived.Deep.RegionLaw
import Derived.Test.YtocecpghoncmgaaGreatDoorYC
set_option maxHeartbeats 12800000
set_option maxRecDepth 20000
namespace Go.Proofs.YtocecpghoncmgaaGreatDoor
open Go.RowKit
theorem kidc_at {w0:World} {ks:List GN} {A:Option Addr} {n c:Nat} (h:DxAt w0 (gKids ks) (.slice A n c)) {i:Nat} {a:GN} (hi:ks[i]?=some a):∃g og S I D B1 B2 B3 B4 m1 m2 m3 m4 d1 d2 d3 d4 pp,A=some ⟨g,og,none⟩/\S.data.toList=a.nm /\
  ∀W:World,Below w0.heap.size w0 W->W.cell? ⟨g,og+i*9,none⟩=some (.int .i64 a.kind)/\W.cell? ⟨g,og+i*9+1,none⟩=some (.string S)/\W.cell? ⟨g,og+i*9+2,none⟩=some (.string I)/\W.cell? ⟨g,og+i*9+3,none⟩=some (.string D)/\W.cell? ⟨g,og+i*9+4,none⟩=some (.slice B1 m1 d1)/\W.cell? ⟨g,og+i*9+5,none⟩=some (.slice B2 m2 d2)/\W.cell? ⟨g,og+i*9+6,none⟩=some (.slice B3 m3 d3)/\W.cell? ⟨g,og+i*9+7,none⟩=some (.slice B4 m4 d4)/\W.cell? ⟨g,og+i*9+8,none⟩=some (.int .i64 pp):=by
 unfold gKids at h;rw [gNodes_flat] at h;obtain ⟨g,og,c',ys,hv,_,_,hg,hy,_,hc⟩:=DxAt.elem (f:=gNode) (k:=9) gNode_len (by decide) h hi;obtain ⟨k,nm,ini,dft,en,le,mo,ks',p⟩:=a;obtain ⟨A1,A2,A3,A4,c1,c2,c3,c4,rfl,_⟩:=node_v hy;refine ⟨g,og,⟨nm.toArray⟩,⟨ini.toArray⟩,⟨dft.toArray⟩,A1,A2,A3,A4,en.length,le.length,mo.length,ks'.length,c1,c2,c3,c4,p,by injection hv,rfl,λ W hb=>?_⟩
 have kb:∀{p:Addr} {u:Value},w0.cell? p=some u->W.cell? p=some u:=λ hc=>by rw [World.cell?_of_block (hb.block _ (World.block_lt_of_cell? w0 _ hc))];exact hc
 exact ⟨kb (hc 0 _ rfl),kb (hc 1 _ rfl),kb (hc 2 _ rfl),kb (hc 3 _ rfl),kb (hc 4 _ rfl),kb (hc 5 _ rfl),kb (hc 6 _ rfl),kb (hc 7 _ rfl),kb (hc 8 _ rfl)⟩
theorem rgK_snoc (l:List GN) (x:GN):rgK (l++[x])=rgK l+if isSt x.kind=true then 1 else 0:=by
 induction l with
 |nil=>simp [rgK]
 |cons y l ih=>rw [List.cons_append,rgK,rgK,ih];omega
theorem kids_len9 {w0:World} {ks:List GN} {A:Option Addr} {n c:Nat} (h:DxAt w0 (gKids ks) (.slice A n c)):ks.length=n/\n<=9223372036854775807:=by
 obtain ⟨A',c',e,h1,h2⟩:=DxAt.slice h;injection e with _ e _
 have:maxLen<=9223372036854775807:=by decide
 exact ⟨e.symm,by omega⟩
theorem lregions_any (w0 w:World) (k p:Int) (nm ini dft:List UInt8) (en le:List GA) (mo:List GM) (ks:List GN) (xs:List Value) (hb:Below w0.heap.size w0 w) (hx:DxsAt w0 (gNode (.mk k nm ini dft en le mo ks p)) xs) :
  Calls Tryz.prog 89 #[.agg xs.toArray] w λ e w'=>e=.returned (.int .i64 (rgK ks:Int))/\Below w.heap.size w w':=by
 obtain ⟨A1,A2,A3,A4,c1,c2,c3,c4,rfl,_,_,_,hkd⟩:=node_v hx;obtain ⟨hkl,hkm⟩:=kids_len9 hkd;obtain ⟨N0,hN0⟩:=str_of nm;obtain ⟨I0,hI0⟩:=str_of ini;obtain ⟨D0,hD0⟩:=str_of dft;rw [hN0,hI0,hD0];have HKC:=h_ (λ (i:Nat) (a:GN) (hi:ks[i]?=some a)=>kidc_at hkd hi);have HRS:=h_ (rgK_len ks)
 obtain ⟨NK,hNK⟩:∃n,ks.length=n:=⟨_,rfl⟩
 have HNK:=h_ hNK
 have HKM:Hid (NK<=9223372036854775807):=by rw [<-hNK];exact hkm
 rw [hNK]
 obtain ⟨W1,hW1⟩:∃W,W=w.alloc (.cells #[.int .i64 k,.string N0,.string I0,.string D0,.slice A1 en.length c1,.slice A2 le.length c2,.slice A3 mo.length c3,.slice A4 NK c4,.int .i64 p] 27):=⟨_,rfl⟩
 obtain ⟨g1,hg1⟩:∃g,g=w.heap.size:=⟨_,rfl⟩
 have hal:Below w.heap.size w W1:=by rw [hW1];exact (b_ _ w).alloc (n_ _) _
 have hc1:CB W1 g1 27 [.int .i64 k,.string N0,.string I0,.string D0,.slice A1 en.length c1,.slice A2 le.length c2,.slice A3 mo.length c3,.slice A4 NK c4,.int .i64 p]:=by rw [hW1,hg1];exact CB.new w _ [.int .i64 k,.string N0,.string I0,.string D0,.slice A1 en.length c1,.slice A2 le.length c2,.slice A3 mo.length c3,.slice A4 NK c4,.int .i64 p]
 have z7:=hc1.c 7 rfl;have HB:=h_ (And.intro hb hal);clear hx hkd hkl hkm hN0 hI0 hD0 hNK hc1 hb hal;go_enter Tryz.func89,Tryz.ntmps89;go_upto_region 1 with fail;rw [<-hW1,<-hg1];clear hW1 hg1;go_wp2_with fail
 go_loopw [3,9] (λ mv iv wr=>∃(i:Nat),i<=NK/\iv=.int .i64 (i:Int)/\mv=.int .i64 (rgK (ks.take i):Int)/\Hid (Below w.heap.size w wr)) (λ _ iv _=>NK-(intOf iv).toNat)
 case atStart=>exact ⟨0,Nat.zero_le _,rfl,rfl,HB.out.2⟩
 case round =>
  obtain ⟨i,hi,rfl,rfl,HBW⟩:=hrel;clear z7
  by_cases him:i<NK
  ·have him':(i:Int)<NK:=by omega
   have HIM:=h_ him
   obtain ⟨a,ha⟩:∃a,ks[i]?=some a:=⟨_,List.getElem?_eq_getElem (by rw [HNK.out];exact him)⟩
   obtain ⟨g,og,S,I,D,B1,B2,B3,B4,m1,m2,m3,m4,d1,d2,d3,d4,pp,rfl,_,hcell⟩:=HKC.out i a ha;obtain ⟨u0,u1,u2,u3,u4,u5,u6,u7,u8⟩:=hcell wr (HB.out.1.trans (HBW.out.mono HB.out.1.size))
   obtain ⟨W5,hW5⟩:∃W,W=wr.alloc (.cells #[.int .i64 a.kind,.string S,.string I,.string D,.slice B1 m1 d1,.slice B2 m2 d2,.slice B3 m3 d3,.slice B4 m4 d4,.int .i64 pp] 27):=⟨_,rfl⟩
   obtain ⟨g5,hg5⟩:∃g,g=wr.heap.size:=⟨_,rfl⟩
   have hal5:Below wr.heap.size wr W5:=by rw [hW5];exact (b_ _ wr).alloc (n_ _) _
   have HX5:Hid (CB W5 g5 27 [.int .i64 a.kind,.string S,.string I,.string D,.slice B1 m1 d1,.slice B2 m2 d2,.slice B3 m3 d3,.slice B4 m4 d4,.int .i64 pp]):=by rw [hW5,hg5];exact CB.new wr _ [.int .i64 a.kind,.string S,.string I,.string D,.slice B1 m1 d1,.slice B2 m2 d2,.slice B3 m3 d3,.slice B4 m4 d4,.int .i64 pp]
   have HIS:=h_ (lisstate_any W5 (.string S) (.string I) (.string D) (.slice B1 m1 d1) (.slice B2 m2 d2) (.slice B3 m3 d3) (.slice B4 m4 d4) (.int .i64 pp) a.kind (by simp [Value.oneCell']))
   have HNX:Hid (rgK (ks.take (i+1))=rgK (ks.take i)+if isSt a.kind=true then 1 else 0):=by
    show _=_;rw [List.take_add_one,ha,Option.toList,rgK_snoc]
   have HRL:Hid (rgK (ks.take i)<=i):=Nat.le_trans (rgK_len _) (by rw [List.length_take];omega);have HB5:=h_ (HBW.out.trans (hal5.mono HBW.out.size))
   obtain ⟨q,hq⟩:∃q,isSt a.kind=q:=⟨_,rfl⟩
   rw [hq] at HIS HNX
   obtain ⟨K,hK⟩:∃K,a.kind=K:=⟨_,rfl⟩
   rw [hK] at hW5 HX5 u0 HIS;clear ha hcell hq hK hal5 HBW hi;go_upto_region 5 with fail;rw [<-hW5,<-hg5];clear hW5 hg5 u0 u1 u2 u3 u4 u5 u6 u7 u8;have z0:=HX5.out.c 0 rfl;have z1:=HX5.out.c 1 rfl;have z2:=HX5.out.c 2 rfl;have z3:=HX5.out.c 3 rfl;have z4:=HX5.out.c 4 rfl;have z5:=HX5.out.c 5 rfl;have z6:=HX5.out.c 6 rfl;have z7:=HX5.out.c 7 rfl;have z8:=HX5.out.c 8 rfl;go_wp2_with fail;refine HIS.out.mono ?_;rintro e w6 ⟨rfl,hb6⟩;have HB6:=h_ (HB5.out.trans (hb6.mono HB5.out.size));clear hb6 HB5 HIS HX5 z0 z1 z2 z3 z4 z5 z6 z7 z8
   cases q with
   |true =>
    go_wp2_with fail
    go_roundw
    case rel=>exact ⟨i+1,by have:=HIM.out;omega,by have h1:=HIM.out;have h2:=HKM.out;rw [Go.IntWalk.wrap64_in _ ⟨by omega,by omega⟩];rfl,by have h1:=HIM.out;have h2:=HKM.out;have h3:=HRL.out;rw [HNX.out,Go.IntWalk.wrap64_in _ ⟨by omega,by omega⟩];rfl,HB6⟩
    case measure=>have h1:=HIM.out;have h2:=HKM.out;rw [Go.IntWalk.wrap64_in _ ⟨by omega,by omega⟩];simp [intOf];omega
   |false =>
    go_wp2_with fail
    go_roundw
    case rel=>exact ⟨i+1,by have:=HIM.out;omega,by have h1:=HIM.out;have h2:=HKM.out;rw [Go.IntWalk.wrap64_in _ ⟨by omega,by omega⟩];rfl,by rw [HNX.out];rfl,HB6⟩
    case measure=>have h1:=HIM.out;have h2:=HKM.out;rw [Go.IntWalk.wrap64_in _ ⟨by omega,by omega⟩];simp [intOf];omega
  ·have him':¬(i:Int)<NK:=by omega
   have HR:Hid (rgK (ks.take i)=rgK ks):=by
    show _=_;rw [List.take_of_length_le (by rw [HNK.out];omega)]
   clear hi;go_wp2_with fail;go_ret;exact ⟨by rw [HR.out];rfl,HBW.out⟩
theorem hk1_any (w:World) (k:Int) (S T:ByteArray) (v2 v3 v4 v5 v6 v7 v8:Value) (h:Nat) (hc:w.cell? ⟨h,0,none⟩=some (.string T)) (hh:h<w.heap.size) (ho:∀u∈[Value.string S,v2,v3,v4,v5,v6,v7,v8],u.oneCell'=true) :
  Calls Tryz.prog 148 #[.agg #[.int .i64 k,.string S,v2,v3,v4,v5,v6,v7,v8],.pointer (some ⟨h,0,none⟩)] w λ e w'=>e=.returned (.bool (S.data.toList==T.data.toList))/\Below w.heap.size w w':=by
 obtain ⟨W1,hW1⟩:∃W,W=w.alloc (.cells #[.int .i64 k,.string S,v2,v3,v4,v5,v6,v7,v8] 27):=⟨_,rfl⟩
 obtain ⟨g1,hg1⟩:∃g,g=w.heap.size:=⟨_,rfl⟩
 have HB:Hid (Below w.heap.size w W1):=by rw [hW1];exact (b_ _ w).alloc (n_ _) _
 have HX:Hid (CB W1 g1 27 [.int .i64 k,.string S,v2,v3,v4,v5,v6,v7,v8]):=by rw [hW1,hg1];exact CB.new w _ [.int .i64 k,.string S,v2,v3,v4,v5,v6,v7,v8]
 have y1:=HX.out.c 1 rfl
 have y0:W1.cell? ⟨h,0,none⟩=some (.string T):=by rw [World.cell?_of_block (HB.out.block h hh)];exact hc
 have o2:=ho v2 (by simp);have o3:=ho v3 (by simp);have o4:=ho v4 (by simp);have o5:=ho v5 (by simp);have o6:=ho v6 (by simp);have o7:=ho v7 (by simp);have o8:=ho v8 (by simp)
 have HR:Hid ((S.toList==T.toList)=(S.data.toList==T.data.toList)):=by show _=_;rw [Lib.toList_data,Lib.toList_data]
 clear hc hh ho;go_enter Tryz.func148,Tryz.ntmps148;go_upto_region 1 with fail;rw [<-hW1,<-hg1];clear hW1 hg1 o2 o3 o4 o5 o6 o7 o8;go_wp2_with fail;go_ret;exact ⟨by rw [<-HR.out];rfl,HB.out⟩
theorem hkFirst_any (w0 w:World) (ks:List GN) (A:Option Addr) (n c h:Nat) (T:ByteArray) (hkd:DxAt w0 (gKids ks) (.slice A n c)) (hb:Below w0.heap.size w0 w) (hc:w.cell? ⟨h,0,none⟩=some (.string T)) (hh:h<w.heap.size) :
  Calls Tryz.prog 202 #[.slice A n c,.func (.func 148) #[] #[.pointer (some ⟨h,0,none⟩)]] w λ e w'=>∃r:Int,e=.returned (.int .i64 r)/\decide (0<=r)=(ks.any λ x=>x.nm==T.data.toList)/\Below w.heap.size w w':=by
 obtain ⟨hkl,hkm⟩:=kids_len9 hkd;have HKC:=h_ (λ (i:Nat) (a:GN) (hi:ks[i]?=some a)=>kidc_at hkd hi);have HN:=h_ hkl;have HM:=h_ hkm;have HB:=h_ hb;have HC0:=h_ (And.intro hc hh);clear hkd hkl hkm hb hc hh;go_enter Tryz.func202,Tryz.ntmps202;go_wp2_with fail
 go_loopw [8] (λ iv wr=>∃i:Nat,i<=n/\iv=.int .i64 (i:Int)/\Hid (((ks.take i).any λ x=>x.nm==T.data.toList)=false)/\Hid (Below w.heap.size w wr)) (λ iv _=>n-(intOf iv).toNat)
 case atStart=>exact ⟨0,Nat.zero_le _,rfl,rfl,b_ _ w⟩
 case round =>
  obtain ⟨i,hi,rfl,HT,HBW⟩:=hrel
  by_cases him:i<n
  ·have him':(i:Int)<n:=by omega
   have HIM:=h_ him
   obtain ⟨a,ha⟩:∃a,ks[i]?=some a:=⟨_,List.getElem?_eq_getElem (by rw [HN.out];exact him)⟩
   obtain ⟨g,og,S,I,D,B1,B2,B3,B4,m1,m2,m3,m4,d1,d2,d3,d4,pp,rfl,hS,hcell⟩:=HKC.out i a ha;obtain ⟨u0,u1,u2,u3,u4,u5,u6,u7,u8⟩:=hcell wr (HB.out.trans (HBW.out.mono HB.out.size));have HCL:=h_ (hk1_any wr a.kind S T (.string I) (.string D) (.slice B1 m1 d1) (.slice B2 m2 d2) (.slice B3 m3 d3) (.slice B4 m4 d4) (.int .i64 pp) h (by rw [World.cell?_of_block (HBW.out.block h HC0.out.2)];exact HC0.out.1) (Nat.lt_of_lt_of_le HC0.out.2 HBW.out.size) (by simp [Value.oneCell']))
   have HNX:Hid (((ks.take (i+1)).any λ x=>x.nm==T.data.toList)=(S.data.toList==T.data.toList)):=by
    show _=_;rw [List.take_add_one,ha,List.any_append,HT.out,hS];simp
   have HAL:Hid (((ks.take (i+1)).any λ x=>x.nm==T.data.toList)=true->(ks.any λ x=>x.nm==T.data.toList)=true):=λ h=>by
    rw [List.any_eq_true] at h ⊢;obtain ⟨x,hx,h⟩:=h;exact ⟨x,List.mem_of_mem_take hx,h⟩
   obtain ⟨r,hr⟩:∃r,(S.data.toList==T.data.toList)=r:=⟨_,rfl⟩
   rw [hr] at HCL HNX
   obtain ⟨K,hK⟩:∃K,a.kind=K:=⟨_,rfl⟩
   rw [hK] at u0 HCL;clear ha hS hcell hr hK HT;cases r
   ·go_wp2_with fail;refine HCL.out.mono ?_;rintro e w2 ⟨rfl,hb⟩;have HB2:=h_ (HBW.out.trans (hb.mono HBW.out.size));clear hb HCL u0 u1 u2 u3 u4 u5 u6 u7 u8 HBW;go_wp2_with fail
    go_roundw
    case rel=>exact ⟨i+1,by have:=HIM.out;omega,by have h1:=HIM.out;have h2:=HM.out;rw [Go.IntWalk.wrap64_in _ ⟨by omega,by omega⟩];rfl,HNX,HB2⟩
    case measure=>have h1:=HIM.out;have h2:=HM.out;rw [Go.IntWalk.wrap64_in _ ⟨by omega,by omega⟩];simp [intOf];omega
   ·go_wp2_with fail;refine HCL.out.mono ?_;rintro e w2 ⟨rfl,hb⟩;have HB2:=h_ (HBW.out.trans (hb.mono HBW.out.size));clear hb HCL u0 u1 u2 u3 u4 u5 u6 u7 u8 HBW;go_wp2_with fail;go_ret;exact ⟨_,rfl,by rw [HAL.out HNX.out];simp,HB2.out⟩
  ·have him':¬(i:Int)<n:=by omega
   have HALL:Hid ((ks.any λ x=>x.nm==T.data.toList)=false):=by
    have:=HT.out;rw [List.take_of_length_le (by rw [HN.out];omega)] at this;exact this
   clear hi;go_wp2_with fail;go_ret;exact ⟨_,rfl,by rw [HALL.out];rfl,HBW.out⟩
theorem hkCont_any (w0 w:World) (ks:List GN) (A:Option Addr) (n c h:Nat) (T:ByteArray) (hkd:DxAt w0 (gKids ks) (.slice A n c)) (hb:Below w0.heap.size w0 w) (hc:w.cell? ⟨h,0,none⟩=some (.string T)) (hh:h<w.heap.size) :
  Calls Tryz.prog 147 #[.slice A n c,.func (.func 148) #[] #[.pointer (some ⟨h,0,none⟩)]] w λ e w'=>e=.returned (.bool (ks.any λ x=>x.nm==T.data.toList))/\Below w.heap.size w w':=by
 have HC:=h_ (hkFirst_any w0 w ks A n c h T hkd hb hc hh);clear hkd hb hc hh;go_enter Tryz.func147,Tryz.ntmps147;go_wp2_with fail;refine HC.out.mono ?_;rintro e w2 ⟨r,rfl,hr,hb⟩;have HB2:=h_ hb;have HR2:=h_ hr;clear hb hr HC;go_wp2_with fail;go_ret;exact ⟨by rw [<-HR2.out];rfl,HB2.out⟩
theorem lhaskid_any (w0 w:World) (k p:Int) (nm ini dft:List UInt8) (en le:List GA) (mo:List GM) (ks:List GN) (xs:List Value) (T:ByteArray) (hb:Below w0.heap.size w0 w) (hx:DxsAt w0 (gNode (.mk k nm ini dft en le mo ks p)) xs) :
  Calls Tryz.prog 90 #[.agg xs.toArray,.string T] w λ e w'=>e=.returned (.bool (ks.any λ x=>x.nm==T.data.toList))/\Below w.heap.size w w':=by
 obtain ⟨A1,A2,A3,A4,c1,c2,c3,c4,rfl,_,_,_,hkd⟩:=node_v hx;obtain ⟨N0,hN0⟩:=str_of nm;obtain ⟨I0,hI0⟩:=str_of ini;obtain ⟨D0,hD0⟩:=str_of dft;rw [hN0,hI0,hD0]
 obtain ⟨NK,hNK⟩:∃n,ks.length=n:=⟨_,rfl⟩
 rw [hNK] at hkd ⊢
 obtain ⟨Wa,hWa⟩:∃W,W=w.alloc (.cells #[.int .i64 k,.string N0,.string I0,.string D0,.slice A1 en.length c1,.slice A2 le.length c2,.slice A3 mo.length c3,.slice A4 NK c4,.int .i64 p] 27):=⟨_,rfl⟩
 obtain ⟨W1,hW1⟩:∃W,W=Wa.alloc (.cells #[.string T] 9):=⟨_,rfl⟩
 obtain ⟨g1,hg1⟩:∃g,g=w.heap.size:=⟨_,rfl⟩
 obtain ⟨g2,hg2⟩:∃g,g=Wa.heap.size:=⟨_,rfl⟩
 have hs:Wa.heap.size=w.heap.size+1:=by rw [hWa];simp
 have ha1:Below w.heap.size w Wa:=by rw [hWa];exact (b_ _ w).alloc (n_ _) _
 have ha2:Below Wa.heap.size Wa W1:=by rw [hW1];exact (b_ _ Wa).alloc (n_ _) _
 have hal:Below w.heap.size w W1:=ha1.trans (ha2.mono ha1.size)
 have hc1:CB W1 g1 27 [.int .i64 k,.string N0,.string I0,.string D0,.slice A1 en.length c1,.slice A2 le.length c2,.slice A3 mo.length c3,.slice A4 NK c4,.int .i64 p]:=by
  refine CB.below ?_ ha2;rw [hWa,hg1];exact CB.new w _ [.int .i64 k,.string N0,.string I0,.string D0,.slice A1 en.length c1,.slice A2 le.length c2,.slice A3 mo.length c3,.slice A4 NK c4,.int .i64 p]
 have hc2:CB W1 g2 9 [.string T]:=by rw [hW1,hg2];exact CB.new Wa _ [.string T]
 have z7:=hc1.c 7 rfl;have HC:=h_ (hkCont_any w0 W1 ks A4 NK c4 g2 T hkd (hb.trans (hal.mono hb.size)) (hc2.c 0 rfl) hc2.lt);have HB:=h_ hal
 have hg2':g2=w.heap.size+1:=by rw [hg2,hs]
 rw [hWa] at hW1;clear hx hkd hN0 hI0 hD0 hNK hc1 hc2 hb hal ha1 ha2 hWa hs hg2;go_enter Tryz.func90,Tryz.ntmps90;go_upto_region 1 with fail;rw [<-hW1,<-hg2',<-hg1];clear hW1 hg1 hg2';go_wp2_with fail;refine HC.out.mono ?_;rintro e w2 ⟨rfl,hb2⟩;have HB2:=h_ (HB.out.trans (hb2.mono HB.out.size));clear hb2 HC HB z7;go_wp2_with fail;go_ret;exact ⟨rfl,HB2.out⟩
variable {w0 w1 w:World} {b:Nat} {P:LP} {L:List GN} {F:List Spt} {V:List (List UInt8)} {f:Int×Int}
theorem linitial_any (hF:LF w0 w1 b P L F V) (h:LS w0 w1 w b P f) (k p:Int) (nm ini dft:List UInt8) (en le:List GA) (mo:List GM) (ks:List GN) (xs:List Value) (hx:DxsAt w0 (gNode (.mk k nm ini dft en le mo ks p)) xs) :
  Calls Tryz.prog 50 #[.pointer (some ⟨b,0,none⟩),.agg xs.toArray] w λ e w'=>e=.returned (.tuple #[])/\LS w0 w1 w' b P (adv f (inL (.mk k nm ini dft en le mo ks p)))/\Mv b w w':=by
 have HRG0:=λ (W:World) (hb:Below w0.heap.size w0 W)=>lregions_any w0 W k p nm ini dft en le mo ks xs hb hx;have HHK0:=λ (W:World) (T:ByteArray) (hb:Below w0.heap.size w0 W)=>lhaskid_any w0 W k p nm ini dft en le mo ks xs T hb hx
 have HE0:inL (.mk k nm ini dft en le mo ks p)=if (decide (k=1)&&decide (0<rgK ks))=true then (if (ks.any λ x=>x.nm==ini)=true then [] else [(25,p)])
  else (if ini.isEmpty=true then [] else [(25,p)])++(if (!decide (k=2) || decide (1<rgK ks))=true then [] else [(25,p)]):=rfl
 obtain ⟨A1,A2,A3,A4,c1,c2,c3,c4,rfl,_,_,_,hkd⟩:=node_v hx;obtain ⟨hkl,hkm⟩:=kids_len9 hkd;obtain ⟨N0,hN0⟩:=str_of nm;obtain ⟨I0,hI0⟩:=str_of ini;obtain ⟨D0,hD0⟩:=str_of dft;have hIL:I0.data.toList=ini:=toArr hI0
 have hIE:ini.isEmpty=I0.toList.isEmpty:=by rw [Lib.toList_data,hIL]
 have HHK1:=λ (W:World) (hb:Below w0.heap.size w0 W)=>HHK0 W I0 hb;rw [hIL] at HHK1;rw [hN0,hI0,hD0] at HRG0 HHK1 ⊢
 obtain ⟨n1,hn1⟩:∃n,en.length=n:=⟨_,rfl⟩
 obtain ⟨n2,hn2⟩:∃n,le.length=n:=⟨_,rfl⟩
 obtain ⟨n3,hn3⟩:∃n,mo.length=n:=⟨_,rfl⟩
 obtain ⟨n4,hn4⟩:∃n,ks.length=n:=⟨_,rfl⟩
 rw [hn1,hn2,hn3,hn4] at HRG0 HHK1 ⊢;have hrl:=rgK_len ks
 obtain ⟨R,hR⟩:∃R,rgK ks=R:=⟨_,rfl⟩
 rw [hR] at HRG0 HE0 hrl
 obtain ⟨qk,hqk⟩:∃q,(ks.any λ x=>x.nm==ini)=q:=⟨_,rfl⟩
 rw [hqk] at HHK1 HE0;rw [hIE] at HE0
 obtain ⟨E,hE⟩:∃E,inL (.mk k nm ini dft en le mo ks p)=E:=⟨_,rfl⟩
 rw [hE] at HE0 ⊢;have HE:=h_ HE0
 obtain ⟨W1,hW1⟩:∃W,W=w.alloc (.cells #[.int .i64 k,.string N0,.string I0,.string D0,.slice A1 n1 c1,.slice A2 n2 c2,.slice A3 n3 c3,.slice A4 n4 c4,.int .i64 p] 27):=⟨_,rfl⟩
 obtain ⟨g1,hg1⟩:∃g,g=w.heap.size:=⟨_,rfl⟩
 have hal:Below w.heap.size w W1:=by rw [hW1];exact (b_ _ w).alloc (n_ _) _
 have HX:Hid (CB W1 g1 27 [.int .i64 k,.string N0,.string I0,.string D0,.slice A1 n1 c1,.slice A2 n2 c2,.slice A3 n3 c3,.slice A4 n4 c4,.int .i64 p]):=by rw [hW1,hg1];exact CB.new w _ [.int .i64 k,.string N0,.string I0,.string D0,.slice A1 n1 c1,.slice A2 n2 c2,.slice A3 n3 c3,.slice A4 n4 c4,.int .i64 p]
 have HGB:Hid (g1≠b):=by have:=h.2.2.lt;rw [hg1];exact λ e=>by omega
 have HLB:=h_ hF.lb
 have HQ1:Hid (∀W:World,Below W1.heap.size W1 W->LS w0 w1 W b P f/\Mv b w W/\CB W g1 27 [.int .i64 k,.string N0,.string I0,.string D0,.slice A1 n1 c1,.slice A2 n2 c2,.slice A3 n3 c3,.slice A4 n4 c4,.int .i64 p]):=λ W hb=>⟨(h.below hal).below hb,Mv.of b (hal.trans (hb.mono hal.size)),HX.out.below hb⟩
 have HRQ:Hid (∀(q:Bool) (cd:Int) (g:Int×Int) (w6:World),Hid (LS w0 w1 w6 b P g/\Mv b w w6/\CB w6 g1 27 [.int .i64 k,.string N0,.string I0,.string D0,.slice A1 n1 c1,.slice A2 n2 c2,.slice A3 n3 c3,.slice A4 n4 c4,.int .i64 p])->Calls Tryz.prog 48 #[.pointer (some ⟨b,4,none⟩),.bool q,.int .i64 cd,.int .i64 p] w6 λ e w'=>e=.returned (.tuple #[])/\(w'.cell? ⟨g1,0,none⟩=some (.int .i64 k)/\w'.cell? ⟨g1,1,none⟩=some (.string N0)/\w'.cell? ⟨g1,2,none⟩=some (.string I0)/\w'.cell? ⟨g1,3,none⟩=some (.string D0)/\w'.cell? ⟨g1,4,none⟩=some (.slice A1 n1 c1)/\w'.cell? ⟨g1,5,none⟩=some (.slice A2 n2 c2)/\w'.cell? ⟨g1,6,none⟩=some (.slice A3 n3 c3)/\w'.cell? ⟨g1,7,none⟩=some (.slice A4 n4 c4)/\w'.cell? ⟨g1,8,none⟩=some (.int .i64 p)/\w'.cell? ⟨b,1,none⟩=some P.sv)/\Hid (LS w0 w1 w' b P (adv g (if q=true then [] else [(cd,p)]))/\Mv b w w'/\CB w' g1 27 [.int .i64 k,.string N0,.string I0,.string D0,.slice A1 n1 c1,.slice A2 n2 c2,.slice A3 n3 c3,.slice A4 n4 c4,.int .i64 p])):=by
  rintro q cd g w6 ⟨h1,h2,h3⟩;refine (lrequire_any w0 w1 w6 b P g q cd p h1 HLB.out).mono ?_;rintro e w' ⟨rfl,h4,h5⟩;have c:=h3.mv h5 HGB.out;exact ⟨rfl,⟨c.c 0 rfl,c.c 1 rfl,c.c 2 rfl,c.c 3 rfl,c.c 4 rfl,c.c 5 rfl,c.c 6 rfl,c.c 7 rfl,c.c 8 rfl,h4.2.2.c 1 rfl⟩,h4,h2.trans h5,c⟩
 have HB0:=h_ (h.1.trans (hal.mono h.1.size));have HRG:=h_ HRG0;have HHK:=h_ HHK1;clear hx hkd hkl hkm hN0 hI0 hD0 hIL hIE hn1 hn2 hn3 hn4 hrl hR hqk hE HRG0 HHK0 HHK1 HE0 hF h hal
 obtain ⟨RI,hRI⟩:∃I:Int,(R:Int)=I:=⟨_,rfl⟩
 have HRI:=h_ hRI;rw [hRI] at HRG;clear hRI
 have HRd:Hid (∀(W:World) (g:Int×Int),Hid (LS w0 w1 W b P g/\Mv b w W/\CB W g1 27 [.int .i64 k,.string N0,.string I0,.string D0,.slice A1 n1 c1,.slice A2 n2 c2,.slice A3 n3 c3,.slice A4 n4 c4,.int .i64 p])->Calls Tryz.prog 89 #[.agg #[.int .i64 k,.string N0,.string I0,.string D0,.slice A1 n1 c1,.slice A2 n2 c2,.slice A3 n3 c3,.slice A4 n4 c4,.int .i64 p]] W λ e w'=>e=.returned (.int .i64 RI)/\(w'.cell? ⟨g1,0,none⟩=some (.int .i64 k)/\w'.cell? ⟨g1,1,none⟩=some (.string N0)/\w'.cell? ⟨g1,2,none⟩=some (.string I0)/\w'.cell? ⟨g1,3,none⟩=some (.string D0)/\w'.cell? ⟨g1,4,none⟩=some (.slice A1 n1 c1)/\w'.cell? ⟨g1,5,none⟩=some (.slice A2 n2 c2)/\w'.cell? ⟨g1,6,none⟩=some (.slice A3 n3 c3)/\w'.cell? ⟨g1,7,none⟩=some (.slice A4 n4 c4)/\w'.cell? ⟨g1,8,none⟩=some (.int .i64 p)/\w'.cell? ⟨b,1,none⟩=some P.sv)/\Hid (LS w0 w1 w' b P g/\Mv b w w'/\CB w' g1 27 [.int .i64 k,.string N0,.string I0,.string D0,.slice A1 n1 c1,.slice A2 n2 c2,.slice A3 n3 c3,.slice A4 n4 c4,.int .i64 p])):=by
  rintro W g ⟨h1,h2,h3⟩;refine (HRG.out W h1.1).mono ?_;rintro e w' ⟨rfl,hb⟩;have c:=h3.below hb;have hk:=h1.below hb;exact ⟨rfl,⟨c.c 0 rfl,c.c 1 rfl,c.c 2 rfl,c.c 3 rfl,c.c 4 rfl,c.c 5 rfl,c.c 6 rfl,c.c 7 rfl,c.c 8 rfl,hk.2.2.c 1 rfl⟩,hk,h2.trans (Mv.of b hb),c⟩
 have HKd:Hid (∀W:World,Hid (LS w0 w1 W b P f/\Mv b w W/\CB W g1 27 [.int .i64 k,.string N0,.string I0,.string D0,.slice A1 n1 c1,.slice A2 n2 c2,.slice A3 n3 c3,.slice A4 n4 c4,.int .i64 p])->Calls Tryz.prog 90 #[.agg #[.int .i64 k,.string N0,.string I0,.string D0,.slice A1 n1 c1,.slice A2 n2 c2,.slice A3 n3 c3,.slice A4 n4 c4,.int .i64 p],.string I0] W λ e w'=>e=.returned (.bool qk)/\(w'.cell? ⟨g1,0,none⟩=some (.int .i64 k)/\w'.cell? ⟨g1,1,none⟩=some (.string N0)/\w'.cell? ⟨g1,2,none⟩=some (.string I0)/\w'.cell? ⟨g1,3,none⟩=some (.string D0)/\w'.cell? ⟨g1,4,none⟩=some (.slice A1 n1 c1)/\w'.cell? ⟨g1,5,none⟩=some (.slice A2 n2 c2)/\w'.cell? ⟨g1,6,none⟩=some (.slice A3 n3 c3)/\w'.cell? ⟨g1,7,none⟩=some (.slice A4 n4 c4)/\w'.cell? ⟨g1,8,none⟩=some (.int .i64 p)/\w'.cell? ⟨b,1,none⟩=some P.sv)/\Hid (LS w0 w1 w' b P f/\Mv b w w'/\CB w' g1 27 [.int .i64 k,.string N0,.string I0,.string D0,.slice A1 n1 c1,.slice A2 n2 c2,.slice A3 n3 c3,.slice A4 n4 c4,.int .i64 p])):=by
  rintro W ⟨h1,h2,h3⟩;refine (HHK.out W h1.1).mono ?_;rintro e w' ⟨rfl,hb⟩;have c:=h3.below hb;have hk:=h1.below hb;exact ⟨rfl,⟨c.c 0 rfl,c.c 1 rfl,c.c 2 rfl,c.c 3 rfl,c.c 4 rfl,c.c 5 rfl,c.c 6 rfl,c.c 7 rfl,c.c 8 rfl,hk.2.2.c 1 rfl⟩,hk,h2.trans (Mv.of b hb),c⟩
 have z0:=HX.out.c 0 rfl;have z1:=HX.out.c 1 rfl;have z2:=HX.out.c 2 rfl;have z3:=HX.out.c 3 rfl;have z4:=HX.out.c 4 rfl;have z5:=HX.out.c 5 rfl;have z6:=HX.out.c 6 rfl;have z7:=HX.out.c 7 rfl;have z8:=HX.out.c 8 rfl
 obtain ⟨q1,hq1⟩:∃q,(k==1)=q:=⟨_,rfl⟩
 obtain ⟨q2,hq2⟩:∃q,decide (RI > 0)=q:=⟨_,rfl⟩
 obtain ⟨q3,hq3⟩:∃q,I0.toList.isEmpty=q:=⟨_,rfl⟩
 obtain ⟨q4,hq4⟩:∃q,(k==2)=q:=⟨_,rfl⟩
 obtain ⟨q5,hq5⟩:∃q,decide (RI > 1)=q:=⟨_,rfl⟩
 have e4:(k != 2)=!q4:=by rw [<-hq4];rfl
 have HV:Hid (E=if (q1&&q2)=true then (if qk=true then [] else [(25,p)]) else (if q3=true then [] else [(25,p)])++(if (!q4 || q5)=true then [] else [(25,p)])):=by
  have h1:=HRI.out;show _=_;rw [HE.out,dec_beq,dec_beq,hq1,hq3,hq4,<-hq2,<-hq5,<-h1];simp only [gt_iff_lt,Int.natCast_pos,show ((1:Int)<(R:Int))=(1<R) from by simp only [eq_iff_iff];omega]
 have HQ0:=h_ (HQ1.out W1 (b_ _ W1));have HQD:=h_ (HQ1.out W1.drew (b_ _ W1).drew);clear HE HRI hq4;go_enter Tryz.func50,Tryz.ntmps50;go_upto_region 1 with fail;rw [<-hW1,<-hg1];clear hW1 hg1
 have HLST:Hid (∀(w6:World) (g:Int×Int),Hid (LS w0 w1 w6 b P g/\Mv b w w6/\CB w6 g1 27 [.int .i64 k,.string N0,.string I0,.string D0,.slice A1 n1 c1,.slice A2 n2 c2,.slice A3 n3 c3,.slice A4 n4 c4,.int .i64 p])->LS w0 w1 w6 b P g/\Mv b w w6):=λ w6 g h=>⟨h.out.1,h.out.2.1⟩
 go_cut [11] from 4 to 11 (λ s11 wr=>s11=.bool (q1&&q2)/\(wr.cell? ⟨g1,0,none⟩=some (.int .i64 k)/\wr.cell? ⟨g1,1,none⟩=some (.string N0)/\wr.cell? ⟨g1,2,none⟩=some (.string I0)/\wr.cell? ⟨g1,3,none⟩=some (.string D0)/\wr.cell? ⟨g1,4,none⟩=some (.slice A1 n1 c1)/\wr.cell? ⟨g1,5,none⟩=some (.slice A2 n2 c2)/\wr.cell? ⟨g1,6,none⟩=some (.slice A3 n3 c3)/\wr.cell? ⟨g1,7,none⟩=some (.slice A4 n4 c4)/\wr.cell? ⟨g1,8,none⟩=some (.int .i64 p)/\wr.cell? ⟨b,1,none⟩=some P.sv)/\Hid (LS w0 w1 wr b P f/\Mv b w wr/\CB wr g1 27 [.int .i64 k,.string N0,.string I0,.string D0,.slice A1 n1 c1,.slice A2 n2 c2,.slice A3 n3 c3,.slice A4 n4 c4,.int .i64 p]))
 case first =>
  cases q1
  ·go_wp2_with fail
   go_meet
   exact ⟨rfl,⟨z0,z1,z2,z3,z4,z5,z6,z7,z8,HQ0.out.1.2.2.c 1 rfl⟩,HQ0⟩
  ·go_wp2_with fail;refine (HRd.out W1 f HQ0).mono ?_;rintro e w2 ⟨rfl,⟨x0,x1,x2,x3,x4,x5,x6,x7,x8,x9⟩,HQ2⟩;go_wp2_with fail
   go_meet
   exact ⟨by first|rfl|(rw [hq2];rfl),⟨x0,x1,x2,x3,x4,x5,x6,x7,x8,x9⟩,HQ2⟩
 case rest =>
 obtain ⟨rfl,⟨y0,y1,y2,y3,y4,y5,y6,y7,y8,y9⟩,HQC⟩:=hcut;clear z0 z1 z2 z3 z4 z5 z6 z7 z8 HQ0 HQD HX hq1 hq2
 obtain ⟨q0,hq0⟩:∃q,(q1&&q2)=q:=⟨_,rfl⟩
 rw [hq0] at HV ⊢
 have HQE:Hid (LS w0 w1 wc.drew b P f/\Mv b w wc.drew/\CB wc.drew g1 27 [.int .i64 k,.string N0,.string I0,.string D0,.slice A1 n1 c1,.slice A2 n2 c2,.slice A3 n3 c3,.slice A4 n4 c4,.int .i64 p]):=⟨HQC.out.1.below (b_ _ wc).drew,HQC.out.2.1.trans (Mv.of b (b_ _ wc).drew),HQC.out.2.2.drew⟩
 clear hq0
 cases q0 with
 |true =>
  have HV':Hid (E=if qk=true then [] else [(25,p)]):=by show _=_;rw [HV.out];rfl
  have HKe:=h_ (HKd.out wc.drew HQE);clear HV hq3 hq5 e4;go_upto_region 2 with fail
  go_region_held3 (λ W=>W.cell? ⟨g1,0,none⟩=some (.int .i64 k)/\W.cell? ⟨g1,1,none⟩=some (.string N0)/\W.cell? ⟨g1,2,none⟩=some (.string I0)/\W.cell? ⟨g1,3,none⟩=some (.string D0)/\W.cell? ⟨g1,4,none⟩=some (.slice A1 n1 c1)/\W.cell? ⟨g1,5,none⟩=some (.slice A2 n2 c2)/\W.cell? ⟨g1,6,none⟩=some (.slice A3 n3 c3)/\W.cell? ⟨g1,7,none⟩=some (.slice A4 n4 c4)/\W.cell? ⟨g1,8,none⟩=some (.int .i64 p)/\W.cell? ⟨b,1,none⟩=some P.sv) (go_keep) (first|(go_at_call 90;refine HKe.out.mono ?_;rintro e w5 ⟨rfl,⟨x0,x1,x2,x3,x4,x5,x6,x7,x8,x9⟩,HQ5⟩)|(go_at_call 48;refine (HRQ.out _ _ _ _ HQ5).mono ?_;rintro e w6 ⟨rfl,⟨v0,v1,v2,v3,v4,v5,v6,v7,v8,v9⟩,HF6⟩))
  all_goals
   have HF7:=h_ HF6.out;clear x0 x1 x2 x3 x4 x5 x6 x7 x8 x9 v0 v1 v2 v3 v4 v5 v6 v7 v8 v9 y0 y1 y2 y3 y4 y5 y6 y7 y8 y9 HF6 HQ5 HKe HRQ;go_wp2_with fail
   try simp only [Exit.inBlock,Exit.then]
   refine bodyPost_ret (results_none rfl _ _ _) rfl ?_;refine ⟨rfl,?_,HF7.out.2.1⟩;rw [HV'.out];exact HF7.out.1
 |false =>
  have HV':Hid (adv f E=adv (adv f (if q3=true then [] else [(25,p)])) (if (!q4 || q5)=true then [] else [(25,p)])):=by
   show _=_
   rw [HV.out,if_neg (by decide),adv_app f _ (λ x hx=>by
    split at hx
    ·cases hx
    ·rw [List.mem_singleton.1 hx];simp)]
  clear HV HKd;go_upto_region 3 with fail
  go_cut [11] from 22 to 30 (λ s11 wr=>(wr.cell? ⟨g1,0,none⟩=some (.int .i64 k)/\wr.cell? ⟨g1,1,none⟩=some (.string N0)/\wr.cell? ⟨g1,2,none⟩=some (.string I0)/\wr.cell? ⟨g1,3,none⟩=some (.string D0)/\wr.cell? ⟨g1,4,none⟩=some (.slice A1 n1 c1)/\wr.cell? ⟨g1,5,none⟩=some (.slice A2 n2 c2)/\wr.cell? ⟨g1,6,none⟩=some (.slice A3 n3 c3)/\wr.cell? ⟨g1,7,none⟩=some (.slice A4 n4 c4)/\wr.cell? ⟨g1,8,none⟩=some (.int .i64 p)/\wr.cell? ⟨b,1,none⟩=some P.sv)/\Hid (LS w0 w1 wr b P (adv f (if q3=true then [] else [(25,p)]))/\Mv b w wr/\CB wr g1 27 [.int .i64 k,.string N0,.string I0,.string D0,.slice A1 n1 c1,.slice A2 n2 c2,.slice A3 n3 c3,.slice A4 n4 c4,.int .i64 p]))
  case first =>
   go_region_held3 (λ W=>W.cell? ⟨g1,0,none⟩=some (.int .i64 k)/\W.cell? ⟨g1,1,none⟩=some (.string N0)/\W.cell? ⟨g1,2,none⟩=some (.string I0)/\W.cell? ⟨g1,3,none⟩=some (.string D0)/\W.cell? ⟨g1,4,none⟩=some (.slice A1 n1 c1)/\W.cell? ⟨g1,5,none⟩=some (.slice A2 n2 c2)/\W.cell? ⟨g1,6,none⟩=some (.slice A3 n3 c3)/\W.cell? ⟨g1,7,none⟩=some (.slice A4 n4 c4)/\W.cell? ⟨g1,8,none⟩=some (.int .i64 p)/\W.cell? ⟨b,1,none⟩=some P.sv) (go_keep) (first|(go_at_call 48;refine (HRQ.out _ _ _ _ HQE).mono ?_;rintro e w6 ⟨rfl,⟨v0,v1,v2,v3,v4,v5,v6,v7,v8,v9⟩,HF6⟩))
   all_goals
    go_wp2_with fail
    go_meet
    exact ⟨⟨v0,v1,v2,v3,v4,v5,v6,v7,v8,v9⟩,by first|exact HF6|(rw [hq3] at HF6;exact HF6)⟩
  case rest =>
  obtain ⟨⟨x0,x1,x2,x3,x4,x5,x6,x7,x8,x9⟩,HQF⟩:=hcut;clear y0 y1 y2 y3 y4 y5 y6 y7 y8 y9 hq3 HQC HQE
  obtain ⟨G,hG⟩:∃G,adv f (if q3=true then [] else [(25,p)])=G:=⟨_,rfl⟩
  rw [hG] at HQF HV';clear hG
  have HQG:Hid (LS w0 w1 wc.drew b P G/\Mv b w wc.drew/\CB wc.drew g1 27 [.int .i64 k,.string N0,.string I0,.string D0,.slice A1 n1 c1,.slice A2 n2 c2,.slice A3 n3 c3,.slice A4 n4 c4,.int .i64 p]):=⟨HQF.out.1.below (b_ _ wc).drew,HQF.out.2.1.trans (Mv.of b (b_ _ wc).drew),HQF.out.2.2.drew⟩
  go_upto_region 4 with fail
  cases q4 with
  |false =>
   have e4':(k != 2)=true:=e4;clear e4 HRd
   first|(go_region_with (first|(go_at_call 48;refine (HRQ.out _ _ _ _ HQG).mono ?_;rintro e w6 ⟨rfl,⟨v0,v1,v2,v3,v4,v5,v6,v7,v8,v9⟩,HF6⟩)))|fail
   all_goals
    have HF7:=h_ HF6.out;clear x0 x1 x2 x3 x4 x5 x6 x7 x8 x9 v0 v1 v2 v3 v4 v5 v6 v7 v8 v9 HF6 HRQ;go_wp2_with fail;go_end0;refine ⟨rfl,?_,HF7.out.2.1⟩;rw [HV'.out];exact HF7.out.1
  |true =>
   have e4':(k != 2)=false:=e4;have HRe:=h_ (HRd.out wc.drew G HQG);clear e4 HRd
   go_region_held3 (λ W=>W.cell? ⟨g1,0,none⟩=some (.int .i64 k)/\W.cell? ⟨g1,1,none⟩=some (.string N0)/\W.cell? ⟨g1,2,none⟩=some (.string I0)/\W.cell? ⟨g1,3,none⟩=some (.string D0)/\W.cell? ⟨g1,4,none⟩=some (.slice A1 n1 c1)/\W.cell? ⟨g1,5,none⟩=some (.slice A2 n2 c2)/\W.cell? ⟨g1,6,none⟩=some (.slice A3 n3 c3)/\W.cell? ⟨g1,7,none⟩=some (.slice A4 n4 c4)/\W.cell? ⟨g1,8,none⟩=some (.int .i64 p)/\W.cell? ⟨b,1,none⟩=some P.sv) (go_keep) (first|(go_at_call 89;refine HRe.out.mono ?_;rintro e w5 ⟨rfl,⟨y0,y1,y2,y3,y4,y5,y6,y7,y8,y9⟩,HQ5⟩)|(go_at_call 48;refine (HRQ.out _ _ _ _ HQ5).mono ?_;rintro e w6 ⟨rfl,⟨v0,v1,v2,v3,v4,v5,v6,v7,v8,v9⟩,HF6⟩))
   all_goals
    have HF7:=h_ HF6.out
    try rw [hq5] at HF7
    clear x0 x1 x2 x3 x4 x5 x6 x7 x8 x9 v0 v1 v2 v3 v4 v5 v6 v7 v8 v9 HF6 HRQ;go_wp2_with fail;go_end0;refine ⟨rfl,?_,HF7.out.2.1⟩;rw [HV'.out];exact HF7.out.1
variable {w0 w1 w:World} {b:Nat} {P:LP} {L:List GN} {F:List Spt} {V:List (List UInt8)} {f:Int×Int}
theorem lhistory_any (hF:LF w0 w1 b P L F V) (h:LS w0 w1 w b P f) (k p par:Int) (nm ini dft:List UInt8) (en le:List GA) (mo:List GM) (ks:List GN) (xs:List Value) (hx:DxsAt w0 (gNode (.mk k nm ini dft en le mo ks p)) xs) (hr:dft.length<=140737488351232) :
  Calls Tryz.prog 51 #[.pointer (some ⟨b,0,none⟩),.agg xs.toArray,.int .i64 par] w λ e w'=>e=.returned (.tuple #[])/\LS w0 w1 w' b P (adv f (hiL F par (.mk k nm ini dft en le mo ks p)))/\Mv b w w':=by
 have HRG0:=λ (W:World) (hb:Below w0.heap.size w0 W)=>lregions_any w0 W k p nm ini dft en le mo ks xs hb hx
 have HE0:hiL F par (.mk k nm ini dft en le mo ks p)=if isSt k=false then (if inW F (stI F dft) par=true then [] else [(26,p)])
  else if (decide (k=1)&&decide (rgK ks=0))=true then (if ks.isEmpty=true then [] else [(26,p)]) else []:=rfl
 have hones:=hx.ones;obtain ⟨A1,A2,A3,A4,c1,c2,c3,c4,rfl,_,_,_,hkd⟩:=node_v hx;obtain ⟨hkl,hkm⟩:=kids_len9 hkd;obtain ⟨N0,hN0⟩:=str_of nm;obtain ⟨I0,hI0⟩:=str_of ini;obtain ⟨D0,hD0⟩:=str_of dft;have hDL:D0.data.toList=dft:=toArr hD0
 have hDS:D0.size<=140737488351232:=by
  rw [<-hDL] at hr;exact hr
 have HST0:=λ (W:World) (hk:LS w0 w1 W b P f)=>lstate_any hF hk D0 hDS;rw [hDL] at HST0
 have HWI0:∀(W:World) (hk:LS w0 w1 W b P f) (a c:Int),Calls Tryz.prog 92 #[P.sv,.int .i64 a,.int .i64 c] W λ e w'=>e=.returned (.bool (inW F a c))/\w'=W:=λ W hk a c=>by
  obtain ⟨g',c',e,_,hsr⟩:=hF.sp' hk;rw [e];exact fwithin_any W g' c' F a c hsr
 rw [hN0,hI0,hD0] at HRG0 hones ⊢
 obtain ⟨n1,hn1⟩:∃n,en.length=n:=⟨_,rfl⟩
 obtain ⟨n2,hn2⟩:∃n,le.length=n:=⟨_,rfl⟩
 obtain ⟨n3,hn3⟩:∃n,mo.length=n:=⟨_,rfl⟩
 obtain ⟨n4,hn4⟩:∃n,ks.length=n:=⟨_,rfl⟩
 rw [hn1,hn2,hn3,hn4] at HRG0 hones ⊢;rw [len_beq ks,hn4] at HE0
 obtain ⟨R,hR⟩:∃R,rgK ks=R:=⟨_,rfl⟩
 rw [hR] at HRG0 HE0
 obtain ⟨I,hI⟩:∃I,stI F dft=I:=⟨_,rfl⟩
 rw [hI] at HST0 HE0
 obtain ⟨qw,hqw⟩:∃q,inW F I par=q:=⟨_,rfl⟩
 rw [hqw] at HE0;have HWI1:=λ (W:World) (hk:LS w0 w1 W b P f)=>HWI0 W hk I par;rw [hqw] at HWI1
 obtain ⟨qs,hqs⟩:∃q,isSt k=q:=⟨_,rfl⟩
 rw [hqs] at HE0
 obtain ⟨E,hE⟩:∃E,hiL F par (.mk k nm ini dft en le mo ks p)=E:=⟨_,rfl⟩
 rw [hE] at HE0 ⊢;have HE:=h_ HE0
 obtain ⟨W1,hW1⟩:∃W,W=w.alloc (.cells #[.int .i64 k,.string N0,.string I0,.string D0,.slice A1 n1 c1,.slice A2 n2 c2,.slice A3 n3 c3,.slice A4 n4 c4,.int .i64 p] 27):=⟨_,rfl⟩
 obtain ⟨g1,hg1⟩:∃g,g=w.heap.size:=⟨_,rfl⟩
 have hal:Below w.heap.size w W1:=by rw [hW1];exact (b_ _ w).alloc (n_ _) _
 have HX:Hid (CB W1 g1 27 [.int .i64 k,.string N0,.string I0,.string D0,.slice A1 n1 c1,.slice A2 n2 c2,.slice A3 n3 c3,.slice A4 n4 c4,.int .i64 p]):=by rw [hW1,hg1];exact CB.new w _ [.int .i64 k,.string N0,.string I0,.string D0,.slice A1 n1 c1,.slice A2 n2 c2,.slice A3 n3 c3,.slice A4 n4 c4,.int .i64 p]
 have HGB:Hid (g1≠b):=by have:=h.2.2.lt;rw [hg1];exact λ e=>by omega
 have HLB:=h_ hF.lb
 have HQ1:Hid (∀W:World,Below W1.heap.size W1 W->LS w0 w1 W b P f/\Mv b w W/\CB W g1 27 [.int .i64 k,.string N0,.string I0,.string D0,.slice A1 n1 c1,.slice A2 n2 c2,.slice A3 n3 c3,.slice A4 n4 c4,.int .i64 p]):=λ W hb=>⟨(h.below hal).below hb,Mv.of b (hal.trans (hb.mono hal.size)),HX.out.below hb⟩
 have HRQ:Hid (∀(q:Bool) (cd:Int) (g:Int×Int) (w6:World),Hid (LS w0 w1 w6 b P g/\Mv b w w6/\CB w6 g1 27 [.int .i64 k,.string N0,.string I0,.string D0,.slice A1 n1 c1,.slice A2 n2 c2,.slice A3 n3 c3,.slice A4 n4 c4,.int .i64 p])->Calls Tryz.prog 48 #[.pointer (some ⟨b,4,none⟩),.bool q,.int .i64 cd,.int .i64 p] w6 λ e w'=>e=.returned (.tuple #[])/\(w'.cell? ⟨g1,0,none⟩=some (.int .i64 k)/\w'.cell? ⟨g1,1,none⟩=some (.string N0)/\w'.cell? ⟨g1,2,none⟩=some (.string I0)/\w'.cell? ⟨g1,3,none⟩=some (.string D0)/\w'.cell? ⟨g1,4,none⟩=some (.slice A1 n1 c1)/\w'.cell? ⟨g1,5,none⟩=some (.slice A2 n2 c2)/\w'.cell? ⟨g1,6,none⟩=some (.slice A3 n3 c3)/\w'.cell? ⟨g1,7,none⟩=some (.slice A4 n4 c4)/\w'.cell? ⟨g1,8,none⟩=some (.int .i64 p)/\w'.cell? ⟨b,1,none⟩=some P.sv)/\Hid (LS w0 w1 w' b P (adv g (if q=true then [] else [(cd,p)]))/\Mv b w w'/\CB w' g1 27 [.int .i64 k,.string N0,.string I0,.string D0,.slice A1 n1 c1,.slice A2 n2 c2,.slice A3 n3 c3,.slice A4 n4 c4,.int .i64 p])):=by
  rintro q cd g w6 ⟨h1,h2,h3⟩;refine (lrequire_any w0 w1 w6 b P g q cd p h1 HLB.out).mono ?_;rintro e w' ⟨rfl,h4,h5⟩;have c:=h3.mv h5 HGB.out;exact ⟨rfl,⟨c.c 0 rfl,c.c 1 rfl,c.c 2 rfl,c.c 3 rfl,c.c 4 rfl,c.c 5 rfl,c.c 6 rfl,c.c 7 rfl,c.c 8 rfl,h4.2.2.c 1 rfl⟩,h4,h2.trans h5,c⟩
 have HRG:=h_ HRG0;have HST:=h_ HST0;have HWI:=h_ HWI1
 obtain ⟨RI,hRI⟩:∃I:Int,(R:Int)=I:=⟨_,rfl⟩
 have HRI:=h_ hRI;rw [hRI] at HRG
 have HRd:Hid (∀(W:World) (g:Int×Int),Hid (LS w0 w1 W b P g/\Mv b w W/\CB W g1 27 [.int .i64 k,.string N0,.string I0,.string D0,.slice A1 n1 c1,.slice A2 n2 c2,.slice A3 n3 c3,.slice A4 n4 c4,.int .i64 p])->Calls Tryz.prog 89 #[.agg #[.int .i64 k,.string N0,.string I0,.string D0,.slice A1 n1 c1,.slice A2 n2 c2,.slice A3 n3 c3,.slice A4 n4 c4,.int .i64 p]] W λ e w'=>e=.returned (.int .i64 RI)/\(w'.cell? ⟨g1,0,none⟩=some (.int .i64 k)/\w'.cell? ⟨g1,1,none⟩=some (.string N0)/\w'.cell? ⟨g1,2,none⟩=some (.string I0)/\w'.cell? ⟨g1,3,none⟩=some (.string D0)/\w'.cell? ⟨g1,4,none⟩=some (.slice A1 n1 c1)/\w'.cell? ⟨g1,5,none⟩=some (.slice A2 n2 c2)/\w'.cell? ⟨g1,6,none⟩=some (.slice A3 n3 c3)/\w'.cell? ⟨g1,7,none⟩=some (.slice A4 n4 c4)/\w'.cell? ⟨g1,8,none⟩=some (.int .i64 p)/\w'.cell? ⟨b,1,none⟩=some P.sv)/\Hid (LS w0 w1 w' b P g/\Mv b w w'/\CB w' g1 27 [.int .i64 k,.string N0,.string I0,.string D0,.slice A1 n1 c1,.slice A2 n2 c2,.slice A3 n3 c3,.slice A4 n4 c4,.int .i64 p])):=by
  rintro W g ⟨h1,h2,h3⟩;refine (HRG.out W h1.1).mono ?_;rintro e w' ⟨rfl,hb⟩;have c:=h3.below hb;have hk:=h1.below hb;exact ⟨rfl,⟨c.c 0 rfl,c.c 1 rfl,c.c 2 rfl,c.c 3 rfl,c.c 4 rfl,c.c 5 rfl,c.c 6 rfl,c.c 7 rfl,c.c 8 rfl,hk.2.2.c 1 rfl⟩,hk,h2.trans (Mv.of b hb),c⟩
 have HSd:Hid (∀W:World,Hid (LS w0 w1 W b P f/\Mv b w W/\CB W g1 27 [.int .i64 k,.string N0,.string I0,.string D0,.slice A1 n1 c1,.slice A2 n2 c2,.slice A3 n3 c3,.slice A4 n4 c4,.int .i64 p])->Calls Tryz.prog 93 #[.pointer (some ⟨b,0,none⟩),.string D0] W λ e w'=>e=.returned (.int .i64 I)/\(w'.cell? ⟨g1,0,none⟩=some (.int .i64 k)/\w'.cell? ⟨g1,1,none⟩=some (.string N0)/\w'.cell? ⟨g1,2,none⟩=some (.string I0)/\w'.cell? ⟨g1,3,none⟩=some (.string D0)/\w'.cell? ⟨g1,4,none⟩=some (.slice A1 n1 c1)/\w'.cell? ⟨g1,5,none⟩=some (.slice A2 n2 c2)/\w'.cell? ⟨g1,6,none⟩=some (.slice A3 n3 c3)/\w'.cell? ⟨g1,7,none⟩=some (.slice A4 n4 c4)/\w'.cell? ⟨g1,8,none⟩=some (.int .i64 p)/\w'.cell? ⟨b,1,none⟩=some P.sv)/\Hid (LS w0 w1 w' b P f/\Mv b w w'/\CB w' g1 27 [.int .i64 k,.string N0,.string I0,.string D0,.slice A1 n1 c1,.slice A2 n2 c2,.slice A3 n3 c3,.slice A4 n4 c4,.int .i64 p])):=by
  rintro W ⟨h1,h2,h3⟩;refine (HST.out W h1).mono ?_;rintro e w' ⟨rfl,hb⟩;have c:=h3.below hb;have hk:=h1.below hb;exact ⟨rfl,⟨c.c 0 rfl,c.c 1 rfl,c.c 2 rfl,c.c 3 rfl,c.c 4 rfl,c.c 5 rfl,c.c 6 rfl,c.c 7 rfl,c.c 8 rfl,hk.2.2.c 1 rfl⟩,hk,h2.trans (Mv.of b hb),c⟩
 have HWd:Hid (∀W:World,Hid (LS w0 w1 W b P f/\Mv b w W/\CB W g1 27 [.int .i64 k,.string N0,.string I0,.string D0,.slice A1 n1 c1,.slice A2 n2 c2,.slice A3 n3 c3,.slice A4 n4 c4,.int .i64 p])->Calls Tryz.prog 92 #[P.sv,.int .i64 I,.int .i64 par] W λ e w'=>e=.returned (.bool qw)/\(w'.cell? ⟨g1,0,none⟩=some (.int .i64 k)/\w'.cell? ⟨g1,1,none⟩=some (.string N0)/\w'.cell? ⟨g1,2,none⟩=some (.string I0)/\w'.cell? ⟨g1,3,none⟩=some (.string D0)/\w'.cell? ⟨g1,4,none⟩=some (.slice A1 n1 c1)/\w'.cell? ⟨g1,5,none⟩=some (.slice A2 n2 c2)/\w'.cell? ⟨g1,6,none⟩=some (.slice A3 n3 c3)/\w'.cell? ⟨g1,7,none⟩=some (.slice A4 n4 c4)/\w'.cell? ⟨g1,8,none⟩=some (.int .i64 p)/\w'.cell? ⟨b,1,none⟩=some P.sv)/\Hid (LS w0 w1 w' b P f/\Mv b w w'/\CB w' g1 27 [.int .i64 k,.string N0,.string I0,.string D0,.slice A1 n1 c1,.slice A2 n2 c2,.slice A3 n3 c3,.slice A4 n4 c4,.int .i64 p])):=by
  rintro W ⟨h1,h2,h3⟩;refine (HWI.out W h1).mono ?_;rintro e w' ⟨rfl,rfl⟩;have c:=h3;have hk:=h1;exact ⟨rfl,⟨c.c 0 rfl,c.c 1 rfl,c.c 2 rfl,c.c 3 rfl,c.c 4 rfl,c.c 5 rfl,c.c 6 rfl,c.c 7 rfl,c.c 8 rfl,hk.2.2.c 1 rfl⟩,hk,h2,c⟩
 have HIS0:=lisstate_any W1 (.string N0) (.string I0) (.string D0) (.slice A1 n1 c1) (.slice A2 n2 c2) (.slice A3 n3 c3) (.slice A4 n4 c4) (.int .i64 p) k (λ u hu=>hones u (List.mem_cons_of_mem _ hu));rw [hqs] at HIS0
 have HIS:Hid (Calls Tryz.prog 91 #[.agg #[.int .i64 k,.string N0,.string I0,.string D0,.slice A1 n1 c1,.slice A2 n2 c2,.slice A3 n3 c3,.slice A4 n4 c4,.int .i64 p]] W1 λ e w'=>e=.returned (.bool qs)/\(w'.cell? ⟨g1,0,none⟩=some (.int .i64 k)/\w'.cell? ⟨g1,1,none⟩=some (.string N0)/\w'.cell? ⟨g1,2,none⟩=some (.string I0)/\w'.cell? ⟨g1,3,none⟩=some (.string D0)/\w'.cell? ⟨g1,4,none⟩=some (.slice A1 n1 c1)/\w'.cell? ⟨g1,5,none⟩=some (.slice A2 n2 c2)/\w'.cell? ⟨g1,6,none⟩=some (.slice A3 n3 c3)/\w'.cell? ⟨g1,7,none⟩=some (.slice A4 n4 c4)/\w'.cell? ⟨g1,8,none⟩=some (.int .i64 p)/\w'.cell? ⟨b,1,none⟩=some P.sv)/\Hid (LS w0 w1 w' b P f/\Mv b w w'/\CB w' g1 27 [.int .i64 k,.string N0,.string I0,.string D0,.slice A1 n1 c1,.slice A2 n2 c2,.slice A3 n3 c3,.slice A4 n4 c4,.int .i64 p])):=by
  refine HIS0.mono ?_;rintro e w' ⟨rfl,hb⟩
  obtain ⟨hk,h2,c⟩:=(HQ1.out w' hb)
  exact ⟨rfl,⟨c.c 0 rfl,c.c 1 rfl,c.c 2 rfl,c.c 3 rfl,c.c 4 rfl,c.c 5 rfl,c.c 6 rfl,c.c 7 rfl,c.c 8 rfl,hk.2.2.c 1 rfl⟩,hk,h2,c⟩
 clear hx hkd hkl hkm hN0 hI0 hD0 hDL hDS hr hones hn1 hn2 hn3 hn4 hR hI hqw hqs hE HRG0 HST0 HWI0 HWI1 HIS0 HE0 hF h hal hRI HRG HST HWI;have z0:=HX.out.c 0 rfl;have z1:=HX.out.c 1 rfl;have z2:=HX.out.c 2 rfl;have z3:=HX.out.c 3 rfl;have z4:=HX.out.c 4 rfl;have z5:=HX.out.c 5 rfl;have z6:=HX.out.c 6 rfl;have z7:=HX.out.c 7 rfl;have z8:=HX.out.c 8 rfl;go_enter Tryz.func51,Tryz.ntmps51;go_upto_region 1 with fail;rw [<-hW1,<-hg1];clear hW1 hg1;go_wp2_with fail;refine HIS.out.mono ?_;rintro e w2 ⟨rfl,⟨y0,y1,y2,y3,y4,y5,y6,y7,y8,y9⟩,HQ2⟩;clear z0 z1 z2 z3 z4 z5 z6 z7 z8 HIS HX HQ1
 have HQ2d:Hid (LS w0 w1 w2.drew b P f/\Mv b w w2.drew/\CB w2.drew g1 27 [.int .i64 k,.string N0,.string I0,.string D0,.slice A1 n1 c1,.slice A2 n2 c2,.slice A3 n3 c3,.slice A4 n4 c4,.int .i64 p]):=⟨HQ2.out.1.below (b_ _ w2).drew,HQ2.out.2.1.trans (Mv.of b (b_ _ w2).drew),HQ2.out.2.2.drew⟩
 cases qs with
 |false =>
  have HV':Hid (E=if qw=true then [] else [(26,p)]):=by show _=_;rw [HE.out];rfl
  have HSe:=h_ (HSd.out w2.drew HQ2d);clear HE HRd HSd;go_upto_region 2 with fail
  go_region_held3 (λ W=>W.cell? ⟨g1,0,none⟩=some (.int .i64 k)/\W.cell? ⟨g1,1,none⟩=some (.string N0)/\W.cell? ⟨g1,2,none⟩=some (.string I0)/\W.cell? ⟨g1,3,none⟩=some (.string D0)/\W.cell? ⟨g1,4,none⟩=some (.slice A1 n1 c1)/\W.cell? ⟨g1,5,none⟩=some (.slice A2 n2 c2)/\W.cell? ⟨g1,6,none⟩=some (.slice A3 n3 c3)/\W.cell? ⟨g1,7,none⟩=some (.slice A4 n4 c4)/\W.cell? ⟨g1,8,none⟩=some (.int .i64 p)/\W.cell? ⟨b,1,none⟩=some P.sv) (go_keep) (first|(go_at_call 93;refine HSe.out.mono ?_;rintro e w5 ⟨rfl,⟨x0,x1,x2,x3,x4,x5,x6,x7,x8,x9⟩,HQ5⟩)|(go_at_call 92;refine (HWd.out _ HQ5).mono ?_;rintro e w7 ⟨rfl,⟨t0,t1,t2,t3,t4,t5,t6,t7,t8,t9⟩,HQ6⟩)|(go_at_call 48;refine (HRQ.out _ _ _ _ HQ6).mono ?_;rintro e w6 ⟨rfl,⟨v0,v1,v2,v3,v4,v5,v6,v7,v8,v9⟩,HF6⟩))
  all_goals
   have HF7:=h_ HF6.out;clear x0 x1 x2 x3 x4 x5 x6 x7 x8 x9 v0 v1 v2 v3 v4 v5 v6 v7 v8 v9 y0 y1 y2 y3 y4 y5 y6 y7 y8 y9 HF6 HQ5 HQ6 HSe HWd HRQ t0 t1 t2 t3 t4 t5 t6 t7 t8 t9;go_wp2_with fail;go_end0;refine ⟨rfl,?_,HF7.out.2.1⟩;rw [HV'.out];exact HF7.out.1
 |true =>
  clear HSd HWd
  obtain ⟨q1,hq1⟩:∃q,(k==1)=q:=⟨_,rfl⟩
  obtain ⟨q2,hq2⟩:∃q,(RI==0)=q:=⟨_,rfl⟩
  have HV:Hid (E=if (q1&&q2)=true then (if (((n4:Int)==0)=true) then [] else [(26,p)]) else []):=by
   have h1:=HRI.out;show _=_;rw [HE.out,if_neg (by decide),dec_beq,hq1,<-hq2,<-h1];rw [show decide (R=0)=((R:Int)==0) from by rw [<-dec_beq];simp]
  go_upto_region 3 with fail
  go_cut [27] from 27 to 35 (λ s27 wr=>s27=.bool (q1&&q2)/\(wr.cell? ⟨g1,0,none⟩=some (.int .i64 k)/\wr.cell? ⟨g1,1,none⟩=some (.string N0)/\wr.cell? ⟨g1,2,none⟩=some (.string I0)/\wr.cell? ⟨g1,3,none⟩=some (.string D0)/\wr.cell? ⟨g1,4,none⟩=some (.slice A1 n1 c1)/\wr.cell? ⟨g1,5,none⟩=some (.slice A2 n2 c2)/\wr.cell? ⟨g1,6,none⟩=some (.slice A3 n3 c3)/\wr.cell? ⟨g1,7,none⟩=some (.slice A4 n4 c4)/\wr.cell? ⟨g1,8,none⟩=some (.int .i64 p)/\wr.cell? ⟨b,1,none⟩=some P.sv)/\Hid (LS w0 w1 wr b P f/\Mv b w wr/\CB wr g1 27 [.int .i64 k,.string N0,.string I0,.string D0,.slice A1 n1 c1,.slice A2 n2 c2,.slice A3 n3 c3,.slice A4 n4 c4,.int .i64 p]))
  case first =>
   cases q1
   ·go_wp2_with fail
    go_meet
    exact ⟨rfl,⟨y0,y1,y2,y3,y4,y5,y6,y7,y8,y9⟩,HQ2⟩
   ·go_wp2_with fail;refine (HRd.out w2 f HQ2).mono ?_;rintro e w3 ⟨rfl,⟨x0,x1,x2,x3,x4,x5,x6,x7,x8,x9⟩,HQ3⟩;go_wp2_with fail
    go_meet
    exact ⟨by first|rfl|(rw [hq2];rfl),⟨x0,x1,x2,x3,x4,x5,x6,x7,x8,x9⟩,HQ3⟩
  case rest =>
  obtain ⟨rfl,⟨x0,x1,x2,x3,x4,x5,x6,x7,x8,x9⟩,HQC⟩:=hcut;clear y0 y1 y2 y3 y4 y5 y6 y7 y8 y9 HQ2 HQ2d hq1 hq2 HRd HE HRI
  obtain ⟨q0,hq0⟩:∃q,(q1&&q2)=q:=⟨_,rfl⟩
  rw [hq0] at HV ⊢;clear hq0
  have HQE:Hid (LS w0 w1 wc.drew b P f/\Mv b w wc.drew/\CB wc.drew g1 27 [.int .i64 k,.string N0,.string I0,.string D0,.slice A1 n1 c1,.slice A2 n2 c2,.slice A3 n3 c3,.slice A4 n4 c4,.int .i64 p]):=⟨HQC.out.1.below (b_ _ wc).drew,HQC.out.2.1.trans (Mv.of b (b_ _ wc).drew),HQC.out.2.2.drew⟩
  cases q0 with
  |true =>
   have HV':Hid (E=if (((n4:Int)==0)=true) then [] else [(26,p)]):=by show _=_;rw [HV.out];rfl
   clear HV;go_upto_region 4 with fail
   go_region_held3 (λ W=>W.cell? ⟨g1,0,none⟩=some (.int .i64 k)/\W.cell? ⟨g1,1,none⟩=some (.string N0)/\W.cell? ⟨g1,2,none⟩=some (.string I0)/\W.cell? ⟨g1,3,none⟩=some (.string D0)/\W.cell? ⟨g1,4,none⟩=some (.slice A1 n1 c1)/\W.cell? ⟨g1,5,none⟩=some (.slice A2 n2 c2)/\W.cell? ⟨g1,6,none⟩=some (.slice A3 n3 c3)/\W.cell? ⟨g1,7,none⟩=some (.slice A4 n4 c4)/\W.cell? ⟨g1,8,none⟩=some (.int .i64 p)/\W.cell? ⟨b,1,none⟩=some P.sv) (go_keep) (first|(go_at_call 48;refine (HRQ.out _ _ _ _ HQE).mono ?_;rintro e w6 ⟨rfl,⟨v0,v1,v2,v3,v4,v5,v6,v7,v8,v9⟩,HF6⟩))
   all_goals
    have HF7:=h_ HF6.out;clear x0 x1 x2 x3 x4 x5 x6 x7 x8 x9 v0 v1 v2 v3 v4 v5 v6 v7 v8 v9 HF6 HRQ;go_wp2_with fail;go_end0;refine ⟨rfl,?_,HF7.out.2.1⟩;rw [HV'.out];exact HF7.out.1
  |false =>
   have HV':Hid (E=[]):=by show _=_;rw [HV.out];rfl
   go_wp2_with fail;go_end0;refine ⟨rfl,?_,HQC.out.2.1⟩;rw [HV'.out,adv_nil];exact HQC.out.1
def spC (s:Spt):List Value:=[.int .i64 s.kind,txV s.name,.int .i64 s.par,.int .i64 s.dep,.int .i64 s.fin]
def SpO (w:World) (base:Nat) (v:Value) (L:List Spt):Prop:=w.ownsRow base 82 5 v L.length (L.flatMap spC)
theorem spC_get {L:List Spt} {i j:Nat} {s:Spt} (h:L[i]?=some s) (hj:j<5):(L.flatMap spC)[i*5+j]?=(spC s)[j]?:=by
 induction L generalizing i with
 |nil=>simp at h
 |cons x l ih =>
  have hx:(spC x).length=5:=rfl;rw [List.flatMap_cons]
  cases i with
  |zero =>
   rw [z_,j_] at h;subst h;rw [Nat.zero_mul,Nat.zero_add,List.getElem?_append_left (by omega)]
  |succ i =>
   rw [s_] at h;rw [List.getElem?_append_right (by omega),hx,show (i+1)*5+j-5=i*5+j from by omega];exact ih h
theorem SpO.row {w:World} {base:Nat} {v:Value} {L:List Spt} (h:SpO w base v L) (hn:L≠[]):∃g c cur,v=.slice (some ⟨g,0,none⟩) L.length c/\L.length<=c/\c<=maxLen/\base<=g/\w.heap[g]?=some (.cells cur 82 (0,0))/\cur.size=c*5/\SpR w g L:=by
 rcases h.2 with ⟨rfl,h2⟩|⟨g,cap,cur,rfl,hb,hg,h1,hm,hs,ht⟩
 ·exact absurd (List.eq_nil_of_length_eq_zero h2) hn
 ·refine ⟨g,cap,cur,rfl,h1,hm,hb,hg,hs,?_⟩
  have key:∀(i:Nat) (s:Spt) (j:Nat),L[i]?=some s->j<5->w.cell? ⟨g,i*5+j,none⟩=(spC s)[j]?:=λ i s j hi hj=>by
   rw [<-spC_get hi hj,cell_of_row w g _ _ _ _ hg,<-Array.getElem?_toList,<-ht,List.getElem?_take,if_pos];have:=(List.getElem?_eq_some_iff.1 hi).1;omega
  have hM:maxLen<=9223372036854775807:=by decide
  exact ⟨(Array.getElem?_eq_some_iff.1 hg).1,by omega,λ i s hi=>key i s 0 hi (by omega),λ i s hi=>key i s 1 hi (by omega),λ i s hi=>key i s 2 hi (by omega),λ i s hi=>key i s 3 hi (by omega),λ i s hi=>key i s 4 hi (by omega)⟩
structure TS (w0 w:World) (b:Nat) (L:List Spt) (v:Value):Prop where
 c:CB w b 93 [v]
 r:SpO w w0.heap.size v L
 ne:v.ownBlock≠some b
 bl:Below w0.heap.size w0 w
 lb:w0.heap.size<=b
theorem TS.below {w0 w w':World} {b:Nat} {L:List Spt} {v:Value} (h:TS w0 w b L v) (hb:Below w.heap.size w w'):TS w0 w' b L v :=
 ⟨h.c.below hb,ownsRow_below h.r hb,h.ne,h.bl.trans (hb.mono h.bl.size),h.lb⟩
theorem TS.slice {w0 w:World} {b:Nat} {L:List Spt} {v:Value} (h:TS w0 w b L v):∃A c,v=.slice A L.length c/\L.length<=c/\c<=maxLen:=by
 rcases h.r.2 with ⟨rfl,h2⟩|⟨g,cap,cur,rfl,hb,hg,h1,hm,hs,ht⟩
 ·exact ⟨none,0,by rw [h2],by omega,by decide⟩
 ·exact ⟨_,cap,rfl,h1,hm⟩
theorem infoSpt:(Tryz.prog.info? 82).map (λ i=>(i.zero,i.size,i.bytes))=some (some (.agg #[.int .i64 0,.string ⟨#[]⟩,.int .i64 0,.int .i64 0,.int .i64 0]),5,48):=by kernel_rfl
structure TA (w0 w w':World) (b:Nat) (L:List Spt) (v v':Value):Prop where
 c:CB w' b 93 [v]
 r:SpO w' w0.heap.size v' L
 ne:v'.ownBlock≠some b
 bl:Below w0.heap.size w0 w'
 ch:Ch (λ k=>v.ownBlock=some k) w w'
theorem TA.slice {w0 w w':World} {b:Nat} {L:List Spt} {v v':Value} (h:TA w0 w w' b L v v'):∃A m c,v'=.slice A m c:=by
 rcases h.r.2 with ⟨rfl,_⟩|⟨g,cap,cur,rfl,_⟩
 ·exact ⟨none,0,0,rfl⟩
 ·exact ⟨_,_,cap,rfl⟩
theorem TS.app {w0 w:World} {b:Nat} {L:List Spt} {v:Value} (h:TS w0 w b L v) (ty:TypeId) (s:Spt) (hn:L.length<=1000000) :
  ∃v' w',(Builtin.append_ #[91,91] ty #[v,.slice (some ⟨w.heap.size,0,none⟩) 1 1]).run Tryz.prog (w.alloc (.cells #[.int .i64 s.kind,txV s.name,.int .i64 s.par,.int .i64 s.dep,.int .i64 s.fin] 82))=.ok v' w'/\TA w0 w w' b (L++[s]) v v':=by
 obtain ⟨i0,hi,hz0,hz1,hz2⟩:=info_parts infoSpt;have hcb:=CB.new w 82 (spC s);have hlt:=h.c.lt
 obtain ⟨v',w',h1,h2,h3,h4,h5⟩:=run_append_own_at (P:=Tryz.prog) (w:=w.alloc (.cells (spC s).toArray 82)) w0.heap.size 91 ty 82 i0 _ 5 48 Tryz.underlying91 hi hz0 hz1 hz2 rfl (by decide) v L.length _ (World.ownsRow.alloc h.r _) ⟨w.heap.size,0,none⟩ 1 1 (spC s) rfl (λ j u hu=>by
   rw [Addr.add_lit,Nat.zero_add]
   exact hcb.c j hu) (λ u hu=>by simp [spC] at hu;rcases hu with rfl|rfl|rfl|rfl|rfl <;> rfl) (by unfold maxLen;omega) (by omega) (by have:=h.bl.size;simp;omega)
 have hch:Ch (λ k=>v.ownBlock=some k) (w.alloc (.cells (spC s).toArray 82)) w':=Ch.of_grown h3 (λ k hk=>hk);have hal:Ch (λ k=>v.ownBlock=some k) w (w.alloc (.cells (spC s).toArray 82)):=(Ch.refl _ w).alloc _;have hall:=hal.trans hch;refine ⟨v',w',h1,h.c.ch hall (λ e=>h.ne e),?_,λ e=>?_,?_,hall⟩
 ·unfold SpO;rw [List.flatMap_append,List.length_append];simpa using h2
 ·rcases h5 with h5|h5
  ·exact h.ne (h5.symm.trans e)
  ·rw [h5] at e;injection e with e;simp at e;omega
 ·refine h.bl.trans ?_;exact ⟨hall.os,hall.tape,hall.output,hall.size,λ k hk=>hall.block k (by have:=h.bl.size;omega) (λ e=>by have:=(World.ownsRow.lt h.r k e).1;omega)⟩
theorem TA.put {w0 w w':World} {b:Nat} {L:List Spt} {v v':Value} (h:TA w0 w w' b L v v') (lb:w0.heap.size<=b):TS w0 (w'.setCell ⟨b,0,none⟩ v') b L v':=by
 refine ⟨h.c.set 0 v',?_,h.ne,?_,lb⟩
 ·refine ownsRow_same h.r (λ g hg=>?_);exact Below.heap_setCell w' ⟨b,0,none⟩ v' g (λ e=>h.ne (by rw [Option.mem_toList] at hg;rw [hg];exact congrArg some e))
 ·exact h.bl.setCell lb _
def depA (L:List Spt) (p:Int):Int:=if p<0 then 0 else match L[p.toNat]? with|some s=>s.dep+1|none=>0
theorem own_some {A:Option Addr} {n c g:Nat} (h:Value.ownBlock (.slice A n c)=some g):A=some ⟨g,(A.getD ⟨0,0,none⟩).off,(A.getD ⟨0,0,none⟩).spot⟩:=by
 cases A with
 |none=>cases h
 |some a =>
  have h':some a.block=some g:=h;cases h';rfl
theorem cell_al {w:World} {a:Addr} {v:Value} (o:Obj) (h:w.cell? a=some v):(w.alloc o).cell? a=some v:=by
 rw [World.cell?_of_block (Below.heap_alloc w o _ (World.block_lt_of_cell? w a h))];exact h
theorem fopen_any (w0 w:World) (b:Nat) (L:List Spt) (v:Value) (k q:Int) (N0 I0 D0:ByteArray) (A1 A2 A3 A4:Option Addr) (n1 n2 n3 n4 c1 c2 c3 c4:Nat) (par:Int) (h:TS w0 w b L v) (hN:N0.size<=140737488351232) (hL:L.length<=1000000)
  (hp:par=-1∨∃(p:Nat) (s:Spt),par=(p:Int)/\L[p]?=some s/\-1<=s.dep/\s.dep<=1000000) :
  Calls Tryz.prog 77 #[.pointer (some ⟨b,0,none⟩),.agg #[.int .i64 k,.string N0,.string I0,.string D0,.slice A1 n1 c1,.slice A2 n2 c2,.slice A3 n3 c3,.slice A4 n4 c4,.int .i64 q],.int .i64 par] w λ e w' =>
   e=.returned (.int .i64 (L.length:Int))/\∃v',TS w0 w' b (L++[⟨k,N0.data.toList,par,depA L par,0⟩]) v'/\Ch (λ g=>g=b∨v.ownBlock=some g) w w':=by
 obtain ⟨W1,hW1⟩:∃W,W=w.alloc (.cells #[.int .i64 k,.string N0,.string I0,.string D0,.slice A1 n1 c1,.slice A2 n2 c2,.slice A3 n3 c3,.slice A4 n4 c4,.int .i64 q] 27):=⟨_,rfl⟩
 obtain ⟨g1,hg1⟩:∃g,g=w.heap.size:=⟨_,rfl⟩
 have hal:Below w.heap.size w W1:=by rw [hW1];exact (b_ _ w).alloc (n_ _) _
 have HB1:Hid (CB W1 g1 27 [.int .i64 k,.string N0,.string I0,.string D0,.slice A1 n1 c1,.slice A2 n2 c2,.slice A3 n3 c3,.slice A4 n4 c4,.int .i64 q]):=by rw [hW1,hg1];exact CB.new w _ [.int .i64 k,.string N0,.string I0,.string D0,.slice A1 n1 c1,.slice A2 n2 c2,.slice A3 n3 c3,.slice A4 n4 c4,.int .i64 q]
 have HT:=h_ (h.below hal);have HAL:=h_ hal;have HLB:=h_ h.lb;obtain ⟨A,c,hv,hc1,hc2⟩:=h.slice
 have HOP:Hid (∀(W:World) (D:Int) (ty:TypeId),Below W1.heap.size W1 W->∃v' w',(Builtin.append_ #[91,91] ty #[.slice A L.length c,.slice (some ⟨W.heap.size,0,none⟩) 1 1]).run Tryz.prog (W.alloc (.cells #[.int .i64 k,.string N0,.int .i64 par,.int .i64 D,.int .i64 0] 82))=.ok v' w'/\TA w0 W w' b (L++[⟨k,N0.data.toList,par,D,0⟩]) (.slice A L.length c) v'):=λ W D ty hb=>by
  have h1:=((HT.out.below hb).app ty ⟨k,N0.data.toList,par,D,0⟩ hL)
  rw [hv] at h1;simp only [txV_data] at h1;exact h1
 have HCL:=h_ (λ (W:World)=>clone_any N0 W hN)
 have HDP:Hid (0<=par->∃(g p:Nat) (s:Spt),A=some ⟨g,0,none⟩/\par=(p:Int)/\p<L.length/\W1.cell? ⟨g,p*5+3,none⟩=some (.int .i64 s.dep)/\depA L par=s.dep+1/\-1<=s.dep/\s.dep<=1000000):=λ h0=>by
  rcases hp with rfl|⟨p,s,rfl,hs,h1,h2⟩
  ·exact absurd h0 (by decide)
  ·have hlt:=(List.getElem?_eq_some_iff.1 hs).1;obtain ⟨g,c',cur,hv',_,_,_,_,_,hr⟩:=HT.out.r.row (by intro e;rw [e] at hlt;cases hlt);rw [hv] at hv';injection hv' with hv';refine ⟨g,p,s,hv',rfl,hlt,hr.d p s hs,?_,h1,h2⟩;unfold depA;rw [if_neg (by omega),show ((p:Int)).toNat=p from by omega,hs]
 have HAG:Hid (∀g o sp,A=some ⟨g,o,sp⟩->g≠g1):=λ g o sp e=>by
  have:=(World.ownsRow.lt h.r g (by rw [hv,e];rfl)).2;omega
 have HDN:Hid (par<0->depA L par=0):=λ h0=>by unfold depA;rw [if_pos h0]
 have HVB:Hid (v=.slice A L.length c):=hv
 have HGB:Hid (g1≠b):=by have:=h.c.lt;rw [hg1];exact λ e=>by omega
 subst hv
 obtain ⟨D,hD⟩:∃D,depA L par=D:=⟨_,rfl⟩
 rw [hD] at HDP HDN ⊢
 have hlm:(L.length:Int)<=1000000:=by omega
 obtain ⟨n,hn⟩:∃n,L.length=n:=⟨_,rfl⟩
 have HNL:Hid (L.length=n):=hn;clear hal h hN hL hp hD hc1 hc2 hn
 have HYC:Hid (∀W:World,Below W1.heap.size W1 W->W.cell? ⟨b,0,none⟩=some (.slice A n c)):=λ W hb=>by
  rw [<-HNL.out];exact (HT.out.c.below hb).c 0 rfl
 have y0:=HYC.out W1 (b_ _ W1);rw [HNL.out] at hlm;have HOD:=h_ (λ (W:World) (ty:TypeId) (hb:Below W1.heap.size W1 W)=>HOP.out W D ty hb);have HGG:Hid (∀g o sp,A=some ⟨g,o,sp⟩->g≠g1):=λ g o sp e=>HAG.out g o sp e;clear HOP;rw [HNL.out] at HOD HDP ⊢;go_enter Tryz.func77,Tryz.ntmps77;go_upto_region 1 with fail;rw [<-hW1,<-hg1];clear hW1 hg1;go_upto_if 14 with fail
 go_cut [8] from 8 to 22 (λ s8 wc=>s8=.int .i64 D/\Hid (wc=W1))
 case first =>
  by_cases h0:0<=par
  ·obtain ⟨g,p,s,rfl,rfl,hpl,hcell,hdep,hd1,hd2⟩:=HDP.out h0
   have hpl':(p:Int)<(n:Int):=by omega
   obtain rfl:=hdep;clear HDP HDN HOD;go_wp2_with fail
   go_meet
   exact ⟨rfl,h_ rfl⟩
  ·obtain rfl:=HDN.out (by omega);clear HDP HDN HOD;go_wp2_with fail
   go_meet
   exact ⟨rfl,h_ rfl⟩
 case rest =>
 obtain ⟨rfl,HWC⟩:=hcut;obtain rfl:=HWC.out
 have HCd:Hid (Calls Tryz.prog 72 #[.string N0] wc.drew λ e w'=>e=.returned (.string N0)/\(w'.cell? ⟨b,0,none⟩=some (.slice A n c)/\w'.cell? ⟨g1,0,none⟩=some (.int .i64 k)/\w'.cell? ⟨g1,1,none⟩=some (.string N0))/\Hid (Below wc.heap.size wc w')):=by
  refine (HCL.out wc.drew).mono ?_;rintro e w' ⟨rfl,hb⟩;have hb':Below wc.heap.size wc w':=((b_ _ wc).drew).trans hb;exact ⟨rfl,⟨HYC.out w' hb',(HB1.out.below hb').c 0 rfl,(HB1.out.below hb').c 1 rfl⟩,hb'⟩
 have z0:=HB1.out.c 0 rfl;have z1:=HB1.out.c 1 rfl;clear HCL HYC HT HDP HDN hlm;go_upto_region 4 with fail
 go_region_law (first|(have HAPP:=HOD.out w5 91 HB5.out;refine step_app rfl (.tmp 26) (.tmp 35) 91 rfl (.slice A n c) (.slice (some ⟨w5.heap.size,0,none⟩) 1 1) rfl rfl HAPP ?_;intro v6 w6 hta;obtain ⟨A6,m6,c6,rfl⟩:=hta.slice;have HTA:=h_ hta;have k6:=hta.c.c 0 rfl;have f6:=hta.c.fr 0;have k61:=((HB1.out.below HB5.out).ch hta.ch (λ e=>HGG.out _ _ _ (own_some e) rfl)).c 0 rfl;have k62:=((HB1.out.below HB5.out).ch hta.ch (λ e=>HGG.out _ _ _ (own_some e) rfl)).c 1 rfl;clear hta HAPP)|(go_simp;go_at_call 72;refine HCd.out.mono ?_;rintro e w5 ⟨rfl,⟨y5,z50,z51⟩,HB5⟩;have y5n:=λ ob=>cell_al ob y5;have z5n:=λ ob=>cell_al ob z50))
 all_goals
  go_wp2_with fail;go_ret;exact ⟨rfl,⟨_,HTA.out.put HLB.out⟩,((Ch.of_below (HAL.out.trans (HB5.out.mono HAL.out.size))).trans (HTA.out.ch.mono (λ _ _ h=>.inr h))).set (.inl (.inl rfl)) 0 _⟩
theorem set_comm (w:World) {b g:Nat} (h:b≠g) (i j:Nat) (x y:Value):(w.setCell ⟨b,i,none⟩ x).setCell ⟨g,j,none⟩ y=(w.setCell ⟨g,j,none⟩ y).setCell ⟨b,i,none⟩ x:=by
 unfold World.setCell;simp only [World.mk.injEq,and_true];apply Array.ext (by simp);intro k h1 h2;simp only [Array.getElem_modify]
 by_cases e1:g=k
 ·subst e1;simp [h]
 ·by_cases e2:b=k
  ·subst e2;simp [e1]
  ·simp [e1,e2]
theorem sets_comm (g b:Nat) (h:b≠g) (x:Value):∀(l:List Value) (w:World) (i:Nat),(sets w g i l).setCell ⟨b,0,none⟩ x=sets (w.setCell ⟨b,0,none⟩ x) g i l
 |[],_,_=>rfl
 |v::l,w,i=>by
  rw [sets,sets_comm g b h x l,sets,set_comm w h]
def zN:List Value:=[.int .i64 0,.string ⟨#[]⟩,.string ⟨#[]⟩,.string ⟨#[]⟩,.slice none 0 0,.slice none 0 0,.slice none 0 0,.slice none 0 0,.int .i64 0]
structure GS (w0 wA w:World) (b:Nat) (rest:List Value) (L:List GN) (v:Value):Prop where
 mv:Mv b wA w
 c:CB w b 69 (v::rest)
 r:∃cs,w.ownsRow wA.heap.size 27 9 v L.length cs/\DxsAt w0 (L.flatMap gNode) cs
 bl:Below w0.heap.size w0 w
 lt:b<wA.heap.size
variable {w0 wA w w':World} {b:Nat} {rest:List Value} {L:List GN} {v:Value}
theorem GS.below (h:GS w0 wA w b rest L v) (hb:Below w.heap.size w w'):GS w0 wA w' b rest L v :=
 ⟨h.mv.trans (Mv.of b hb),h.c.below hb,by obtain ⟨cs,h1,h2⟩:=h.r;exact ⟨cs,ownsRow_below h1 hb,h2⟩,h.bl.trans (hb.mono h.bl.size),h.lt⟩
theorem GS.slice (h:GS w0 wA w b rest L v):∃A c,v=.slice A L.length c:=by
 obtain ⟨cs,h1,_⟩:=h.r;rcases h1.2 with ⟨rfl,h2⟩|⟨g,cap,cur,rfl,_⟩
 ·exact ⟨none,0,by rw [h2]⟩
 ·exact ⟨_,cap,rfl⟩
structure GA2 (w0 wA w:World) (b:Nat) (rest:List Value) (L:List GN) (v:Value) (g c:Nat) (w6:World):Prop where
 le:w.heap.size<=w6.heap.size
 kb:CB w6 b 69 (v::rest)
 far:∀k,k<w.heap.size->v.ownBlock≠some k->w6.heap[k]?=w.heap[k]?
 ne:∀k,k<w.heap.size->v.ownBlock≠some k->k≠g
 cur:∃cur,CB w6 g 27 cur/\cur.length=c*9/\L.length+1<=c/\c<=maxLen
 put:∀(x:GN) (ys:List Value),DxsAt w0 (gNode x) ys->GS w0 wA ((sets w6 g (L.length*9) ys).setCell ⟨b,0,none⟩ (.slice (some ⟨g,0,none⟩) (L.length+1) c)) b rest (L++[x]) (.slice (some ⟨g,0,none⟩) (L.length+1) c)
theorem GS.app (h:GS w0 wA w b rest L v) (lb:w0.heap.size<=b) (ty:TypeId) (hn:L.length<=1000000) :
  ∃v' w6,(Builtin.append_ #[25,25] ty #[v,.slice (some ⟨w.heap.size,0,none⟩) 1 1]).run Tryz.prog (w.alloc (.cells zN.toArray 27))=.ok v' w6/\∃g c,v'=.slice (some ⟨g,0,none⟩) (L.length+1) c/\GA2 w0 wA w b rest L v g c w6:=by
 obtain ⟨i0,hi,hz0,hz1,hz2⟩:=info_parts infoNode;obtain ⟨cs,hown,hdx⟩:=h.r;have hcb:=CB.new w 27 zN;have hlt:=h.c.lt;have hlA:=h.lt;have hsz:=h.mv.size
 obtain ⟨v',w6,h1,h2,h3,h4,h5⟩:=run_append_own_at (P:=Tryz.prog) (w:=w.alloc (.cells zN.toArray 27)) wA.heap.size 25 ty 27 i0 _ 9 160 Tryz.underlying25 hi hz0 hz1 hz2 rfl (by decide) v L.length _ (World.ownsRow.alloc hown _) ⟨w.heap.size,0,none⟩ 1 1 zN rfl (λ j u hu=>by
   rw [Addr.add_lit,Nat.zero_add]
   exact hcb.c j hu) (λ u hu=>by simp [zN] at hu;rcases hu with rfl|rfl|rfl|rfl <;> rfl) (by unfold maxLen;omega) (by omega) (by simp;omega)
 have hown2:=h2;rcases h2.2 with ⟨_,h0⟩|⟨g,c,cur,rfl,hgb,hg,hc1,hc2,hc3,hc4⟩
 ·omega
 refine ⟨_,w6,h1,g,c,rfl,?_⟩;have hgw:g<w6.heap.size:=(Array.getElem?_eq_some_iff.1 hg).1;have hgA:wA.heap.size<=g:=hgb
 have hbv:v.ownBlock≠some b:=λ e=>by have:=(World.ownsRow.lt hown b e).1;omega
 have hal:∀k,k<w.heap.size->(w.alloc (.cells zN.toArray 27)).heap[k]?=w.heap[k]?:=λ k hk=>Below.heap_alloc w _ k hk;have hfar:∀k,k<w.heap.size->v.ownBlock≠some k->w6.heap[k]?=w.heap[k]?:=λ k hk hne=>(h3.block k (by simp;omega) (λ e=>hne e.symm)).trans (hal k hk)
 have hle:w.heap.size<=w6.heap.size:=by have:=h3.size;simp at this;omega
 have hcb6:CB w6 b 69 (v::rest):=(hfar b hlt hbv).trans h.c
 have hcg:CB w6 g 27 cur.toList:=by unfold CB;rw [Array.toArray_toList];exact hg
 have hlc:cur.toList.length=c*9:=by rw [Array.length_toList];exact hc3
 have hne:∀k,k<w.heap.size->v.ownBlock≠some k->k≠g:=λ k hk hvk e=>by
  rcases h5 with h5|h5
  ·exact hvk (by rw [<-h5,e];rfl)
  ·have h6:some g=some (w.alloc (.cells zN.toArray 27)).heap.size:=h5;injection h6 with h6;simp at h6;omega
 refine ⟨hle,hcb6,hfar,hne,⟨cur.toList,hcg,hlc,hc1,hc2⟩,λ x ys hys=>?_⟩
 have hyl:ys.length=9:=by rw [hys.len,gNode_len]
 have hmv6:Mv b wA w6:=⟨h3.os.trans h.mv.os,h3.tape.trans h.mv.tape,h3.output.trans h.mv.output,Nat.le_trans hsz hle,λ k hk hne=>by
  rw [hfar k (by omega) (λ e=>by have:=(World.ownsRow.lt hown k e).1;omega)]
  exact h.mv.block hk (λ e=>hne (by rw [e]))⟩
 have hch:Ch (·=g) w6 (sets w6 g (L.length*9) ys):=Ch.many (S:=(·=g)) (.inl rfl) ys _ (Ch.refl _ w6)
 have hgbn:g≠b:=by omega
 have hmv7:Mv b wA (sets w6 g (L.length*9) ys):=⟨hch.os.trans hmv6.os,hch.tape.trans hmv6.tape,hch.output.trans hmv6.output,Nat.le_trans hmv6.size hch.size,λ k hk hne=>by
  have h7:=hmv6.size;rw [hch.block k (by omega) (λ e=>by have e':k=g:=e;omega)]
  exact hmv6.block hk (λ e=>hne (by rw [e]))⟩
 have hc7:CB (sets w6 g (L.length*9) ys) b 69 (v::rest):=hcb6.ch hch (λ e=>hgbn e.symm);have hcg7:=CB.many ys (L.length*9) hcg (by rw [hlc,hyl];omega);have hlcs:=hown.1;refine ⟨hmv7.set 0 _,hc7.set 0 _,⟨cs++ys,?_,?_⟩,?_,h.lt⟩
 ·refine ⟨by simp only [List.length_append,List.length_singleton];rw [hlcs,hyl];omega,.inr ⟨g,c,_,by rw [List.length_append,List.length_singleton],hgA,hcg7.other hgbn 0 _,by rw [List.length_append,List.length_singleton];exact hc1,hc2,?_,?_⟩⟩
  ·simp only [List.size_toArray,List.length_append,List.length_take,List.length_drop,hlc,hyl];omega
  ·have ht:cur.toList.take (L.length*9)=cs:=by
    have:=congrArg (List.take (L.length*9)) hc4;rw [List.take_take,Nat.min_eq_left (by omega),List.take_left' hlcs] at this;exact this
   show List.take _ (cur.toList.take (L.length*9)++ys++_)=_;rw [ht,List.length_append,List.length_singleton,List.take_left' (by rw [List.length_append,hlcs,hyl];omega)]
 ·rw [List.flatMap_append];refine hdx.app ?_;simpa using hys
 ·refine Below.setCell ?_ lb _
  exact ⟨hmv7.os.trans (by have:=h.bl.os;have:=h.mv.os;exact (h.mv.os.symm.trans h.bl.os)),hmv7.tape.trans (h.mv.tape.symm.trans h.bl.tape),hmv7.output.trans (h.mv.output.symm.trans h.bl.output),Nat.le_trans h.bl.size (Nat.le_trans hle hch.size),λ k hk=>by
   have h8:=h.bl.size;have h9:=h.bl.block k hk;rw [hch.block k (by omega) (λ e=>by have e':k=g:=e;have:=h.c.lt;omega),hfar k (by omega) (λ e=>by have:=(World.ownsRow.lt hown k e).1;omega)]
   exact h9⟩
def PGat (w0 wA:World) (b:Nat) (rest:List Value) (x:GN):Prop:=∀(w:World) (L:List GN) (v:Value) (xs:List Value),GS w0 wA w b rest L v->DxsAt w0 (gNode x) xs->L.length+nN x<=1000000 ->
 Calls Tryz.prog 25 #[.pointer (some ⟨b,0,none⟩),.agg xs.toArray] w λ e w'=>e=.returned (.tuple #[])/\∃v',GS w0 wA w' b rest (L++pre x) v'
theorem pres_take {ks:List GN} {i:Nat} {a:GN} (ha:ks[i]?=some a):pres (ks.take (i+1))=pres (ks.take i)++pre a:=by
 rw [List.take_add_one,ha,Option.toList,pres_app,pres,pres,List.append_nil]
theorem pres_le (l:List GN) (i:Nat) {a:GN} (ha:l[i]?=some a):(pres (l.take i)).length+nN a<=nNs l:=by
 have h1:=congrArg List.length (pres_app (l.take (i+1)) (l.drop (i+1)));rw [List.take_append_drop,List.length_append,pres_take ha,List.length_append,pre_len,pres_len] at h1;omega
theorem gat_all (w0 wA:World) (b:Nat) (rest:List Value) (lb:w0.heap.size<=b):∀(d:Nat) (x:GN),okN d x=true->PGat w0 wA b rest x
 |0,x,ho=>by rw [okN] at ho;cases ho
 |d+1,.mk k nm ini dft en le mo ks p,ho=>by
  intro w L v xs h hx hL
  have hks:∀(i:Nat) (a:GN),ks[i]?=some a->okN d a=true:=by
   rw [okN,Bool.and_eq_true] at ho;obtain ⟨_,ho⟩:=ho;intro i a ha
   split at ho
   ·simp only [Bool.and_eq_true,List.isEmpty_iff] at ho;rw [ho.2] at ha;simp at ha
   ·simp only [Bool.and_eq_true] at ho;exact okNs_iff.1 ho.2 a (List.mem_of_getElem? ha)
  have HND:=h_ (λ (i:Nat) (a:GN) (ha:ks[i]?=some a)=>gat_all w0 wA b rest lb d a (hks i a ha));clear hks ho;have HDX:=h_ hx;obtain ⟨A1,A2,A3,A4,c1,c2,c3,c4,rfl,_,_,_,hkd⟩:=node_v hx;obtain ⟨N0,hN0⟩:=str_of nm;obtain ⟨I0,hI0⟩:=str_of ini;obtain ⟨D0,hD0⟩:=str_of dft;rw [hN0,hI0,hD0] at HDX ⊢;rw [nN] at hL;obtain ⟨A,c,hv⟩:=h.slice
  have HPR:Hid (pre (.mk k nm ini dft en le mo ks p)=.mk k nm ini dft en le mo ks p::pres ks):=by show _=_;rw [pre]
  obtain ⟨X0,hX0⟩:∃X,GN.mk k nm ini dft en le mo ks p=X:=⟨_,rfl⟩
  rw [hX0] at HDX HPR ⊢
  have HKS:Hid (DxAt w0 (.row 27 9 ks.length (ks.flatMap gNode)) (.slice A4 ks.length c4)):=by
   show DxAt _ _ _;have:=hkd;unfold gKids at this;rw [gNodes_flat] at this;exact this
  obtain ⟨n1,hn1⟩:∃n,en.length=n:=⟨_,rfl⟩
  obtain ⟨n2,hn2⟩:∃n,le.length=n:=⟨_,rfl⟩
  obtain ⟨n3,hn3⟩:∃n,mo.length=n:=⟨_,rfl⟩
  obtain ⟨n4,hn4⟩:∃n,ks.length=n:=⟨_,rfl⟩
  have HNK:=h_ hn4
  have HMX:Hid (n4<=9223372036854775807):=by
   obtain ⟨_,_,e2,f3,f4⟩:=HKS.out.slice
   have:maxLen<=9223372036854775807:=by decide
   injection e2 with _ _ e2;show _<=_;omega
  rw [hn1,hn2,hn3,hn4] at HDX ⊢;rw [hn4] at HKS;have HLL:=h_ hL
  obtain ⟨NL,hNL⟩:∃n,L.length=n:=⟨_,rfl⟩
  have HNL:=h_ hNL
  obtain ⟨W1,hW1⟩:∃W,W=w.alloc (.cells #[.int .i64 k,.string N0,.string I0,.string D0,.slice A1 n1 c1,.slice A2 n2 c2,.slice A3 n3 c3,.slice A4 n4 c4,.int .i64 p] 27):=⟨_,rfl⟩
  obtain ⟨g1,hg1⟩:∃g,g=w.heap.size:=⟨_,rfl⟩
  have hal:Below w.heap.size w W1:=by rw [hW1];exact (b_ _ w).alloc (n_ _) _
  have HX1:Hid (CB W1 g1 27 [.int .i64 k,.string N0,.string I0,.string D0,.slice A1 n1 c1,.slice A2 n2 c2,.slice A3 n3 c3,.slice A4 n4 c4,.int .i64 p]):=by rw [hW1,hg1];exact CB.new w _ [.int .i64 k,.string N0,.string I0,.string D0,.slice A1 n1 c1,.slice A2 n2 c2,.slice A3 n3 c3,.slice A4 n4 c4,.int .i64 p]
  have hG1:=h.below hal
  have hvo:∀k,v.ownBlock=some k->k≠g1:=λ k hk e=>by
   obtain ⟨cs,hown,_⟩:=h.r;have:=(World.ownsRow.lt hown k hk).2;omega
  have hvb:∀k,v.ownBlock=some k->k≠b:=λ k hk e=>by
   obtain ⟨cs,hown,_⟩:=h.r;have:=(World.ownsRow.lt hown k hk).1;have:=h.lt;omega
  rw [hNL] at hv;subst hv
  have HAPP:Hid (∀(W:World) (ty:TypeId),Below W1.heap.size W1 W->∃v' w6,(Builtin.append_ #[25,25] ty #[.slice A NL c,.slice (some ⟨W.heap.size,0,none⟩) 1 1]).run Tryz.prog (W.alloc (.cells zN.toArray 27))=.ok v' w6/\∃g cc,v'=.slice (some ⟨g,0,none⟩) (NL+1) cc/\(w6.cell? ⟨b,0,none⟩=some (.slice A NL c)/\w6.frozen? ⟨b,0,none⟩=false/\(b≠g/\g≠b)/\CB w6 g1 27 [.int .i64 k,.string N0,.string I0,.string D0,.slice A1 n1 c1,.slice A2 n2 c2,.slice A3 n3 c3,.slice A4 n4 c4,.int .i64 p]/\NL+1<=cc/\(∀i,i<9->(∃u,w6.cell? ⟨g,NL*9+i,none⟩=some u)/\w6.frozen? ⟨g,NL*9+i,none⟩=false)) /\
    ∃W7:World,W7=((((((((((w6.setCell ⟨g,NL*9,none⟩ (.int .i64 k)).setCell ⟨g,NL*9+1,none⟩ (.string N0)).setCell ⟨g,NL*9+2,none⟩ (.string I0)).setCell ⟨g,NL*9+3,none⟩ (.string D0)).setCell ⟨g,NL*9+4,none⟩ (.slice A1 n1 c1)).setCell ⟨g,NL*9+5,none⟩ (.slice A2 n2 c2)).setCell ⟨g,NL*9+6,none⟩ (.slice A3 n3 c3)).setCell ⟨g,NL*9+7,none⟩ (.slice A4 n4 c4)).setCell ⟨g,NL*9+8,none⟩ (.int .i64 p)).setCell ⟨b,0,none⟩ (.slice (some ⟨g,0,none⟩) (NL+1) cc))/\W7=((((((((((w6.setCell ⟨b,0,none⟩ (.slice (some ⟨g,0,none⟩) (NL+1) cc)).setCell ⟨g,NL*9,none⟩ (.int .i64 k)).setCell ⟨g,NL*9+1,none⟩ (.string N0)).setCell ⟨g,NL*9+2,none⟩ (.string I0)).setCell ⟨g,NL*9+3,none⟩ (.string D0)).setCell ⟨g,NL*9+4,none⟩ (.slice A1 n1 c1)).setCell ⟨g,NL*9+5,none⟩ (.slice A2 n2 c2)).setCell ⟨g,NL*9+6,none⟩ (.slice A3 n3 c3)).setCell ⟨g,NL*9+7,none⟩ (.slice A4 n4 c4)).setCell ⟨g,NL*9+8,none⟩ (.int .i64 p))/\Hid (GS w0 wA W7 b rest (L++[X0]) (.slice (some ⟨g,0,none⟩) (NL+1) cc)/\CB W7 g1 27 [.int .i64 k,.string N0,.string I0,.string D0,.slice A1 n1 c1,.slice A2 n2 c2,.slice A3 n3 c3,.slice A4 n4 c4,.int .i64 p])):=λ W ty hb=>by
   have h2:=hG1.below hb;obtain ⟨v',w6,e1,g,cc,e2,h3⟩:=h2.app lb ty (by omega);rw [hNL] at e2;obtain ⟨cur,q1,q2,q3,_⟩:=h3.cur;rw [hNL] at q3
   have hcg:CB w6 g1 27 [.int .i64 k,.string N0,.string I0,.string D0,.slice A1 n1 c1,.slice A2 n2 c2,.slice A3 n3 c3,.slice A4 n4 c4,.int .i64 p]:=by
    have hlt:=(HX1.out.below hb).lt;exact (h3.far g1 hlt (λ e=>hvo g1 e rfl)).trans (HX1.out.below hb)
   have hgg:g1≠g:=h3.ne g1 (HX1.out.below hb).lt (λ e=>hvo g1 e rfl)
   have hgb:g1≠b:=by have:=h.c.lt;omega
   refine ⟨v',w6,e1,g,cc,e2,⟨h3.kb.c 0 rfl,h3.kb.fr 0,⟨h3.ne b h2.c.lt (λ e=>hvb b e rfl),λ e=>h3.ne b h2.c.lt (λ e=>hvb b e rfl) e.symm⟩,hcg,q3,λ i hi=>⟨⟨_,q1.c (NL*9+i) (List.getElem?_eq_getElem (by rw [q2];have:=Nat.mul_le_mul_right 9 q3;omega))⟩,q1.fr _⟩⟩,(sets w6 g (NL*9) [.int .i64 k,.string N0,.string I0,.string D0,.slice A1 n1 c1,.slice A2 n2 c2,.slice A3 n3 c3,.slice A4 n4 c4,.int .i64 p]).setCell ⟨b,0,none⟩ (.slice (some ⟨g,0,none⟩) (NL+1) cc),rfl,sets_comm g b (h3.ne b h2.c.lt (λ e=>hvb b e rfl)) _ _ _ _,?_⟩;refine And.intro ?_ ?_
   ·have:=h3.put X0 [.int .i64 k,.string N0,.string I0,.string D0,.slice A1 n1 c1,.slice A2 n2 c2,.slice A3 n3 c3,.slice A4 n4 c4,.int .i64 p] HDX.out;rw [hNL] at this;exact this
   ·exact (hcg.ch (Ch.many (S:=(·=g)) (.inl rfl) [.int .i64 k,.string N0,.string I0,.string D0,.slice A1 n1 c1,.slice A2 n2 c2,.slice A3 n3 c3,.slice A4 n4 c4,.int .i64 p] (NL*9) (Ch.refl _ w6)) hgg).other hgb 0 _
  have HNLi:Hid (NL<=1000000):=by show _<=_;omega
  obtain ⟨N1,hN1⟩:∃N,NL+1=N:=⟨_,rfl⟩
  rw [hN1] at HAPP
  have hi0:(0:Int)<=(NL:Int):=by omega
  have hi1:(NL:Int)<(N1:Int):=by omega
  have hi2:(N1:Int)<=9223372036854775807:=by omega
  have hi3:(NL:Int)<=9223372036854775807:=by omega
  have y0:=hG1.c.c 0 rfl;have f0:=hG1.c.fr 0;have z0:=HX1.out.c 0 rfl;have z1:=HX1.out.c 1 rfl;have z2:=HX1.out.c 2 rfl;have z3:=HX1.out.c 3 rfl;have z4:=HX1.out.c 4 rfl;have z5:=HX1.out.c 5 rfl;have z6:=HX1.out.c 6 rfl;have z7:=HX1.out.c 7 rfl;have z8:=HX1.out.c 8 rfl;have zn0:=λ ob=>cell_al (w:=W1) ob z0;have zn1:=λ ob=>cell_al (w:=W1) ob z1;have zn2:=λ ob=>cell_al (w:=W1) ob z2;have zn3:=λ ob=>cell_al (w:=W1) ob z3;have zn4:=λ ob=>cell_al (w:=W1) ob z4;have zn5:=λ ob=>cell_al (w:=W1) ob z5;have zn6:=λ ob=>cell_al (w:=W1) ob z6;have zn7:=λ ob=>cell_al (w:=W1) ob z7;have zn8:=λ ob=>cell_al (w:=W1) ob z8;have yn:=λ ob=>cell_al (w:=W1) ob y0;have HDR:Hid (Below W1.heap.size W1 W1.drew):=(b_ _ W1).drew;have HLB:=h_ hG1.bl.size;clear hx hkd h hL hN0 hI0 hD0 hX0 hn1 hn2 hn3 hn4 hNL hal hG1 hvo hvb hN1;go_enter Tryz.func25,Tryz.ntmps25;go_upto_region 1 with fail;rw [<-hW1,<-hg1];clear hW1 hg1
  go_cut [6] from 7 to 16 (λ s6 wr=>Hid (∃v',GS w0 wA wr b rest (L++[X0]) v'/\CB wr g1 27 [.int .i64 k,.string N0,.string I0,.string D0,.slice A1 n1 c1,.slice A2 n2 c2,.slice A3 n3 c3,.slice A4 n4 c4,.int .i64 p]))
  case first =>
   go_region_law (first|(have HA:=HAPP.out W1.drew 25 HDR.out;refine step_app rfl (.tmp 9) (.tmp 12) 25 rfl (.slice A NL c) (.slice (some ⟨W1.drew.heap.size,0,none⟩) 1 1) rfl rfl HA ?_;intro v6 w6 hta;obtain ⟨g6,cc,rfl,⟨k1,k2,⟨kn,km⟩,kc,k3,k4⟩,W7,hW7,hW8,HF⟩:=hta;have l0:=kc.c 0 rfl;have l1:=kc.c 1 rfl;have l2:=kc.c 2 rfl;have l3:=kc.c 3 rfl;have l4:=kc.c 4 rfl;have l5:=kc.c 5 rfl;have l6:=kc.c 6 rfl;have l7:=kc.c 7 rfl;have l8:=kc.c 8 rfl;obtain ⟨⟨s0,t0⟩,r0⟩:=k4 0 (by decide);rw [Nat.add_zero] at t0 r0;obtain ⟨⟨s1,t1⟩,r1⟩:=k4 1 (by decide);obtain ⟨⟨s2,t2⟩,r2⟩:=k4 2 (by decide);obtain ⟨⟨s3,t3⟩,r3⟩:=k4 3 (by decide);obtain ⟨⟨s4,t4⟩,r4⟩:=k4 4 (by decide);obtain ⟨⟨s5,t5⟩,r5⟩:=k4 5 (by decide);obtain ⟨⟨s6,t6⟩,r6⟩:=k4 6 (by decide);obtain ⟨⟨s7,t7⟩,r7⟩:=k4 7 (by decide);obtain ⟨⟨s8,t8⟩,r8⟩:=k4 8 (by decide);clear kc k4 HA))
   all_goals
    clear l0 l1 l2 l3 l4 l5 l6 l7 l8 k1 k2 k3 r0 r1 r2 r3 r4 r5 r6 r7 r8 t0 t1 t2 t3 t4 t5 t6 t7 t8;go_wp2_with fail
    go_meet
    first|(rw [<-hW7];exact ⟨_,HF.out⟩)|(rw [<-hW8];exact ⟨_,HF.out⟩)
  case rest =>
  obtain ⟨v1,HG⟩:=hcut.out;have HG1:=h_ HG.1;have z7:=HG.2.c 7 rfl;clear hcut HG z0 z1 z2 z3 z4 z5 z6 z8 zn0 zn1 zn2 zn3 zn4 zn5 zn6 zn7 zn8 yn y0 f0 HAPP HDX HX1 HDR hi0 hi1 hi2 hi3;go_wp2_with fail;clear z7
  go_loopw [20] (λ iv wr=>∃(i:Nat) (vi:Value),i<=n4/\iv=.int .i64 (i:Int)/\Hid (GS w0 wA wr b rest (L++X0::pres (ks.take i)) vi)) (λ iv _=>n4-(intOf iv).toNat)
  case atStart=>exact ⟨0,v1,Nat.zero_le _,rfl,by show GS _ _ _ _ _ (_++_::pres []) _;rw [pres];exact HG1.out⟩
  case round =>
   obtain ⟨i,vi,hi,rfl,HGI⟩:=hrel;clear HG1
   by_cases him:i<n4
   ·have him':(i:Int)<n4:=by omega
    have HIM:=h_ him
    obtain ⟨a,ha⟩:∃a,ks[i]?=some a:=⟨_,List.getElem?_eq_getElem (by rw [HNK.out];exact him)⟩
    have hks:=HKS.out;rw [<-HNK.out] at hks;obtain ⟨g,og,c',ys,hv,_,_,hg,hy,_,hyc⟩:=DxAt.elem (f:=gNode) (k:=9) gNode_len (by decide) hks ha
    obtain rfl:A4=some ⟨g,og,none⟩:=by injection hv
    have hle:=pres_le ks i ha;have hll:=HLL.out
    have HCM:∀W:World,Below wr.heap.size wr W->Calls Tryz.prog 25 #[.pointer (some ⟨b,0,none⟩),.agg ys.toArray] W λ e w'=>e=.returned (.tuple #[])/\∃v',Hid (GS w0 wA w' b rest (L++X0::pres (ks.take (i+1))) v'):=λ W hb=>by
     refine (HND.out i a ha W _ vi ys (HGI.out.below hb) hy (by rw [List.length_append,List.length_cons];omega)).mono ?_;rintro e w' ⟨rfl,v',h1⟩;rw [a_,List.cons_append,<-pres_take ha] at h1;exact ⟨rfl,v',h1⟩
    obtain ⟨ka,na,ia,da,ea,la,ma,sa,pa⟩:=a;obtain ⟨E1,E2,E3,E4,e1,e2,e3,e4,rfl,_⟩:=node_v hy;obtain ⟨P1,hP1⟩:=str_of na;obtain ⟨P2,hP2⟩:=str_of ia;obtain ⟨P3,hP3⟩:=str_of da
    obtain ⟨m1,hm1⟩:∃n,ea.length=n:=⟨_,rfl⟩
    obtain ⟨m2,hm2⟩:∃n,la.length=n:=⟨_,rfl⟩
    obtain ⟨m3,hm3⟩:∃n,ma.length=n:=⟨_,rfl⟩
    obtain ⟨m4,hm4⟩:∃n,sa.length=n:=⟨_,rfl⟩
    rw [hP1,hP2,hP3,hm1,hm2,hm3,hm4] at HCM hyc
    have kb:∀{p:Addr} {u:Value},w0.cell? p=some u->wr.cell? p=some u:=λ hc=>by rw [World.cell?_of_block (HGI.out.bl.block _ (World.block_lt_of_cell? w0 _ hc))];exact hc
    have u0:wr.cell? ⟨g,og+i*9,none⟩=_:=kb (hyc 0 _ rfl);have u1:=kb (hyc 1 _ rfl);have u2:=kb (hyc 2 _ rfl);have u3:=kb (hyc 3 _ rfl);have u4:=kb (hyc 4 _ rfl);have u5:=kb (hyc 5 _ rfl);have u6:=kb (hyc 6 _ rfl);have u7:=kb (hyc 7 _ rfl);have u8:=kb (hyc 8 _ rfl)
    obtain ⟨W5,hW5⟩:∃W,W=wr.alloc (.cells #[.int .i64 ka,.string P1,.string P2,.string P3,.slice E1 m1 e1,.slice E2 m2 e2,.slice E3 m3 e3,.slice E4 m4 e4,.int .i64 pa] 27):=⟨_,rfl⟩
    obtain ⟨g5,hg5⟩:∃g,g=wr.heap.size:=⟨_,rfl⟩
    have hal5:Below wr.heap.size wr W5:=by rw [hW5];exact (b_ _ wr).alloc (n_ _) _
    have HB5:Hid (CB W5 g5 27 [.int .i64 ka,.string P1,.string P2,.string P3,.slice E1 m1 e1,.slice E2 m2 e2,.slice E3 m3 e3,.slice E4 m4 e4,.int .i64 pa]):=by rw [hW5,hg5];exact CB.new wr _ [.int .i64 ka,.string P1,.string P2,.string P3,.slice E1 m1 e1,.slice E2 m2 e2,.slice E3 m3 e3,.slice E4 m4 e4,.int .i64 pa]
    have HCC:=h_ (HCM W5 hal5);clear ha hv hg hy hyc kb hal5 HCM hP1 hP2 hP3 hm1 hm2 hm3 hm4 HGI hi hks hle hll;go_upto_region 5 with fail;rw [<-hW5,<-hg5];clear hW5 hg5 u0 u1 u2 u3 u4 u5 u6 u7 u8;have y0:=HB5.out.c 0 rfl;have y1:=HB5.out.c 1 rfl;have y2:=HB5.out.c 2 rfl;have y3:=HB5.out.c 3 rfl;have y4:=HB5.out.c 4 rfl;have y5:=HB5.out.c 5 rfl;have y6:=HB5.out.c 6 rfl;have y7:=HB5.out.c 7 rfl;have y8:=HB5.out.c 8 rfl;go_wp2_with fail;refine HCC.out.mono ?_;rintro e w3 ⟨rfl,v3,HG3⟩;clear y0 y1 y2 y3 y4 y5 y6 y7 y8 HB5 HCC;go_wp2_with fail;exact ⟨⟨i+1,v3,by have:=HIM.out;omega,by have h1:=HIM.out;have h2:=HMX.out;rw [Go.IntWalk.wrap64_in _ ⟨by omega,by omega⟩];rfl,HG3⟩,by have h1:=HIM.out;have h2:=HMX.out;rw [Go.IntWalk.wrap64_in _ ⟨by omega,by omega⟩];simp [intOf];omega⟩
   ·have him':¬(i:Int)<n4:=by omega
    have HGE:Hid (GS w0 wA wr b rest (L++pre X0) vi):=by
     have h1:=HGI.out;rw [List.take_of_length_le (by rw [HNK.out];omega)] at h1;rw [HPR.out];exact h1
    clear hi HGI;go_wp2_with fail;go_end0;exact ⟨rfl,vi,HGE.out⟩
end Go.Proofs.YtocecpghoncmgaaGreatDoor
