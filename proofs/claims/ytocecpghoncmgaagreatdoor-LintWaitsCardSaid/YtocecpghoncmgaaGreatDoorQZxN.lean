import Derived.Test.YtocecpghoncmgaaGreatDoorQh
import Derived.Test.YtocecpghoncmgaaGreatDoorQPwH
import Derived.Test.YtocecpghoncmgaaGreatDoorQPwB
import Derived.Test.YtocecpghoncmgaaGreatDoorQPrD
import Derived.Test.YtocecpghoncmgaaGreatDoorQEA
import Derived.Test.YtocecpghoncmgaaGreatDoorQPkB
import Derived.Test.YtocecpghoncmgaaGreatDoorQVaX
import Derived.Test.YtocecpghoncmgaaGreatDoorQLnP
import Derived.Test.YtocecpghoncmgaaGreatDoorQEB
import Derived.Test.YtocecpghoncmgaaGreatDoorQPkA
import Derived.Deep.Slices
import Derived.SizedLaws
import Derived.OpenShut
set_option maxHeartbeats 12800000
set_option maxRecDepth 20000
namespace Go.Proofs.YtocecpghoncmgaaGreatDoor
open Go.RowKit
theorem dx_nil (w:World):DxAt w (dvVars []) (.slice none 0 0):=by
 unfold dvVars DxAt;exact ⟨none,0,[],rfl,n_ _,Nat.zero_le _,.inl rfl,DxsAt.nil w⟩
theorem pn_all (w0:World) (b:Nat) (hE:Ee w0):∀(d:Nat) (x:GN),PN w0 b d x
 |0,x=>λ w n T xs _ _ _ ho _=>by rw [okN] at ho;cases ho
 |d+1,.mk k nm ini dft en le mo ks p=>by
  intro w n T xs h hx hn ho hr;have ihd:=pn_all w0 b hE d;have hok:=ho;rw [okN,Bool.and_eq_true] at hok;obtain ⟨hnm,hok⟩:=hok
  have hkd:k=1∨k=2∨k=3∨k=4:=by
   by_cases c:k=3∨k=4
   ·omega
   ·rw [if_neg c] at hok;simp only [Bool.and_eq_true,decide_eq_true_eq] at hok;omega
  obtain ⟨A1,A2,A3,A4,Ac1,Ac2,Ac3,Ac4,rfl,_⟩:=node_v hx
  obtain ⟨N0,hN0⟩:∃N:ByteArray,(⟨nm.toArray⟩:ByteArray)=N:=⟨_,rfl⟩
  obtain ⟨I0,hI0⟩:∃N:ByteArray,(⟨ini.toArray⟩:ByteArray)=N:=⟨_,rfl⟩
  obtain ⟨D0,hD0⟩:∃N:ByteArray,(⟨dft.toArray⟩:ByteArray)=N:=⟨_,rfl⟩
  have eN:txV nm=.string N0:=by rw [<-hN0];rfl
  have eI:txV ini=.string I0:=by rw [<-hI0];rfl
  have eD:txV dft=.string D0:=by rw [<-hD0];rfl
  have HNM:Hid (N0.data.toList=nm):=by show _=_;rw [<-hN0]
  have HDM:Hid (D0.data.toList=dft):=by show _=_;rw [<-hD0]
  rw [eN,eI,eD] at hx ⊢
  obtain ⟨BT,hBT⟩:∃BT,iniT (n+1) ini++(clT (n+1) wEnter (en.map GA.s)++(clT (n+1) wLeave (le.map GA.s)++(mvsT (n+1) (mo.map GM.s)++nodesT (n+1) (ks.map GN.s))))=BT:=⟨_,rfl⟩
  have HBT:Hid (BT=iniT (n+1) ini++(clT (n+1) wEnter (en.map GA.s)++(clT (n+1) wLeave (le.map GA.s)++(mvsT (n+1) (mo.map GM.s)++nodesT (n+1) (ks.map GN.s))))):=hBT.symm
  have HST0:k≠3->k≠4->∀(S:ByteArray) (W:World),WS w0 W b T n ⟨#[]⟩->kwOk S.data.toList=true->S.size<=1000000->Calls Tryz.prog 43 #[.pointer (some ⟨b,0,none⟩),.string S,.agg #[.int .i64 k,.string N0,.string I0,.string D0,.slice A1 en.length Ac1,.slice A2 le.length Ac2,.slice A3 mo.length Ac3,.slice A4 ks.length Ac4,.int .i64 p],.slice none 0 0] W λ e w'=>e=.returned (.tuple #[])/\WS w0 w' b (T++(ind n (S.data.toList++32::(N0.data.toList++32::[123]))++(pvT (n+1) []++(BT++ind n [125])))) n ⟨#[]⟩/\Wk w0.heap.size b W w':=by
   intro k3 k4 S W hw hS hsz;rw [if_neg (by omega)] at hok;simp only [Bool.and_eq_true] at hok;obtain ⟨⟨⟨⟨⟨⟨_,_⟩,o1⟩,o2⟩,o3⟩,o4⟩,o5⟩:=hok;refine pstate_any w0 W b n T BT S k p N0 I0 D0 A1 A2 A3 A4 none en.length le.length mo.length ks.length Ac1 Ac2 Ac3 Ac4 0 [] hE hw ?_ (dx_nil w0) (λ _ h=>(by cases h)) (λ _ h=>(by cases h)) hS hsz (by rw [HNM.out];exact hnm) (λ W' T' hw'=>?_)
   ·omega
   ·have:=pbody_any w0 W' b (n+1) d T' k p nm ini dft en le mo ks _ hE hw' hx (by omega) o1 o2 o3 o4 o5 hr (λ i a _=>ihd a);rw [hBT] at this;exact this
  have hdn:k=3∨k=4->isNm dft=true:=λ c=>by
   rw [if_pos c] at hok;simp only [Bool.and_eq_true] at hok;exact hok.1.1.1.1.1
  have HNN:=h_ (show n<=100 from by omega);have HXE0:Hid (GN.s (.mk k nm ini dft en le mo ks p)=GN.s (.mk k nm ini dft en le mo ks p)):=rfl
  obtain ⟨X,hX⟩:∃X,GN.s (.mk k nm ini dft en le mo ks p)=X:=⟨_,rfl⟩
  rw [hX]
  have HSZ:Hid (∀(s:List UInt8) (S:ByteArray),S.data.toList=s->isNm s=true->S.size<=1000000):=λ s S e h=>by
   have h1:S.data.toList.length<=24:=by rw [e];exact nm_size h
   have h2:S.data.toList.length=S.size:=rfl;omega
  obtain ⟨K,hK⟩:∃K,k=K:=⟨_,rfl⟩
  rw [hK] at HST0 hkd hdn ⊢;have HXE:=h_ hX
  have HXS:Hid (GN.mk k nm ini dft en le mo ks p=GN.mk K nm ini dft en le mo ks p):=by show _=_;rw [hK]
  obtain ⟨W1,hW1⟩:∃W,W=w.alloc (.cells #[.int .i64 K,.string N0,.string I0,.string D0,.slice A1 en.length Ac1,.slice A2 le.length Ac2,.slice A3 mo.length Ac3,.slice A4 ks.length Ac4,.int .i64 p] 27):=⟨_,rfl⟩
  obtain ⟨g1,hg1⟩:∃g,g=w.heap.size:=⟨_,rfl⟩
  have hal:Below w.heap.size w W1:=by rw [hW1];exact (b_ _ w).alloc (n_ _) _
  have HB1:Hid (CB W1 g1 27 [.int .i64 K,.string N0,.string I0,.string D0,.slice A1 en.length Ac1,.slice A2 le.length Ac2,.slice A3 mo.length Ac3,.slice A4 ks.length Ac4,.int .i64 p]):=by rw [hW1,hg1];exact CB.new w _ [.int .i64 K,.string N0,.string I0,.string D0,.slice A1 en.length Ac1,.slice A2 le.length Ac2,.slice A3 mo.length Ac3,.slice A4 ks.length Ac4,.int .i64 p]
  have HW1:=h_ (h.below hal);have HK1:Hid (Wk w0.heap.size b w W1):=Wk.of h.bl.size hal;have z0:=HB1.out.c 0 rfl;have HNMO:=h_ hnm;clear h hal hx hn ho hr hok ihd hN0 hI0 hD0 eN eI eD hBT hnm hX hK HXE0;rcases hkd with rfl|rfl|rfl|rfl
  ·have HST:=h_ (HST0 (by decide) (by decide));clear HST0 hdn;go_enter Tryz.func146,Tryz.ntmps146;go_upto_region 1 with fail;rw [<-hW1,<-hg1];clear hW1 hg1;have HC:=h_ (HST.out ⟨#[115,116,97,116,101]⟩ W1 HW1.out (by decide) (by decide))
   have HFN:Hid (ind n ((⟨#[115,116,97,116,101]⟩:ByteArray).data.toList++32::(N0.data.toList++32::[123]))++(pvT (n+1) []++(BT++ind n [125]))=nodeT n X):=by
    show _=_;rw [<-HXE.out,HXS.out,HNM.out];unfold GN.s nodeT;rw [if_neg (by decide),HBT.out,ss_map];simp only [pvT,List.nil_append,a_];rfl
   rw [HFN.out] at HC;have z0:=HB1.out.c 0 rfl;have z1:=HB1.out.c 1 rfl;have z2:=HB1.out.c 2 rfl;have z3:=HB1.out.c 3 rfl;have z4:=HB1.out.c 4 rfl;have z5:=HB1.out.c 5 rfl;have z6:=HB1.out.c 6 rfl;have z7:=HB1.out.c 7 rfl;have z8:=HB1.out.c 8 rfl;clear HB1 HW1 HST;go_wp2_with fail;refine HC.out.mono ?_;rintro e w3 ⟨rfl,h1,h2⟩;have HW3:=h_ h1;have HK3:=h_ (HK1.out.trans h2);clear h1 h2 HC z0 z1 z2 z3 z4 z5 z6 z7 z8;go_wp2_with fail;go_end0;exact ⟨rfl,HW3.out,HK3.out⟩
  ·have HST:=h_ (HST0 (by decide) (by decide));clear HST0 hdn;go_enter Tryz.func146,Tryz.ntmps146;go_upto_region 1 with fail;rw [<-hW1,<-hg1];clear hW1 hg1;have HC:=h_ (HST.out ⟨#[112,97,114,97,108,108,101,108]⟩ W1 HW1.out (by decide) (by decide))
   have HFN:Hid (ind n ((⟨#[112,97,114,97,108,108,101,108]⟩:ByteArray).data.toList++32::(N0.data.toList++32::[123]))++(pvT (n+1) []++(BT++ind n [125]))=nodeT n X):=by
    show _=_;rw [<-HXE.out,HXS.out,HNM.out];unfold GN.s nodeT;rw [if_neg (by decide),HBT.out,ss_map];simp only [pvT,List.nil_append,a_];rfl
   rw [HFN.out] at HC;have z0:=HB1.out.c 0 rfl;have z1:=HB1.out.c 1 rfl;have z2:=HB1.out.c 2 rfl;have z3:=HB1.out.c 3 rfl;have z4:=HB1.out.c 4 rfl;have z5:=HB1.out.c 5 rfl;have z6:=HB1.out.c 6 rfl;have z7:=HB1.out.c 7 rfl;have z8:=HB1.out.c 8 rfl;clear HB1 HW1 HST;go_wp2_with fail;refine HC.out.mono ?_;rintro e w3 ⟨rfl,h1,h2⟩;have HW3:=h_ h1;have HK3:=h_ (HK1.out.trans h2);clear h1 h2 HC z0 z1 z2 z3 z4 z5 z6 z7 z8;go_wp2_with fail;go_end0;exact ⟨rfl,HW3.out,HK3.out⟩
  ·have HST:Hid True:=trivial;have HNO:=h_ (And.intro HNMO.out (hdn (by decide)));have HN2:=h_ (And.intro (HSZ.out _ _ HNM.out HNO.out.1) (HSZ.out _ _ HDM.out HNO.out.2));clear HST0 hdn HSZ;go_enter Tryz.func146,Tryz.ntmps146;go_upto_region 1 with fail;rw [<-hW1,<-hg1];clear hW1 hg1
   obtain ⟨W2,hW2⟩:∃W,W=W1.alloc (.cells #[.string ⟨#[104,105,115,116,111,114,121]⟩,.string N0,.string ⟨#[45,62]⟩,.string D0,.string ⟨#[59]⟩] 9):=⟨_,rfl⟩
   obtain ⟨g2,hg2⟩:∃g,g=W1.heap.size:=⟨_,rfl⟩
   have hal:Below W1.heap.size W1 W2:=by rw [hW2];exact (b_ _ W1).alloc (n_ _) _
   have HC:=h_ (pline_any w0 W2 b n g2 5 T [⟨#[104,105,115,116,111,114,121]⟩,N0,⟨#[45,62]⟩,D0,⟨#[59]⟩] (HW1.out.below hal) (by rw [hW2,hg2];exact CB.new W1 _ [.string ⟨#[104,105,115,116,111,114,121]⟩,.string N0,.string ⟨#[45,62]⟩,.string D0,.string ⟨#[59]⟩]) rfl (by have:=HW1.out.lt;omega) (by
    intro s hs;simp only [List.mem_cons,List.not_mem_nil,or_false] at hs;rcases hs with hs|hs|hs|hs|hs
    ·rw [hs];decide
    ·rw [hs];exact HN2.out.1
    ·rw [hs];decide
    ·rw [hs];exact HN2.out.2
    ·rw [hs];decide) (by decide) (by have:=HNN.out;omega))
   have HFN:Hid (ind n (ptT [] (wds [⟨#[104,105,115,116,111,114,121]⟩,N0,⟨#[45,62]⟩,D0,⟨#[59]⟩]))=nodeT n X):=by
    show _=_;rw [<-HXE.out,HXS.out];unfold GN.s nodeT;rw [if_pos (by decide),<-pt_hist (pw_kw (nodeW_ok (by decide))) (pw_name HNO.out.1) (pw_name HNO.out.2)];simp only [wds,List.map_cons,List.map_nil,HNM.out,HDM.out];rfl
   rw [HFN.out] at HC;have HK2:Hid (Wk w0.heap.size b w W2):=HK1.out.trans (Wk.of HW1.out.bl.size hal);have z0:=HB1.out.c 0 rfl;have z1:=HB1.out.c 1 rfl;have z3:=HB1.out.c 3 rfl;clear hal HB1 HW1 HK1 HST;go_wp2_with fail;rw [<-hW2,<-hg2];clear hW2 hg2 z0 z1 z3;refine HC.out.mono ?_;rintro e w3 ⟨rfl,h1,h2⟩;have HW3:=h_ h1;have HK3:=h_ (HK2.out.trans h2);clear h1 h2 HC HK2;go_wp2_with fail;go_end0;exact ⟨rfl,HW3.out,HK3.out⟩
  ·have HST:Hid True:=trivial;have HNO:=h_ (And.intro HNMO.out (hdn (by decide)));have HN2:=h_ (And.intro (HSZ.out _ _ HNM.out HNO.out.1) (HSZ.out _ _ HDM.out HNO.out.2));clear HST0 hdn HSZ;go_enter Tryz.func146,Tryz.ntmps146;go_upto_region 1 with fail;rw [<-hW1,<-hg1];clear hW1 hg1
   obtain ⟨W2,hW2⟩:∃W,W=W1.alloc (.cells #[.string ⟨#[100,101,101,112]⟩,.string N0,.string ⟨#[45,62]⟩,.string D0,.string ⟨#[59]⟩] 9):=⟨_,rfl⟩
   obtain ⟨g2,hg2⟩:∃g,g=W1.heap.size:=⟨_,rfl⟩
   have hal:Below W1.heap.size W1 W2:=by rw [hW2];exact (b_ _ W1).alloc (n_ _) _
   have HC:=h_ (pline_any w0 W2 b n g2 5 T [⟨#[100,101,101,112]⟩,N0,⟨#[45,62]⟩,D0,⟨#[59]⟩] (HW1.out.below hal) (by rw [hW2,hg2];exact CB.new W1 _ [.string ⟨#[100,101,101,112]⟩,.string N0,.string ⟨#[45,62]⟩,.string D0,.string ⟨#[59]⟩]) rfl (by have:=HW1.out.lt;omega) (by
    intro s hs;simp only [List.mem_cons,List.not_mem_nil,or_false] at hs;rcases hs with hs|hs|hs|hs|hs
    ·rw [hs];decide
    ·rw [hs];exact HN2.out.1
    ·rw [hs];decide
    ·rw [hs];exact HN2.out.2
    ·rw [hs];decide) (by decide) (by have:=HNN.out;omega))
   have HFN:Hid (ind n (ptT [] (wds [⟨#[100,101,101,112]⟩,N0,⟨#[45,62]⟩,D0,⟨#[59]⟩]))=nodeT n X):=by
    show _=_;rw [<-HXE.out,HXS.out];unfold GN.s nodeT;rw [if_pos (by decide),<-pt_hist (pw_kw (nodeW_ok (by decide))) (pw_name HNO.out.1) (pw_name HNO.out.2)];simp only [wds,List.map_cons,List.map_nil,HNM.out,HDM.out];rfl
   rw [HFN.out] at HC;have HK2:Hid (Wk w0.heap.size b w W2):=HK1.out.trans (Wk.of HW1.out.bl.size hal);have z0:=HB1.out.c 0 rfl;have z1:=HB1.out.c 1 rfl;have z3:=HB1.out.c 3 rfl;clear hal HB1 HW1 HK1 HST;go_wp2_with fail;rw [<-hW2,<-hg2];clear hW2 hg2 z0 z1 z3;refine HC.out.mono ?_;rintro e w3 ⟨rfl,h1,h2⟩;have HW3:=h_ h1;have HK3:=h_ (HK2.out.trans h2);clear h1 h2 HC HK2;go_wp2_with fail;go_end0;exact ⟨rfl,HW3.out,HK3.out⟩
theorem chartT_ne (c:SyChart):chartT c≠[]:=by
 obtain ⟨vs,k,nm,ini,dft,en,le,mo,ks,p⟩:=c;unfold chartT;simp [ind,wChart]
theorem print_any (w:World) (c:GC) (xs:List Value) (hE:Ee w) (hx:DxsAt w (gChart c) xs) (hr:c.rng) (hl:c.root.len) :
  Calls Tryz.prog 22 #[.agg xs.toArray] w λ e w'=>e=.returned (.tuple #[.string ⟨(prR c).1.toArray⟩,.int .i64 (prR c).2])/\Below w.heap.size w w':=by
 have HIT0:=λ (W:World) (hb:Below w.heap.size w W)=>istree_any W c xs (hE.below hb) (hx.below hb) hr hl
 obtain ⟨X,hX⟩:∃X,prR c=X:=⟨_,rfl⟩
 have HR0:Hid (X=if okC c=true then (if (chartT c.s).length<=16384 then (chartT c.s,0) else ([],2)) else ([],22)):=by
  show _=_;rw [<-hX];rfl
 have HNE:=h_ (chartT_ne c.s)
 obtain ⟨CT,hCT⟩:∃T,chartT c.s=T:=⟨_,rfl⟩
 rw [hCT] at HR0 HNE;rw [hX];clear hX
 have HOK:okC c=true->c.vars.all okV=true/\c.root.kind=1/\okN 12 c.root=true:=λ h=>by
  unfold okC at h;simp only [Bool.and_eq_true,decide_eq_true_eq] at h;exact ⟨h.1.1.1.1.1.2,h.1.1.1.1.2,h.1.1.1.2⟩
 obtain ⟨qc,hqc⟩:∃q,okC c=q:=⟨_,rfl⟩
 rw [hqc] at HR0 HOK HIT0;obtain ⟨vs,k,nm,ini,dft,en,le,mo,ks,p⟩:=c;obtain ⟨hrv,hrn⟩:=hr;simp only [GN.kind] at hrv hrn hl HOK;unfold gChart at hx;obtain ⟨vx,xs,rfl,dv,dn⟩:=hx.uncons
 have HBD0:=λ (BT:List UInt8) (hBT:iniT 1 ini++(clT 1 wEnter (en.map GA.s)++(clT 1 wLeave (le.map GA.s)++(mvsT 1 (mo.map GM.s)++nodesT 1 (ks.map GN.s))))=BT) (h:qc=true) (w2:World) (hb:Below w.heap.size w w2) (b:Nat) (W:World) (T':List UInt8) (hw:WS w2 W b T' 1 ⟨#[]⟩)=>by
  have hok:=(HOK h).2.2;have hk1:=(HOK h).2.1;rw [okN,if_neg (by omega)] at hok;simp only [Bool.and_eq_true] at hok;obtain ⟨_,⟨⟨⟨⟨⟨_,_⟩,o1⟩,o2⟩,o3⟩,o4⟩,o5⟩:=hok;have z:=pbody_any w2 W b 1 11 T' k p nm ini dft en le mo ks xs (hE.below hb) hw (dn.below hb) (by decide) o1 o2 o3 o4 o5 hrn (λ i a _=>pn_all w2 b (hE.below hb) 11 a);rw [hBT] at z;exact z
 have HNO:qc=true->isNm nm=true:=λ h=>by
  have hok:=(HOK h).2.2;rw [okN,Bool.and_eq_true] at hok;exact hok.1
 obtain ⟨A1,A2,A3,A4,c1,c2,c3,c4,rfl,_⟩:=node_v dn;obtain ⟨A0,c0,rfl,hc1,hc2⟩:=DxAt.slice (show DxAt w (.row 73 3 vs.length (vs.flatMap dvVar)) vx from dv)
 obtain ⟨N0,hN0⟩:∃N:ByteArray,(⟨nm.toArray⟩:ByteArray)=N:=⟨_,rfl⟩
 obtain ⟨I0,hI0⟩:∃N:ByteArray,(⟨ini.toArray⟩:ByteArray)=N:=⟨_,rfl⟩
 obtain ⟨D0,hD0⟩:∃N:ByteArray,(⟨dft.toArray⟩:ByteArray)=N:=⟨_,rfl⟩
 have eN:txV nm=.string N0:=by rw [<-hN0];rfl
 have eI:txV ini=.string I0:=by rw [<-hI0];rfl
 have eD:txV dft=.string D0:=by rw [<-hD0];rfl
 have hNL:N0.data.toList=nm:=by rw [<-hN0]
 rw [eN,eI,eD] at HBD0 HIT0 ⊢
 obtain ⟨BT,hBT⟩:∃BT,iniT 1 ini++(clT 1 wEnter (en.map GA.s)++(clT 1 wLeave (le.map GA.s)++(mvsT 1 (mo.map GM.s)++nodesT 1 (ks.map GN.s))))=BT:=⟨_,rfl⟩
 have HCT:Hid (([]:List UInt8)++(ind 0 ((⟨#[99,104,97,114,116]⟩:ByteArray).data.toList++32::(N0.data.toList++32::[123]))++(pvT (0+1) vs++(BT++ind 0 [125])))=CT):=by
  show _=_;rw [<-hCT,<-hBT,hNL];unfold GC.s GN.s chartT;simp only;rw [ss_map,pvT_one];simp only [List.nil_append,a_];rfl
 have HST0:=λ (h:qc=true) (w2:World) (hb:Below w.heap.size w w2) (b:Nat) (W:World) (hw:WS w2 W b [] 0 ⟨#[]⟩) =>
  pstate_any w2 W b 0 [] BT ⟨#[99,104,97,114,116]⟩ k p N0 I0 D0 A1 A2 A3 A4 A0 en.length le.length mo.length ks.length c1 c2 c3 c4 c0 vs (hE.below hb) hw (by decide) (dv.below hb) (λ v hv=>by
   have:=List.all_eq_true.1 (HOK h).1 v hv;unfold okV at this;rw [Bool.and_eq_true] at this
   exact this.1) hrv (by decide) (by decide) (by rw [hNL];exact HNO h) (λ W' T' hw'=>HBD0 BT hBT h w2 hb b W' T' hw')
 rw [HCT.out] at HST0
 obtain ⟨n0,hn0⟩:∃n,vs.length=n:=⟨_,rfl⟩
 obtain ⟨n1,hn1⟩:∃n,en.length=n:=⟨_,rfl⟩
 obtain ⟨n2,hn2⟩:∃n,le.length=n:=⟨_,rfl⟩
 obtain ⟨n3,hn3⟩:∃n,mo.length=n:=⟨_,rfl⟩
 obtain ⟨n4,hn4⟩:∃n,ks.length=n:=⟨_,rfl⟩
 obtain ⟨K,hK⟩:∃K,k=K:=⟨_,rfl⟩
 rw [hn0,hn1,hn2,hn3,hn4,hK] at HST0 HIT0 ⊢;have HST:=h_ HST0;have HIT:=h_ HIT0
 obtain ⟨W1,hW1⟩:∃W,W=w.alloc (.cells #[.slice A0 n0 c0,.int .i64 K,.string N0,.string I0,.string D0,.slice A1 n1 c1,.slice A2 n2 c2,.slice A3 n3 c3,.slice A4 n4 c4,.int .i64 p] 29):=⟨_,rfl⟩
 obtain ⟨g1,hg1⟩:∃g,g=w.heap.size:=⟨_,rfl⟩
 have hal:Below w.heap.size w W1:=by rw [hW1];exact (b_ _ w).alloc (n_ _) _
 have HX:Hid (CB W1 g1 29 [.slice A0 n0 c0,.int .i64 K,.string N0,.string I0,.string D0,.slice A1 n1 c1,.slice A2 n2 c2,.slice A3 n3 c3,.slice A4 n4 c4,.int .i64 p]):=by rw [hW1,hg1];exact CB.new w _ [.slice A0 n0 c0,.int .i64 K,.string N0,.string I0,.string D0,.slice A1 n1 c1,.slice A2 n2 c2,.slice A3 n3 c3,.slice A4 n4 c4,.int .i64 p]
 have HB:=h_ hal;have HLW:=h_ hal.size
 have SEE:Hid (∀W,Below W1.heap.size W1 W->W.cell? ⟨g1,0,none⟩=some (.slice A0 n0 c0)/\W.cell? ⟨g1,1,none⟩=some (.int .i64 K)/\W.cell? ⟨g1,2,none⟩=some (.string N0)/\W.cell? ⟨g1,3,none⟩=some (.string I0)/\W.cell? ⟨g1,4,none⟩=some (.string D0)/\W.cell? ⟨g1,5,none⟩=some (.slice A1 n1 c1)/\W.cell? ⟨g1,6,none⟩=some (.slice A2 n2 c2)/\W.cell? ⟨g1,7,none⟩=some (.slice A3 n3 c3)/\W.cell? ⟨g1,8,none⟩=some (.slice A4 n4 c4)/\W.cell? ⟨g1,9,none⟩=some (.int .i64 p)):=λ W hb=>by
  have z:=HX.out.below hb;exact ⟨z.c 0 rfl,z.c 1 rfl,z.c 2 rfl,z.c 3 rfl,z.c 4 rfl,z.c 5 rfl,z.c 6 rfl,z.c 7 rfl,z.c 8 rfl,z.c 9 rfl⟩
 clear HIT0 HST0 HBD0 HNO HOK hE hx hrv hrn hl dv dn hc1 hc2 hqc hCT hBT HCT hN0 hI0 hD0 eN eI eD hNL hn0 hn1 hn2 hn3 hn4 hK hal;obtain ⟨y0,y1,y2,y3,y4,y5,y6,y7,y8,y9⟩:=SEE.out W1 (b_ _ W1);go_enter Tryz.func22,Tryz.ntmps22;go_upto_region 1 with fail;rw [<-hW1,<-hg1];clear hW1 hg1;go_wp2_with fail;refine (HIT.out W1 HB.out).mono ?_;rintro e w2 ⟨rfl,hb⟩;have HF2:=h_ hb;have HW2:=h_ (HB.out.trans (hb.mono HLW.out));clear hb HIT y0 y1 y2 y3 y4 y5 y6 y7 y8 y9;cases qc
 ·have HR:Hid (X=([],22)):=by
   show _=_;rw [HR0.out];rfl
  clear HR0 HST SEE HX;go_wp2_with fail;go_ret2;exact ⟨by rw [HR.out];rfl,HW2.out⟩
 ·have HR1:Hid (X=if CT.length<=16384 then (CT,0) else ([],2)):=by
   show _=_;rw [HR0.out];rfl
  obtain ⟨W3,hW3⟩:∃W,W=w2.alloc (.cells #[.pointer none,.slice none 0 0,.int .i64 0,.string ⟨#[]⟩] 101):=⟨_,rfl⟩
  obtain ⟨g3,hg3⟩:∃g,g=w2.heap.size:=⟨_,rfl⟩
  have hb3:Below w2.heap.size w2 W3:=by rw [hW3];exact (b_ _ w2).alloc (n_ _) _
  have HWS:Hid (WS w2 W3 g3 [] 0 ⟨#[]⟩):=⟨hb3,[],⟨λ _=>rfl,λ h=>(by cases h),by decide⟩,by rw [hW3,hg3];exact WC.new w2⟩
  obtain ⟨u0,u1,u2,u3,u4,u5,u6,u7,u8,u9⟩:=SEE.out W3 (HF2.out.trans (hb3.mono HF2.out.size));have HS3:=h_ (HST.out rfl w2 HW2.out g3 W3 HWS.out);clear hb3 HR0 HST SEE HX;go_upto_region 4 with fail;rw [<-hW3,<-hg3];clear hW3 hg3;go_wp2_with fail;refine HS3.out.mono ?_;rintro e w4 ⟨rfl,hws,hwk⟩;have HW4:=h_ (HW2.out.trans (hws.bl.mono HW2.out.size));obtain ⟨l,hwl,hwc⟩:=hws.wc;have HWL:=h_ hwl;have HWC:=h_ hwc;have HLN:=h_ (pblen_any w4 _ g3 l 0 ⟨#[]⟩ hwc)
  obtain ⟨LV,hLV⟩:∃L:Int,(l.length:Int)=L:=⟨_,rfl⟩
  rw [hLV] at HLN
  obtain ⟨q,hq⟩:∃q,decide (LV > 16384)=q:=⟨_,rfl⟩
  have hql:decide (l.length > 16384)=q:=by
   rw [<-hq,<-hLV]
   by_cases z:l.length > 16384
   ·rw [decide_eq_true z,decide_eq_true (by omega)]
   ·rw [decide_eq_false z,decide_eq_false (by omega)]
  clear hws hwk hwl hwc HS3 HWS hLV u0 u1 u2 u3 u4 u5 u6 u7 u8 u9;go_wp2_with fail;refine HLN.out.mono ?_;rintro e w5 ⟨rfl,rfl⟩;cases q
  ·have hle:CT.length<=16384:=by
    rcases Nat.lt_or_ge 16384 CT.length with h|h
    ·have h1:=HWL.out.2.1 h;exact absurd h1 (of_decide_eq_false hql)
    ·exact h
   have hlt:l=CT:=HWL.out.1 hle
   have HR:Hid (X=(CT,0)):=by
    show _=_;rw [HR1.out,if_pos hle]
   have HSR:=h_ (pbstring_any w5 _ g3 l 0 ⟨#[]⟩ HWC.out (by rw [hlt];exact HNE.out));rw [hlt] at HSR;clear hle hlt hql HWL HWC HLN HR1;go_wp2_with fail;refine HSR.out.mono ?_;rintro e w6 ⟨rfl,hb⟩;have HF:=h_ (HW4.out.trans (hb.mono HW2.out.size));clear hb HSR;go_wp2_with fail;go_ret2;exact ⟨by rw [HR.out];rfl,HF.out⟩
  ·have HR:Hid (X=([],2)):=by
    show _=_;rw [HR1.out,if_neg];intro h;have h1:=HWL.out.1 h;have h2:=of_decide_eq_true hql;rw [h1] at h2;omega
   clear hql HWL HWC HLN HR1;go_wp2_with fail;go_ret2;exact ⟨by rw [HR.out];rfl,HW4.out⟩
theorem pair_chart (w:World) (y0 y1 y2 y3 y4 y5 y6 y7 y8 y9:Value) (c p:Int):∃(W:World) (g1 g2:Nat),W=(w.alloc (.cells #[y0,y1,y2,y3,y4,y5,y6,y7,y8,y9] 29)).alloc (.cells #[.int .i64 c,.int .i64 p] 34) /\
  g1=w.heap.size/\g2=w.heap.size+1/\Hid (CB W g1 29 [y0,y1,y2,y3,y4,y5,y6,y7,y8,y9])/\Hid (FtB W g2 (.int .i64 c) (.int .i64 p))/\Hid (Below w.heap.size w W):=by
 have e:(w.alloc (.cells #[y0,y1,y2,y3,y4,y5,y6,y7,y8,y9] 29)).heap.size=w.heap.size+1:=by simp
 refine ⟨_,_,_,rfl,rfl,rfl,(CB.new w _ [y0,y1,y2,y3,y4,y5,y6,y7,y8,y9]).alloc _,?_,((b_ _ w).alloc (n_ _) _).alloc (by omega) _⟩;rw [<-e];exact FtB.new _ _ _
theorem chart_cells {w:World} {c:GC} {xs:List Value} (hx:DxsAt w (gChart c) xs):xs.length=10:=by
 have h1:=hx.len
 have h2:(gChart c).length=10:=by
  show (dvVars c.vars::gNode c.root).length=10;rw [List.length_cons,gNode_len]
 omega
theorem fright_any (w:World) (c:GC) (xs:List Value) (hE:Ee w) (hx:DxsAt w (gChart c) xs) (hr:c.rng) (hl:c.root.len) :
  Calls Tryz.prog 39 #[.agg xs.toArray] w λ e w'=>e=.returned (.int .i64 (prR c).2)/\Below w.heap.size w w':=by
 have HPR:=h_ (λ (W:World) (hb:Below w.heap.size w W)=>print_any W c _ (hE.below hb) (hx.below hb) hr hl);obtain ⟨x0,x1,x2,x3,x4,x5,x6,x7,x8,x9,rfl⟩:=cells10 (chart_cells hx)
 obtain ⟨W0,hW0⟩:∃W,W=w.alloc (.cells #[x0,x1,x2,x3,x4,x5,x6,x7,x8,x9] 29):=⟨_,rfl⟩
 obtain ⟨g0,hg0⟩:∃g,g=w.heap.size:=⟨_,rfl⟩
 have hal:Below w.heap.size w W0:=by rw [hW0];exact (b_ _ w).alloc (n_ _) _
 have HB0:=h_ hal
 have HC0:Hid (CB W0 g0 29 [x0,x1,x2,x3,x4,x5,x6,x7,x8,x9]):=by rw [hW0,hg0];exact CB.new w _ [x0,x1,x2,x3,x4,x5,x6,x7,x8,x9]
 have ro:∀u∈[x0,x1,x2,x3,x4,x5,x6,x7,x8,x9],u.oneCell'=true:=hx.ones;have HQ:=h_ (HPR.out W0 hal)
 obtain ⟨P,hP⟩:∃P,prR c=P:=⟨_,rfl⟩
 rw [hP] at HQ ⊢;clear hP hE hx hr hl hal HPR;have o0:=ro x0 (by simp);have o1:=ro x1 (by simp);have o2:=ro x2 (by simp);have o3:=ro x3 (by simp);have o4:=ro x4 (by simp);have o5:=ro x5 (by simp);have o6:=ro x6 (by simp);have o7:=ro x7 (by simp);have o8:=ro x8 (by simp);have o9:=ro x9 (by simp);clear ro;go_enter Tryz.func39,Tryz.ntmps39;go_upto_region 1 with fail;rw [<-hW0,<-hg0];clear hW0 hg0 o0 o1 o2 o3 o4 o5 o6 o7 o8 o9;have u0:=HC0.out.c 0 rfl;have u1:=HC0.out.c 1 rfl;have u2:=HC0.out.c 2 rfl;have u3:=HC0.out.c 3 rfl;have u4:=HC0.out.c 4 rfl;have u5:=HC0.out.c 5 rfl;have u6:=HC0.out.c 6 rfl;have u7:=HC0.out.c 7 rfl;have u8:=HC0.out.c 8 rfl;have u9:=HC0.out.c 9 rfl;go_wp2_with fail;refine HQ.out.mono ?_;rintro e w1 ⟨rfl,hb1⟩;have HB1:=h_ (HB0.out.trans (hb1.mono HB0.out.size));clear hb1 HQ HC0 HB0 u0 u1 u2 u3 u4 u5 u6 u7 u8 u9;go_wp2_with fail;go_ret;exact ⟨rfl,HB1.out⟩
theorem prR_ok {c:GC} (h:(prR c).2=0):okN 12 c.root=true/\nN c.root<=64:=by
 unfold prR at h
 by_cases hk:okC c=true
 ·unfold okC at hk;simp only [Bool.and_eq_true,decide_eq_true_eq] at hk;exact ⟨hk.1.1.1.2,hk.1.1.2⟩
 ·rw [if_neg hk] at h;exact absurd h (by decide)
theorem gChart_root {w:World} {c:GC} {x0:Value} {xs:List Value} (h:DxsAt w (gChart c) (x0::xs)):DxsAt w (gNode c.root) xs:=by
 unfold gChart at h;obtain ⟨y,ys,e,_,d2⟩:=h.uncons;injection e with _ e;rw [e];exact d2
structure FlR (w w':World) (c:GC) (v:Value):Prop where
 no:(prR c).2≠0->v=.slice none 0 0
 yes:(prR c).2=0->SpO w' w.heap.size v (layN c.root (-1) 0 0)/\nN c.root<=64
 bl:Below w.heap.size w w'
theorem flat_any (w:World) (c:GC) (xs:List Value) (hE:Ee w) (hx:DxsAt w (gChart c) xs) (hr:c.rng) (hl:c.root.len) :
  Calls Tryz.prog 20 #[.agg xs.toArray] w λ e w'=>∃v,e=.returned (.tuple #[v,.int .i64 (prR c).2])/\FlR w w' c v:=by
 have HPR:=h_ (λ (W:World) (hb:Below w.heap.size w W)=>fright_any W c _ (hE.below hb) (hx.below hb) hr hl);obtain ⟨x0,x1,x2,x3,x4,x5,x6,x7,x8,x9,rfl⟩:=cells10 (chart_cells hx)
 obtain ⟨W0,hW0⟩:∃W,W=w.alloc (.cells #[x0,x1,x2,x3,x4,x5,x6,x7,x8,x9] 29):=⟨_,rfl⟩
 obtain ⟨g0,hg0⟩:∃g,g=w.heap.size:=⟨_,rfl⟩
 have hal:Below w.heap.size w W0:=by rw [hW0];exact (b_ _ w).alloc (n_ _) _
 have HB0:=h_ hal
 have HC0:Hid (CB W0 g0 29 [x0,x1,x2,x3,x4,x5,x6,x7,x8,x9]):=by rw [hW0,hg0];exact CB.new w _ [x0,x1,x2,x3,x4,x5,x6,x7,x8,x9]
 have ro:∀u∈[x0,x1,x2,x3,x4,x5,x6,x7,x8,x9],u.oneCell'=true:=hx.ones;have HQ:=h_ (HPR.out W0 hal);have HX:=h_ (gChart_root hx);have HR:=h_ hr.2
 obtain ⟨P,hP⟩:∃P,(prR c).2=P:=⟨_,rfl⟩
 have HP:=h_ hP;rw [hP] at HQ ⊢;clear hP hE hx hr hl hal HPR;have o0:=ro x0 (by simp);have o1:=ro x1 (by simp);have o2:=ro x2 (by simp);have o3:=ro x3 (by simp);have o4:=ro x4 (by simp);have o5:=ro x5 (by simp);have o6:=ro x6 (by simp);have o7:=ro x7 (by simp);have o8:=ro x8 (by simp);have o9:=ro x9 (by simp);clear ro;go_enter Tryz.func20,Tryz.ntmps20;go_upto_region 1 with fail;rw [<-hW0,<-hg0];clear hW0 hg0 o0 o1 o2 o3 o4 o5 o6 o7 o8 o9;have u0:=HC0.out.c 0 rfl;have u1:=HC0.out.c 1 rfl;have u2:=HC0.out.c 2 rfl;have u3:=HC0.out.c 3 rfl;have u4:=HC0.out.c 4 rfl;have u5:=HC0.out.c 5 rfl;have u6:=HC0.out.c 6 rfl;have u7:=HC0.out.c 7 rfl;have u8:=HC0.out.c 8 rfl;have u9:=HC0.out.c 9 rfl;go_wp2_with fail;refine HQ.out.mono ?_;rintro e w1 ⟨rfl,hb1⟩;have HB1:=h_ (HB0.out.trans (hb1.mono HB0.out.size));have HC1:=h_ (HC0.out.below hb1);clear hb1 HQ HC0 HB0 u0 u1 u2 u3 u4 u5 u6 u7 u8 u9
 by_cases hz:P=0
 ·subst hz;obtain ⟨hok,hn⟩:=prR_ok HP.out
  obtain ⟨W2,hW2⟩:∃W,W=w1.alloc (.cells #[.slice none 0 0] 93):=⟨_,rfl⟩
  obtain ⟨g2,hg2⟩:∃g,g=w1.heap.size:=⟨_,rfl⟩
  have hal2:Below w1.heap.size w1 W2:=by rw [hW2];exact (b_ _ w1).alloc (n_ _) _
  have HC2:=h_ (HC1.out.below hal2)
  have HT:Hid (TS w W2 g2 [] (.slice none 0 0)):=by
   refine ⟨by rw [hW2,hg2];exact CB.new w1 _ [.slice none 0 0],World.ownsRow_nil _ _ _ _,(λ e=>by cases e),HB1.out.trans (hal2.mono HB1.out.size),by rw [hg2];exact HB1.out.size⟩
  have HV:=h_ (vis_all w g2 12 c.root hok W2 [] _ (-1) _ HT.out HX.out HR.out (.inl rfl) (by decide) (by show 0+_<=_;omega));have HN:=h_ hn;clear hok hn hal2 HT;rw [List.nil_append,show depA [] (-1)=0 from rfl,show ([]:List Spt).length=0 from rfl] at HV;go_upto_region 5 with fail;rw [<-hW2,<-hg2];clear hW2 hg2;have u1:=HC2.out.c 1 rfl;have u2:=HC2.out.c 2 rfl;have u3:=HC2.out.c 3 rfl;have u4:=HC2.out.c 4 rfl;have u5:=HC2.out.c 5 rfl;have u6:=HC2.out.c 6 rfl;have u7:=HC2.out.c 7 rfl;have u8:=HC2.out.c 8 rfl;have u9:=HC2.out.c 9 rfl;go_wp2_with fail;refine HV.out.mono ?_;rintro e w3 ⟨rfl,v3,hT3⟩;have HT3:=h_ hT3;have y0:=hT3.c.c 0 rfl;clear hT3 HV HC2 u1 u2 u3 u4 u5 u6 u7 u8 u9;go_wp2_with fail;go_ret2;exact ⟨v3,rfl,λ h=>absurd HP.out h,λ _=>⟨HT3.out.r,HN.out⟩,HT3.out.bl⟩
 ·have h2:(P != 0)=true:=by simpa [bne] using hz
  have HZ:=h_ hz;clear hz;go_wp2_with fail;go_ret2;exact ⟨_,rfl,λ _=>rfl,λ h=>absurd (HP.out.symm.trans h) HZ.out,HB1.out⟩
mutual
theorem pre_rng:∀x:GN,x.rng->∀y∈pre x,y.rng
 |.mk k nm ini dft en le mo ks p,h,y,hy=>by
  rw [pre] at hy;rcases List.mem_cons.1 hy with rfl|hy
  ·exact h
  ·rw [GN.rng] at h;exact pres_rng ks h.2.2.2.2.2.2 y hy
theorem pres_rng:∀l:List GN,GN.rngs l->∀y∈pres l,y.rng
 |[],_,y,hy=>by rw [pres] at hy;cases hy
 |x::l,h,y,hy=>by
  rw [GN.rngs] at h;rw [pres] at hy;rcases List.mem_append.1 hy with hy|hy
  ·exact pre_rng x h.1 y hy
  ·exact pres_rng l h.2 y hy
end
theorem pre_ne (x:GN):pre x≠[]:=by
 cases x;rw [pre];exact List.cons_ne_nil _ _
theorem prR_vars {c:GC} (h:(prR c).2=0):c.vars.length<=1000000:=by
 unfold prR at h
 by_cases hk:okC c=true
 ·unfold okC at hk;simp only [Bool.and_eq_true,decide_eq_true_eq] at hk;omega
 ·rw [if_neg hk] at h;exact absurd h (by decide)
theorem GS.row {w0 wA w:World} {b:Nat} {rest:List Value} {L:List GN} {v:Value} (h:GS w0 wA w b rest L v) (hn:L≠[]):∃g c,v=.slice (some ⟨g,0,none⟩) L.length c/\wA.heap.size<=g/\NdR w0 w g L:=by
 obtain ⟨cs,⟨hl,h1⟩,hd⟩:=h.r;rcases h1 with ⟨_,h2⟩|⟨g,cap,cur,rfl,hb,hg,_,_,_,ht⟩
 ·exact absurd (List.eq_nil_of_length_eq_zero h2) hn
 ·refine ⟨g,cap,rfl,hb,(Array.getElem?_eq_some_iff.1 hg).1,λ i x hx=>?_⟩;obtain ⟨ys,q1,q2,q3⟩:=DxsAt.elem gNode_len hd hx;refine ⟨ys,q1,λ j u hu=>?_⟩;have h5:=q3 j u hu;rw [<-ht,List.getElem?_take] at h5
  split at h5
  ·rw [cell_of_row w g _ _ _ _ hg,<-Array.getElem?_toList];exact h5
  ·cases h5
theorem chk_new (w:World) (v:Value):∃(W:World) (bV bP b:Nat),W=((w.alloc (.map #[] 0)).alloc (.map #[] 0)).alloc (.cells #[.slice none 0 0,v,.map (some bV),.map (some bP),.int .i64 0,.int .i64 0] 69)/\bV=w.heap.size/\bP=w.heap.size+1/\b=w.heap.size+1+1 /\
  IdxAt W bV 0 (λ _=>none)/\IdxAt W bP 0 (λ _=>none)/\CB W b 69 [.slice none 0 0,v,.map (some bV),.map (some bP),.int .i64 0,.int .i64 0]/\Below w.heap.size w W/\b<W.heap.size:=by
 have h1:(w.alloc (.map #[] 0)).heap.size=w.heap.size+1:=by simp
 have h2:((w.alloc (.map #[] 0)).alloc (.map #[] 0)).heap.size=w.heap.size+1+1:=by simp
 have hb:=((b_ w.heap.size w).alloc (n_ _) (.map #[] 0)).alloc (by omega) (.map #[] 0);refine ⟨_,_,_,_,rfl,rfl,rfl,rfl,?_,?_,?_,hb.alloc (by omega) _,by simp⟩
 ·refine ((IdxAt.new w).same (w':=(w.alloc (.map #[] 0)).alloc (.map #[] 0)) (Below.heap_alloc _ _ _ (by omega))).same (Below.heap_alloc _ _ _ (by omega))
 ·have h3:=IdxAt.new (w.alloc (.map #[] 0));rw [h1] at h3;exact h3.same (Below.heap_alloc _ _ _ (by omega))
 ·have h3:=heap_alloc_new ((w.alloc (.map #[] 0)).alloc (.map #[] 0)) (.cells #[.slice none 0 0,v,.map (some w.heap.size),.map (some (w.heap.size+1)),.int .i64 0,.int .i64 0] 69);rw [h2] at h3;exact h3
theorem lcheck_any (w:World) (c:GC) (xs:List Value) (hE:Ee w) (hx:DxsAt w (gChart c) xs) (hr:c.rng) (hl:c.root.len) :
  Calls Tryz.prog 11 #[.agg xs.toArray] w λ e w'=>e=.returned (.agg #[.int .i64 (ckR c).1,.int .i64 (ckR c).2])/\Below w.heap.size w w':=by
 have HFL:=h_ (λ (W:World) (hb:Below w.heap.size w W)=>flat_any W c _ (hE.below hb) (hx.below hb) hr hl)
 have HC:Hid (ckR c=if (prR c).2=0 then adv (0,0) (dbL (spF c) 0 (pre c.root)++(dbV [] c.vars++owL (c.vars.map (·.name)) (spF c) 0 (pre c.root))) else ((prR c).2,-1)):=by
  show _=_;unfold ckR;rw [faults_ow];rfl
 obtain ⟨x0,x1,x2,x3,x4,x5,x6,x7,x8,x9,rfl⟩:=cells10 (chart_cells hx);have HX:=h_ (gChart_root hx)
 obtain ⟨A,cp,rfl,HVS⟩:∃A cp,x0=.slice A c.vars.length cp/\Hid (DxAt w (dvVars c.vars) x0):=by
  unfold gChart at hx;obtain ⟨y,ys,e,d1,_⟩:=hx.uncons;injection e with e _;subst e;obtain ⟨A,cp,rfl,_⟩:=DxAt.slice (show DxAt w (.row 73 3 c.vars.length (c.vars.flatMap dvVar)) x0 from d1);exact ⟨A,cp,rfl,d1⟩
 obtain ⟨W0,g0,gf,hW,hg0,hgf,HC0,HF0,HB0⟩:=pair_chart w (.slice A c.vars.length cp) x1 x2 x3 x4 x5 x6 x7 x8 x9 0 0;have ro:∀u∈[.slice A c.vars.length cp,x1,x2,x3,x4,x5,x6,x7,x8,x9],u.oneCell'=true:=hx.ones;have HQ:=h_ (HFL.out W0 HB0.out);have HRR:=h_ hr
 have HG:Hid (w.heap.size<=g0/\w.heap.size<=gf/\g0≠gf):=by show _/\_;omega
 obtain ⟨P,hP⟩:∃P,(prR c).2=P:=⟨_,rfl⟩
 have HP:=h_ hP;rw [hP] at HQ HC
 obtain ⟨NV,hNV⟩:∃n,c.vars.length=n:=⟨_,rfl⟩
 have HNV:=h_ hNV;rw [hNV] at hW HC0 HVS ro HQ ⊢;clear hP hE hx hr hl HFL hNV;have o1:=ro x1 (by simp);have o2:=ro x2 (by simp);have o3:=ro x3 (by simp);have o4:=ro x4 (by simp);have o5:=ro x5 (by simp);have o6:=ro x6 (by simp);have o7:=ro x7 (by simp);have o8:=ro x8 (by simp);have o9:=ro x9 (by simp);clear ro;have hmm:=@run_makeMap Tryz.prog;go_enter Tryz.func11,Tryz.ntmps11;go_upto_region 1 with fail;rw [<-hW,<-hgf,<-hg0];clear hW hg0 hgf o1 o2 o3 o4 o5 o6 o7 o8 o9;have u0:=HC0.out.c 0 rfl;have u1:=HC0.out.c 1 rfl;have u2:=HC0.out.c 2 rfl;have u3:=HC0.out.c 3 rfl;have u4:=HC0.out.c 4 rfl;have u5:=HC0.out.c 5 rfl;have u6:=HC0.out.c 6 rfl;have u7:=HC0.out.c 7 rfl;have u8:=HC0.out.c 8 rfl;have u9:=HC0.out.c 9 rfl;go_wp2_with fail;refine HQ.out.mono ?_;rintro e w1 ⟨v,rfl,hf⟩;have HB1:=h_ (HB0.out.trans (hf.bl.mono HB0.out.size));have HC1:=h_ (HC0.out.below hf.bl);have HF1:=h_ (HF0.out.below hf.bl)
 by_cases hz:P=0
 ·subst hz;obtain ⟨hsp,hn⟩:=hf.yes HP.out;obtain ⟨hok,_⟩:=prR_ok HP.out;have hvl:=prR_vars HP.out
  obtain ⟨F,hF⟩:∃F,spF c=F:=⟨_,rfl⟩
  have hF':layN c.root (-1) 0 0=F:=hF;rw [hF'] at hsp;rw [hF] at HC
  have hfo:Fo F:=by rw [<-hF'];exact lay_fo c.root
  have hft:FitL (pre c.root) F:=by rw [<-hF'];exact layN_fits c.root
  obtain ⟨gs,cS,cur,rfl,_,_,hgs,hhg,_,hsr⟩:=hsp.row (λ e=>by have:=hfo.pos;rw [e] at this;exact absurd this (by decide));obtain ⟨WA,bV,bP,b,hWA,hbV,hbP,hb,HIV,HIP,hcb,hbA,hlt⟩:=chk_new w1 (.slice (some ⟨gs,0,none⟩) F.length cS);have hbw:Below w.heap.size w WA:=HB1.out.trans (hbA.mono HB1.out.size);have hsz:=HB1.out.size;have hgl:=hsr.lt;have HGA:=h_ (gat_all w WA b [.slice (some ⟨gs,0,none⟩) F.length cS,.map (some bV),.map (some bP),.int .i64 0,.int .i64 0] (by omega) 12 c.root hok WA [] (.slice none 0 0) _ ⟨Mv.refl b WA,hcb,⟨[],World.ownsRow_nil _ _ _ _,DxsAt.nil w⟩,hbw,hlt⟩ HX.out (by show 0+_<=_;omega));have HCA:=h_ (HC1.out.below hbA);have HFA:=h_ (HF1.out.below hbA)
  have HLC:Hid (∀w3 v3,GS w WA w3 b [.slice (some ⟨gs,0,none⟩) F.length cS,.map (some bV),.map (some bP),.int .i64 0,.int .i64 0] ([]++pre c.root) v3->Calls Tryz.prog 26 #[.pointer (some ⟨b,0,none⟩),.slice A NV cp] w3 λ e w'=>e=.returned (.tuple #[])/\(w'.cell? ⟨b,4,none⟩=some (.int .i64 (ckR c).1)/\w'.cell? ⟨b,5,none⟩=some (.int .i64 (ckR c).2))/\Hid (FtB w' gf (.int .i64 0) (.int .i64 0)/\Below w.heap.size w w')):=by
   intro w3 v3 h3;rw [List.nil_append] at h3;obtain ⟨gl,cl,rfl,hglA,hnd⟩:=h3.row (pre_ne c.root);have hlA:=h3.lt;have hg:=HG.out;have hc0l:=HC1.out.lt;have hf0l:=HF1.out.lt;have hidx:∀{k:Nat} {f:List UInt8->Option Nat},IdxAt WA k 0 f->k≠b->IdxAt w3 k 0 f:=λ hk hne=>hk.same (h3.mv.block hk.lt hne);have:=lchart_any w w3 b gl gs cl cS bV bP (pre c.root) F c.vars A NV cp h3.c h3.bl (by omega) (by omega) (by omega) ⟨by omega,by omega,by omega⟩ ⟨by omega,by omega,by omega⟩ ⟨by omega,by omega,by omega⟩ hnd ((hsr.below hbA).same h3.mv.size (h3.mv.block (by have:=hbA.size;omega) (by omega))) (hidx HIV (by omega)) (hidx HIP (by omega)) hft hfo (by rw [pre_len];exact hn) (pre_ok hok) (pre_rng c.root HRR.out.2) HVS.out hvl HRR.out.1;refine this.mono ?_;rintro e w' ⟨rfl,f,rfl,hcb',hbl',hch'⟩;have hcr:=HC.out;rw [if_pos rfl] at hcr;rw [<-hcr] at hcb';refine ⟨rfl,⟨hcb'.c 4 rfl,hcb'.c 5 rfl⟩,?_,hbl'⟩;have hfA:=HF1.out.below hbA;have hf3:FtB w3 gf (.int .i64 0) (.int .i64 0):=hfA.mv h3.mv (by omega);exact (hch'.block gf hf3.lt (λ e=>by rcases e with e|e|e <;> omega)).trans hf3
  have HBW:=h_ hbw
  have HNE:Hid (g0≠b):=by have:=HC1.out.lt;show _≠_;omega
  have z0:=HCA.out.c 0 rfl;have z1:=HCA.out.c 1 rfl;have z2:=HCA.out.c 2 rfl;have z3:=HCA.out.c 3 rfl;have z4:=HCA.out.c 4 rfl;have z5:=HCA.out.c 5 rfl;have z6:=HCA.out.c 6 rfl;have z7:=HCA.out.c 7 rfl;have z8:=HCA.out.c 8 rfl;have z9:=HCA.out.c 9 rfl
  obtain ⟨NF,hNF⟩:∃n,F.length=n:=⟨_,rfl⟩
  rw [hNF] at hWA HGA HLC ⊢;rw [hbV,hbP] at hWA;clear hsp hn hok hvl hF hF' hfo hft hgs hhg hsr HIV HIP hcb hbA hlt hbw hsz hgl hNF hf HQ u0 u1 u2 u3 u4 u5 u6 u7 u8 u9 HC0 HF0 HB0 HX HVS HRR;go_upto_region 5 with fail;rw [<-hWA,<-hb];clear hWA hb hbP hbV hmm;go_wp2_with fail;refine HGA.out.mono ?_;rintro e w3 ⟨rfl,v3,h3⟩;have y0:=(HCA.out.mv h3.mv HNE.out).c 0 rfl;have HC3:=h_ (HLC.out w3 v3 h3);clear h3 HGA HLC HCA HFA z0 z1 z2 z3 z4 z5 z6 z7 z8 z9;go_wp2_with fail;refine HC3.out.mono ?_;rintro e w5 ⟨rfl,⟨y4,y5⟩,HF5⟩;have t0:=HF5.out.1.c0;have t1:=HF5.out.1.c1;have r0:=HF5.out.1.fr 0;have r1:=HF5.out.1.fr 1;clear HC3 y0;go_wp2_with fail;refine bodyPost_ret (FtB.res1 (g:=gf) rfl _ rfl (HF5.out.1.all _ _)) rfl ?_;exact ⟨rfl,(HF5.out.2.setCell HG.out.2.1 _).setCell HG.out.2.1 _⟩
 ·have hne:(P != 0)=true:=by simpa [bne] using hz
  have HR:Hid (ckR c=(P,-1)):=by show _=_;rw [HC.out,if_neg hz]
  have t0:=HF1.out.c0;have t1:=HF1.out.c1;have r0:=HF1.out.fr 0;have r1:=HF1.out.fr 1;clear hz hf HC HQ u0 u1 u2 u3 u4 u5 u6 u7 u8 u9 HX HVS HRR hmm;go_wp2_with fail;refine bodyPost_ret (FtB.res1 (g:=gf) rfl _ rfl (HF1.out.all _ _)) rfl ?_;exact ⟨by rw [HR.out],(HB1.out.setCell HG.out.2.1 _).setCell HG.out.2.1 _⟩
def tny (l:List UInt8):Bool:=decide (l.length<=24)
def plM (m:SyMove):Bool:=tny m.event&&decide (m.wait=0)&&m.guard.isNone&&m.acts.isEmpty&&m.targets.all tny
mutual
def plN:SyNode->Bool
 |.mk _ n i d e l m ks _=>tny n&&tny i&&tny d&&e.isEmpty&&l.isEmpty&&m.all plM&&decide (m.length<=200)&&decide (ks.length<=64)&&plNs ks
def plNs:List SyNode->Bool
 |[]=>true
 |x::l=>plN x&&plNs l
end
theorem tny_le {l:List UInt8} (h:tny l=true):l.length<=140737488351232:=by
 have:=of_decide_eq_true h;omega
theorem plM_rng {m:SyMove} (h:plM m=true):m.g.rng/\m.g.len:=by
 obtain ⟨k,ev,wt,gd,gx,ac,tg,p⟩:=m;unfold plM at h;simp only [Bool.and_eq_true,decide_eq_true_eq,Option.isNone_iff_eq_none,List.isEmpty_iff] at h;obtain ⟨⟨⟨⟨h1,rfl⟩,rfl⟩,rfl⟩,h5⟩:=h;refine ⟨⟨tny_le h1,(by decide:(-9223372036854775808:Int)<=0/\(0:Int)<=9223372036854775807),?_,λ a ha=>(by cases ha),λ t ht=>tny_le (List.all_eq_true.1 h5 t ht)⟩,Nat.zero_le _⟩;show (gxO none).rng;unfold gxO;rw [GX.rng,GX.rngs];decide
mutual
theorem plN_rng:∀x:SyNode,plN x=true->x.g.rng/\x.g.len
 |.mk k n i d e l m ks p,h=>by
  rw [plN] at h;simp only [Bool.and_eq_true,decide_eq_true_eq,List.isEmpty_iff] at h;obtain ⟨⟨⟨⟨⟨⟨⟨⟨h1,h2⟩,h3⟩,rfl⟩,rfl⟩,h6⟩,h7⟩,h8⟩,h9⟩:=h
  have hm:∀a∈m.map SyMove.g,a.rng/\a.len:=λ a ha=>by
   obtain ⟨y,hy,rfl⟩:=List.mem_map.1 ha;exact plM_rng (List.all_eq_true.1 h6 y hy)
  have hk:=plNs_rng ks h9;rw [SyNode.g,GN.rng,GN.len];refine ⟨⟨tny_le h1,tny_le h2,tny_le h3,λ a ha=>(by cases ha),λ a ha=>(by cases ha),λ a ha=>(hm a ha).1,hk.1⟩,Nat.zero_le _,Nat.zero_le _,by rw [List.length_map];omega,?_,λ a ha=>(hm a ha).2,hk.2⟩;rw [gs_map,List.length_map];omega
theorem plNs_rng:∀l:List SyNode,plNs l=true->GN.rngs (SyNode.gs l)/\GN.lens (SyNode.gs l)
 |[],_=>by rw [SyNode.gs,GN.rngs,GN.lens];exact ⟨trivial,trivial⟩
 |x::l,h=>by
  rw [plNs,Bool.and_eq_true] at h;rw [SyNode.gs,GN.rngs,GN.lens];exact ⟨⟨(plN_rng x h.1).1,(plNs_rng l h.2).1⟩,(plN_rng x h.1).2,(plNs_rng l h.2).2⟩
end
theorem pl_rng {c:SyChart} (hv:c.vars=[]) (h:plN c.root=true):c.g.rng:=⟨λ v hv'=>(by rw [show c.g.vars=c.vars from rfl,hv] at hv';cases hv'),(plN_rng _ h).1⟩
def plBan:List (List UInt8):=[wVar,wEnter,wLeave,wAlways,wAfter,[91]]
def plT:List Tk->Bool
 |[]=>true
 |t::l=>!(plBan.contains t.text)&&(!(t.text==wOn) || !(isAt 4 [123] (l.drop 1)))&&plT l
theorem plT_drop:∀(n:Nat) (l:List Tk),plT l=true->plT (l.drop n)=true
 |0,_,h=>h
 |_+1,[],_=>rfl
 |n+1,t::l,h=>plT_drop n l (by unfold plT at h;rw [Bool.and_eq_true] at h;exact h.2)
theorem PS.pl {w:World} {b:Nat} {K:Kx} {V D:Int} {x:Unit} {s:Ss} (h:PS w b K V D (.ok x s)) (hp:plT K.xs=true):plT s.ts=true:=by
 obtain ⟨r,_,_,_,_,h5⟩:=h.out;rw [<-h5.2.1];exact plT_drop _ _ hp
theorem pl_text {t:Tk} {l:List Tk} (h:plT (t::l)=true):¬t.text∈plBan:=λ e=>by
 unfold plT at h;rw [Bool.and_eq_true,Bool.and_eq_true] at h;have h1:=h.1.1;rw [List.contains_iff_mem.2 e] at h1;cases h1
theorem pl_no {l:List Tk} (h:plT l=true) {u:List UInt8} (hu:u∈plBan) (k:Int):isAt k u l=false:=by
 cases l with
 |nil=>rfl
 |cons t l =>
  show isTk k u t=false;unfold isTk;rw [Bool.and_eq_false_iff];exact .inr (decide_eq_false (λ e=>pl_text h (by rw [e];exact hu)))
theorem pl_tell {w:World} {b:Nat} {K:Kx} {V D:Int} {m:Rs Unit} (h:PS w b K V D m) (hp:plT K.xs=true) {u:List UInt8} (hu:u∈plBan) (k:Int):(m.tell λ s=>isAt k u s.ts)=false:=by
 cases m with
 |out=>rfl
 |bad c p=>rfl
 |ok x s=>exact pl_no (h.pl hp) hu k
theorem evw_pl {s:Ss} {l:List Tk} (hd:s.ts=l) (h1:isAt 4 [123] (l.drop 1)=false):((evwR 1 s).void.tell λ s=>isAt 4 [123] s.ts)=false:=by
 obtain ⟨ts,n,m,a⟩:=s;simp only at hd;subst hd;unfold evwR evR waitR;rw [if_pos rfl];unfold nameR
 cases ts with
 |nil=>rfl
 |cons u r =>
  by_cases hk:u.kind=1
  ·simp only [if_pos hk];exact h1
  ·obtain ⟨c,p,e⟩:=wrong_bad' (α:=List UInt8×Int) (u::r);simp only [if_neg hk,e];rfl
theorem pl_open {w:World} {b:Nat} {K:Kx} {V D:Int} {mA mG m2:Rs Unit} {p:Int} {s:Ss} {t:Tk} {l:List Tk} (h:PS w b K V D mA) (hpl:plT K.xs=true) (hs:s.ts=t::l) (ht:t.text=wOn) (hp:plT s.ts=true) (h2:cntM p s.drop=m2) (hA:(m2.go (evwR 1)).void=mA) (hG:(mA.go guardR).void=mG):(mG.tell λ s=>isAt 4 [123] s.ts)=false:=by
 have hn:=pl_tell h hpl (u:=[91]) (by decide) 4
 have hGA:mG=mA:=by
  rw [<-hG]
  cases mA with
  |out=>rfl
  |bad c p=>rfl
  |ok x s' =>
   show (guardR s').void=_;unfold guardR;rw [if_neg (by rw [show isAt 4 [91] s'.ts=false from hn];decide)];rfl
 have h1:isAt 4 [123] (l.drop 1)=false:=by
  rw [hs] at hp;unfold plT at hp;rw [Bool.and_eq_true,Bool.and_eq_true] at hp;have h2:=hp.1.2;rw [ht,beq_self_eq_true,Bool.not_true,Bool.false_or] at h2;simpa using h2
 rw [hGA,<-hA,<-h2];unfold cntM
 split
 ·rfl
 ·exact evw_pl (by unfold Ss.drop;rw [hs];rfl) h1
theorem no_vars {w:World} {b:Nat} {K:Kx} {D:Int} {gc gp gu:Nat} {rest:List Value} {W:World} (hpl:plT K.xs=true) (m:Rs Unit) (h:B3 w b K D gc gp gu rest [] m W) :
  Calls Tryz.prog 112 #[.pointer (some ⟨b,0,none⟩),.func (.func 113) #[] #[.pointer (some ⟨gc,0,none⟩),.pointer (some ⟨gp,0,none⟩)],.slice (some ⟨gu,0,none⟩) [wVar].length [wVar].length] W λ e w'=>e=.returned (.tuple #[])/\∃y,(m.go (It varS [])).is y/\B3 w b K D gc gp gu rest y (m.go (It varS [])).void w':=by
 refine each_it b K D gu [wVar] _ _ (λ _ _=>by kernel_rfl) varS varS_goes (B3 w b K D gc gp gu rest) (λ x m w hi=>by obtain ⟨V,h,_⟩:=hi.ps;exact ⟨V,h⟩) (λ x m w hi=>hi.tx) (λ x m w w' hi hb=>hi.below hb) ?_ ?_ ?_ [] m W h (by decide)
 ·intro x s t l hs hl hbg;rw [var_tells hs hl] at hbg;unfold varS;rw [if_neg (by rw [hbg];decide)]
 ·intro x s y s' t l hs hl hbg e;rw [var_tells hs hl] at hbg;rw [var_step hbg] at e;obtain ⟨_,_,_,e2⟩:=Rs.some e;exact absurd (congrArg Prod.snd (Rs.ok.inj e2).1) (by simp)
 ·intro x s W hi hbg;obtain ⟨V,hp,_⟩:=hi.ps;obtain ⟨t,l,hs,hl,_⟩:=hp.head rfl;rw [var_tells hs hl,pl_no (hp.pl hpl) (by decide) 2] at hbg;cases hbg
theorem smove_pl (w:World) (b:Nat) (K:Kx) (V D:Int) (s:Ss) (h:PS w b K V D (.ok () s)) (hk:moveK s.ts≠0) (hpl:plT K.xs=true) :
  Calls Tryz.prog 223 #[.pointer (some ⟨b,0,none⟩)] w λ e w'=>∃(x:SyMove) (ys:List Value),e=.returned (.agg ys.toArray)/\Rep w' w.heap.size (dvMove true x) ys/\(moveR s).is x/\PS w' b K V D (moveR s).void/\Mv b w w':=by
 obtain ⟨t,l,hs,hlt,_,_,hfit⟩:=h.head rfl;obtain ⟨h5,hkd3⟩:=kd_move hs hlt hk;have HPS:=h_ (h.pl hpl);have HPL:=h_ hpl
 have hkd:moveK s.ts=1/\t.text=wOn:=by
  have hq:=pl_text (by rw [<-hs];exact HPS.out);rcases hkd3 with h|h|h
  ·exact h
  ·exact absurd (by rw [h.2];decide) hq
  ·exact absurd (by rw [h.2];decide) hq
 clear hkd3 hpl
 obtain ⟨k,hkk⟩:∃k,moveK s.ts=k:=⟨_,rfl⟩
 rw [hkk] at hkd
 obtain ⟨g0,hg0⟩:∃g,g=w.heap.size:=⟨_,rfl⟩
 obtain ⟨W0,hW0⟩:∃W0,W0=w.alloc (.cells #[.int .i64 0,.string ⟨#[]⟩,.int .i64 0,.bool false,.int .i64 0,.int .i64 0,.string ⟨#[]⟩,.int .i64 0,.slice none 0 0,.int .i64 0,.slice none 0 0,.slice none 0 0,.int .i64 0] 57):=⟨_,rfl⟩
 have HR:Hid (CB W0 g0 57 zMove):=by rw [hW0,hg0];exact CB.new w _ zMove
 have HB0:Hid (Below w.heap.size w W0):=by rw [hW0];exact (b_ _ w).alloc (n_ _) _
 have hbw:=h.blt
 have hg0w:w.heap.size<=g0:=by omega
 have hg0b:g0≠b:=by omega
 have hsz0:=HB0.out.size
 have HC1:=h_ (stake_any W0 b K V D _ (h.below HB0.out) (λ s' e=>by
  obtain rfl:=(Rs.ok.inj e).2;rw [hs]
  exact h5))
 have HS:=h_ hs;have HK:=h_ hkk;have HKD:=h_ hkd;have HFIT:=h_ hfit;clear h hs hk hkd hkk hlt hfit h5;go_enter Tryz.func223,Tryz.ntmps223;go_upto_region 1 with fail;rw [<-hW0,<-hg0];clear hW0 hg0;go_wp2_with fail;refine HC1.out.mono ?_;rintro e w1 ⟨t',rfl,htok,hp,hm⟩;obtain rfl:=head_tok htok HS.out
 obtain ⟨X,hX⟩:∃X,txV t'.text=.string X:=⟨_,rfl⟩
 have HX:=h_ (show X.data.toList=t'.text by
  unfold txV at hX;injection hX with hX
  rw [<-hX])
 unfold tkV;rw [hX]
 obtain ⟨g3,hg3⟩:∃g,g=w1.heap.size:=⟨_,rfl⟩
 obtain ⟨W1,hW1⟩:∃W1,W1=w1.alloc (.cells #[.int .i64 t'.kind,.string X,.int .i64 t'.num,.int .i64 t'.at_] 131):=⟨_,rfl⟩
 have hb1:Below w1.heap.size w1 W1:=by rw [hW1];exact (b_ _ w1).alloc (n_ _) _
 have HT1:Hid (TkB W1 g3 (.int .i64 t'.kind) (.string X) (.int .i64 t'.num) (.int .i64 t'.at_)):=by rw [hW1,hg3];exact TkB.new _ _ _ _ _
 have HM1:Hid (Mv b w W1):=((Mv.of b HB0.out).trans hm).trans (Mv.of b hb1);have HR1:=h_ ((HR.out.mv hm hg0b).below hb1);have HP1:=h_ (hp.below hb1);have hsz1:=World.grownBy.size hm;have hbw1:=HP1.out.blt
 have hg3b:g3≠b:=by have:=hp.blt;omega
 have hg03:g0<g3:=by have:=HR.out.lt;omega
 have HTV:Hid (tkV t'=.agg #[.int .i64 t'.kind,.string X,.int .i64 t'.num,.int .i64 t'.at_]):=by show _=_;unfold tkV;rw [hX]
 have HCN:=h_ (λ n=>scount_M (W1.drewN n) b K V D _ t' (HP1.out.below (drewN_below W1 n)));rw [HTV.out] at HCN;clear hp hm hb1 hX HC1 HR htok;go_upto_region 2 with fail;rw [<-hW1,<-hg3];clear hW1 hg3;have z0:=HT1.out.c0;have z1:=HT1.out.c1;have z2:=HT1.out.c2;have z3:=HT1.out.c3
 go_cut [] from 9 to 14 (λ wr=>Hid (PS wr b K V D (cntM t'.at_ s.drop))/\Hid (Mv b W1 wr))
 case first =>
  go_region_with (go_at_call 170;refine (HCN.out _).mono ?_;rintro e w2 ⟨rfl,hp2,hm2⟩)
  all_goals
   go_wp2_with fail
   go_meet
   exact ⟨h_ hp2,h_ ((Mv.of b (drewN_below W1 _)).trans hm2)⟩
 case rest =>
 obtain ⟨HP2,HM12⟩:=hcut;have HT2:=h_ (HT1.out.mv HM12.out hg3b);have HR2:=h_ (HR1.out.mv HM12.out hg0b);have HM2:=h_ (HM1.out.trans HM12.out)
 obtain ⟨m2,hm2⟩:∃m2,cntM t'.at_ s.drop=m2:=⟨_,rfl⟩
 rw [hm2] at HP2;have HM2E:=h_ hm2;clear hm2 HM12 HT1 HR1 HM1 HP1 HCN z0 z1 z2 z3 hsz1;have z1:=HT2.out.c1;have z3:=HT2.out.c3
 obtain ⟨g4,hg4⟩:∃g,g=wc.heap.size:=⟨_,rfl⟩
 obtain ⟨W3,hW3⟩:∃W3,W3=wc.alloc (.cells #[.int .i64 0,.string ⟨#[]⟩,.int .i64 0,.bool false,.int .i64 0,.int .i64 0,.string ⟨#[]⟩,.int .i64 0,.slice none 0 0,.int .i64 0,.slice none 0 0,.slice none 0 0,.int .i64 t'.at_] 57):=⟨_,rfl⟩
 have hb3:Below wc.heap.size wc W3:=by rw [hW3];exact (b_ _ wc).alloc (n_ _) _
 have HI:Hid (MI w b g0 g4 K V D m2 ⟨0,[],0,false,none,[],[],t'.at_⟩ ev0 (.slice none 0 0) (.slice none 0 0) W3):=⟨HP2.out.below hb3,by rw [hW3,hg4];exact CB.new wc _ (mvC ⟨0,[],0,false,none,[],[],t'.at_⟩ ev0 (.slice none 0 0) (.slice none 0 0)),HR2.out.below hb3,HM2.out.trans (Mv.of b hb3)⟩
 have hg04:g0<g4:=by have:=HR2.out.lt;omega
 have hbg4:b<g4:=by have:=HP2.out.blt;omega
 have hg4w:w.heap.size<=g4:=by omega
 have hg34:g3<g4:=by have:=HT2.out.lt;omega
 have HT3:=h_ (HT2.out.below hb3);go_upto_region 4 with fail;rw [<-hW3,<-hg4];clear hW3 hg4 hb3 HP2 HM2 HR2 HT2 z1 z3;have z1:=HT3.out.c1;go_upto_block 0 with fail;clear z1 HT3
 go_cut [] from 20 to 39 (λ wr=>∃(ev:List UInt8) (wt:Int),Hid (MI w b g0 g4 K V D (m2.go (evwR k)).void ⟨k,ev,wt,false,none,[],[],t'.at_⟩ ev0 (.slice none 0 0) (.slice none 0 0) wr)/\Hid ((m2.go (evwR k)).is (ev,wt)))
 case first =>
  have e1:X.toList=X.data.toList:=Lib.toList_data X;rw [HX.out] at e1;have hc4:=HI.out.c4;unfold mvC at hc4;have HC4:=h_ hc4;clear hc4;have f0:=HC4.out.fr 0;have f1:=HC4.out.fr 1;have f2:=HC4.out.fr 2;have c0:=HC4.out.c 0 rfl;have c1:=HC4.out.c 1 rfl;have c2:=HC4.out.c 2 rfl;obtain ⟨rfl,ht⟩:=HKD.out
  ·have d1:(X.toList == [111,110])=true:=by rw [e1,ht];rfl
   have HCN:=h_ (sname_any W3 b K V D m2 HI.out.ps);clear e1 ht;go_wp2_with fail;refine HCN.out.mono ?_;rintro e w4 ⟨t2,rfl,his,hp,hm⟩
   obtain ⟨Y,hY⟩:∃Y,txV t2.text=.string Y:=⟨_,rfl⟩
   have HY:=h_ hY;unfold tkV;rw [hY]
   have hfl:∀w,(Instr.field 131 (.agg #[.int .i64 t2.kind,.string Y,.int .i64 t2.num,.int .i64 t2.at_]) 1).run Tryz.prog w=.ok (.string Y) w:=λ w=>by kernel_rfl
   have HC5:=h_ (HI.out.c4.mv hm (by omega));have hc5:=HC5.out;unfold mvC at hc5;have HC6:=h_ hc5;have HMM:=h_ hm;have HPP:=h_ hp;have HII:=h_ his;clear hc5 hY hp hm his HCN HC4 f0 f1 f2 c0 c1 c2;have f0:=HC6.out.fr 0;have f1:=HC6.out.fr 1;have c0:=HC6.out.c 0 rfl;have c1:=HC6.out.c 1 rfl;go_wp2_with fail
   go_meet
   have hev:m2.go (evwR 1)=(m2.go nameR).bind λ x s=>.ok (x.1,0) s:=by
    rw [<-go_bind]
    congr 1
    funext s0
    unfold evwR evR waitR;rw [if_pos rfl,Rs.assoc];rfl
   refine ⟨t2.text,0,⟨?_,?_,?_,?_⟩,?_⟩
   ·rw [hev,bind_void (m2.go nameR) (λ x:List UInt8×Int=>(x.1,(0:Int)))];exact (HPP.out.sets (g:=g4) hbg4 0 [.int .i64 1,.string Y])
   ·have:=CB.many [.int .i64 1,.string Y] 0 HC6.out (by simp);unfold mvC;dsimp only;rw [HY.out];exact this
   ·exact ((HI.out.c0.mv HMM.out hg0b).mv (sets_mv w4 g4 0 [.int .i64 1,.string Y]) (by omega))
   ·exact sets_put (HI.out.mv.trans HMM.out) hg4w 0 [.int .i64 1,.string Y]
   ·show (m2.go (evwR 1)).is (t2.text,0);rw [hev];exact bind_is HII.out (λ x:List UInt8×Int=>(x.1,(0:Int)))
 case rest =>
 obtain ⟨ev,wt,HIA,HIS⟩:=hcut
 obtain ⟨mA,hmA⟩:∃mA,(m2.go (evwR k)).void=mA:=⟨_,rfl⟩
 rw [hmA] at HIA;have HMA:=h_ hmA;have hszA:w.heap.size<=wc.heap.size:=World.grownBy.size HIA.out.mv;have HCN:=h_ (sskip_any wc b K V D mA HIA.out.ps ⟨#[91]⟩ 4 (tells_sg (by decide)) (by decide));clear hmA HI;go_upto_region 11 with fail;go_wp2_with fail;refine HCN.out.mono ?_;rintro e w5 ⟨rfl,hp,hm⟩
 obtain ⟨d,hd⟩:∃d,(mA.tell λ s=>isAt 4 [91] s.ts)=d:=⟨_,rfl⟩
 replace hd:(mA.tell λ s=>isAt 4 (⟨#[91]⟩:ByteArray).data.toList s.ts)=d:=hd;rw [hd];have HD:=h_ (show (mA.tell λ s=>isAt 4 [91] s.ts)=d from hd);replace hp:PS w5 b K V D (mA.go (skipR 4 [91])):=hp;have hm5:=sets_mv w5 g4 3 [.bool d]
 have HI5:Hid (MI w b g0 g4 K V D (mA.go (skipR 4 [91])) ⟨k,ev,wt,d,none,[],[],t'.at_⟩ ev0 (.slice none 0 0) (.slice none 0 0) (sets w5 g4 3 [.bool d])):=⟨hp.sets hbg4 _ _,CB.many [.bool d] 3 (HIA.out.c4.mv hm (by omega)) (by simp [mvC]),(HIA.out.c0.mv hm hg0b).mv hm5 (by omega),sets_put (HIA.out.mv.trans hm) hg4w _ _⟩
 have HC4:=h_ (HIA.out.c4.mv hm (by omega));have c3:=HC4.out.c 3 rfl;have f3:=HC4.out.fr 3;simp only [sets] at HI5;clear hd hp hm hm5 HCN HC4
 obtain ⟨W5,hW5⟩:∃W5,W5=w5.setCell ⟨g4,3,none⟩ (.bool d):=⟨_,rfl⟩
 rw [<-hW5] at HI5;have HW5:=h_ hW5;clear hW5;go_upto_region 12 with fail;rw [<-HW5.out];clear HW5 c3 f3;have c3:=HI5.out.c4.c 3 rfl;have hszW5:w.heap.size<=W5.heap.size:=World.grownBy.size HI5.out.mv;have hg4W5:=HI5.out.c4.lt;simp only at c3;go_upto_if 46 with fail
 go_cut [] from 47 to 53 (λ wr=>∃(y:Option Ex) (v:EV) (B:Nat),Hid (MI w b g0 g4 K V D (mA.go guardR).void ⟨k,ev,wt,d,y,[],[],t'.at_⟩ v (.slice none 0 0) (.slice none 0 0) wr)/\Hid ((mA.go guardR).is y)/\Hid (∀z s',mA.go guardR=.ok z s'->d=z.isSome)/\Hid (Rep wr B (dvEx true y) v.cells)/\g4<B/\B<=wr.heap.size)
 case first =>
  cases d with
  |false =>
   have HG:Hid (mA.go guardR=mA.go λ s=>.ok none s):=by
    show _=_
    cases mA with
    |out=>rfl
    |bad c p=>rfl
    |ok x s' =>
     have hd:isAt 4 [91] s'.ts=false:=HD.out;show guardR s'=_;unfold guardR;rw [if_neg (by rw [hd];decide)];rfl
   have HSK:Hid (mA.go (skipR 4 [91])=mA):=by
    show _=_
    cases mA with
    |out=>rfl
    |bad c p=>rfl
    |ok x s' =>
     have hd:isAt 4 [91] s'.ts=false:=HD.out;show skipR 4 [91] s'=_;unfold skipR;rw [if_neg (by rw [hd];decide)]
   clear c3;go_wp2_with fail
   go_meet
   refine ⟨none,ev0,W5.heap.size,?_,?_,?_,Rep.ex (GW.none _ W5.heap.size W5.heap.size) (n_ _) (n_ _) (n_ _),hg4W5,n_ _⟩
   ·rw [HG.out,go_ok_void];have:=HI5.out;rw [HSK.out] at this;exact this
   ·show (mA.go guardR).is none;rw [HG.out];exact go_ok_is _ _
   ·show ∀z s',mA.go guardR=.ok z s'->false=z.isSome;intro z s' e;have:=(show (mA.go guardR).is none by rw [HG.out];exact go_ok_is _ _) z s' e;rw [this];rfl
  |true=>exact absurd HD.out (by rw [pl_tell HIA.out.ps HPL.out (by decide) 4];decide)
 case rest =>
 obtain ⟨y,v,B,HIG,HGI,HGS,HRG,hg4B,hBw⟩:=hcut
 obtain ⟨mG,hmG⟩:∃mG,(mA.go guardR).void=mG:=⟨_,rfl⟩
 rw [hmG] at HIG;have HMG:=h_ hmG;have hszG:w.heap.size<=wc.heap.size:=World.grownBy.size HIG.out.mv;have HBG:=h_ (λ (W:World) (hW:W=wc.alloc (.cells #[.string ⟨#[123]⟩] 9))=>show Calls Tryz.prog 167 #[.pointer (some ⟨b,0,none⟩),.slice (some ⟨wc.heap.size,0,none⟩) 1 1] W _ from sbegins_any W b K V D mG wc.heap.size [[123]] (by rw [hW];exact HIG.out.ps.below ((b_ _ wc).alloc (n_ _) _)) (by rw [hW];exact CB.new wc _ [.string ⟨#[123]⟩]) (by simp));have HTL:Hid (mG.tell (bgn [[123]])=mG.tell λ s=>isAt 4 [123] s.ts):=HIG.out.ps.tell_one (tells_sg (by decide));rw [HTL.out] at HBG
 obtain ⟨d2,hd2⟩:∃d,(mG.tell λ s=>isAt 4 [123] s.ts)=d:=⟨_,rfl⟩
 rw [hd2] at HBG;have HD2:=h_ hd2;clear hmG hd2 HTL HI5;go_upto_region 15 with fail;go_wp2_with fail;refine (HBG.out _ rfl).mono ?_;rintro e w5 ⟨rfl,hb⟩;have hb5:Below wc.heap.size wc w5:=((b_ _ wc).alloc (n_ _) _).trans (hb.mono (by simp));have HI5:=h_ (HIG.out.below hb5);have HR5:=h_ (HRG.out.below hb5);have hsz5:=hb5.size;have hg4w5:=HI5.out.c4.lt;clear hb hb5 HBG HIG HRG;go_upto_if 58 with fail
 go_cut [] from 59 to 61 (λ wr=>∃(la:List SyAct) (va:Value),Hid (MI w b g0 g4 K V D (mG.go actsR).void ⟨k,ev,wt,d,y,la,[],t'.at_⟩ v va (.slice none 0 0) wr)/\Hid ((mG.go actsR).is la)/\Hid (Rep wr B (dvEx true y++[dvActs true la]) (v.cells++[va]))/\B<=wr.heap.size)
 case first =>
  cases d2 with
  |false =>
   have HG:Hid (mG.go actsR=mG.go λ s=>.ok [] s):=by
    show _=_
    cases mG with
    |out=>rfl
    |bad c p=>rfl
    |ok x s' =>
     have hd:isAt 4 [123] s'.ts=false:=HD2.out;show actsR s'=_;unfold actsR;rw [if_neg (by rw [hd];decide)];rfl
   go_wp2_with fail
   go_meet
   refine ⟨[],.slice none 0 0,?_,?_,Rep.app HR5.out (Ch.refl (λ _=>False) w5) (λ _ _ _ h=>h) (Rep.none w5 _ _ _) (by omega),by omega⟩
   ·rw [HG.out,go_ok_void];exact HI5.out
   ·show (mG.go actsR).is [];rw [HG.out];exact go_ok_is _ _
  |true=>exact absurd HD2.out (by rw [pl_open HIA.out.ps HPL.out HS.out HKD.out.2 HPS.out HM2E.out (by rw [<-HKD.out.1];exact HMA.out) HMG.out];decide)
 case rest =>
 clear HI5 HR5 hg4w5 hsz5;obtain ⟨la,va,HIL,HLI,HRL,hBw2⟩:=hcut
 obtain ⟨mL,hmL⟩:∃mL,(mG.go actsR).void=mL:=⟨_,rfl⟩
 rw [hmL] at HIL;have HML:=h_ hmL;have hszL:w.heap.size<=wc.heap.size:=World.grownBy.size HIL.out.mv;have HBL:=h_ (λ (W:World) (hW:W=wc.alloc (.cells #[.string ⟨#[45,62]⟩] 9))=>show Calls Tryz.prog 167 #[.pointer (some ⟨b,0,none⟩),.slice (some ⟨wc.heap.size,0,none⟩) 1 1] W _ from sbegins_any W b K V D mL wc.heap.size [[45,62]] (by rw [hW];exact HIL.out.ps.below ((b_ _ wc).alloc (n_ _) _)) (by rw [hW];exact CB.new wc _ [.string ⟨#[45,62]⟩]) (by simp));have HTL:Hid (mL.tell (bgn [[45,62]])=mL.tell λ s=>isAt 4 [45,62] s.ts):=HIL.out.ps.tell_one (tells_sg (by decide));rw [HTL.out] at HBL
 obtain ⟨d3,hd3⟩:∃d,(mL.tell λ s=>isAt 4 [45,62] s.ts)=d:=⟨_,rfl⟩
 rw [hd3] at HBL;have HD3:=h_ hd3;clear hmL hd3 HTL;go_upto_region 17 with fail;go_wp2_with fail;refine (HBL.out _ rfl).mono ?_;rintro e w5 ⟨rfl,hb⟩;have hb5:Below wc.heap.size wc w5:=((b_ _ wc).alloc (n_ _) _).trans (hb.mono (by simp));have HI5:=h_ (HIL.out.below hb5);have HR5:=h_ (HRL.out.below hb5);have hsz5:=hb5.size;clear hb hb5 HBL HIL HRL;go_upto_if 66 with fail
 go_cut [] from 67 to 69 (λ wr=>∃(lt:List (List UInt8)) (vt:Value),Hid (MI w b g0 g4 K V D (mL.go tgtR).void ⟨k,ev,wt,d,y,la,lt,t'.at_⟩ v va vt wr)/\Hid ((mL.go tgtR).is lt)/\Hid (Rep wr B ((dvEx true y++[dvActs true la])++[dvStrs lt]) ((v.cells++[va])++[vt]))/\B<=wr.heap.size)
 case first =>
  cases d3 with
  |false =>
   have HG:Hid (mL.go tgtR=mL.go λ s=>.ok [] s):=by
    show _=_
    cases mL with
    |out=>rfl
    |bad c p=>rfl
    |ok x s' =>
     have hd:isAt 4 [45,62] s'.ts=false:=HD3.out;show tgtR s'=_;unfold tgtR;rw [if_neg (by rw [hd];decide)];rfl
   go_wp2_with fail
   go_meet
   refine ⟨[],.slice none 0 0,?_,?_,Rep.app HR5.out (Ch.refl (λ _=>False) w5) (λ _ _ _ h=>h) (Rep.none w5 _ _ _) (by omega),by omega⟩
   ·rw [HG.out,go_ok_void];exact HI5.out
   ·show (mL.go tgtR).is [];rw [HG.out];exact go_ok_is _ _
  |true =>
   obtain ⟨sA,hsA,hat⟩:=Rs.tell_true HD3.out
   have HG:Hid (mL.go tgtR=It tgtS [] sA.drop):=by
    show _=_;rw [hsA];show tgtR sA=_;unfold tgtR;rw [if_pos hat]
   have hps:=HI5.out.ps;rw [hsA] at hps;have HCN:=h_ (stargets_any w5 b K V D _ hps (isAt_kind hat (by decide)));clear hsA hat hps;go_wp2_with fail;refine HCN.out.mono ?_;rintro e w6 ⟨lt,vt,rfl,his,hrp,hp,hm⟩;obtain ⟨Av,nv,cv,rfl⟩:=hrp.slice;have hs6:=World.grownBy.size hm;have HC6:=h_ (HI5.out.c4.mv hm (by omega));have HMM:=h_ hm;have HPP:=h_ hp;have HII:=h_ his;have HRR:=h_ (HR5.out.app (Ch.of_mv hm) (λ g hg _ e=>by have e':g=b:=e;omega) hrp (by omega));have c11:=HC6.out.c 11 rfl;have f11:=HC6.out.fr 11;clear his hrp hp hm HCN;go_wp2_with fail
   go_meet
   have hm7:=sets_mv w6 g4 11 [.slice Av nv cv];refine ⟨lt,.slice Av nv cv,⟨?_,?_,?_,?_⟩,?_,HRR.out.mv hm7 (by omega),by simpa using (show B<=w6.heap.size by omega)⟩
   ·rw [HG.out];exact HPP.out.sets (g:=g4) hbg4 11 [.slice Av nv cv]
   ·exact CB.many [.slice Av nv cv] 11 HC6.out (by simp [mvC])
   ·exact (HI5.out.c0.mv HMM.out hg0b).mv hm7 (by omega)
   ·exact sets_put (HI5.out.mv.trans HMM.out) hg4w 11 [.slice Av nv cv]
   ·show (mL.go tgtR).is lt;rw [HG.out];exact HII.out
 case rest =>
 clear HI5 HR5 hsz5;obtain ⟨lt,vt,HIT,HTI,HRT,hBw3⟩:=hcut
 obtain ⟨mT,hmT⟩:∃mT,(mL.go tgtR).void=mT:=⟨_,rfl⟩
 rw [hmT] at HIT;have HMT:=h_ hmT;have HCN:=h_ (sneed_any wc b K V D mT HIT.out.ps ⟨#[59]⟩ 4 (tells_sg (by decide)) (by decide));clear hmT;go_wp2_with fail;refine HCN.out.mono ?_;rintro e w7 ⟨rfl,hp,hm⟩
 have HI7:Hid (MI w b g0 g4 K V D (mT.go (mustR 4 [59])) ⟨k,ev,wt,d,y,la,lt,t'.at_⟩ v va vt w7):=⟨hp,HIT.out.c4.mv hm (by omega),HIT.out.c0.mv hm hg0b,HIT.out.mv.trans hm⟩
 have HR7:=h_ (HRT.out.mv hm (by omega));have hs7:=World.grownBy.size hm
 obtain ⟨Y,hY⟩:∃Y,txV ev=.string Y:=⟨_,rfl⟩
 have HY:=h_ hY;obtain ⟨Aa,na,ca,rfl⟩:∃A n c,va=.slice A n c:=HR7.out.slice2 rfl;obtain ⟨At,nt,ct,rfl⟩:∃A n c,vt=.slice A n c:=HR7.out.slice3 rfl;have hc7:=HI7.out.c4;unfold mvC at hc7;simp only at hc7;rw [hY] at hc7;have HC7:=h_ hc7;have hz7:=HI7.out.c0;unfold zMove at hz7;have HZ7:=h_ hz7
 have HEQ:Hid (moveR s=(mT.go (mustR 4 [59])).go λ s3=>.ok ⟨k,ev,wt,y.isSome,y,la,lt,t'.at_⟩ s3):=by
  show _=_;rw [move_eq HS.out HFIT.out,HK.out,HM2E.out]
  have e1:(m2.go λ s0=>(evR k s0).bind λ e s1=>(waitR k s1).bind λ w s2=>(guardR s2).bind λ g s3=>(actsR s3).bind λ l s4=>(tgtR s4).bind λ q s5=>(mustR 4 [59] s5).bind λ _ s6=>(.ok (⟨k,e,w,g.isSome,g,l,q,t'.at_⟩:SyMove) s6:Rs SyMove))=m2.go λ s0=>(evwR k s0).bind λ ew s2=>(guardR s2).bind λ g s3=>(actsR s3).bind λ l s4=>(tgtR s4).bind λ q s5=>(mustR 4 [59] s5).bind λ _ s6=>(.ok (⟨k,ew.1,ew.2,g.isSome,g,l,q,t'.at_⟩:SyMove) s6:Rs SyMove):=by
   congr 1
   funext s0
   exact evw_bind k s0 (λ e w s2=>(guardR s2).bind λ g s3=>(actsR s3).bind λ l s4=>(tgtR s4).bind λ q s5=>(mustR 4 [59] s5).bind λ _ s6=>(.ok (⟨k,e,w,g.isSome,g,l,q,t'.at_⟩:SyMove) s6:Rs SyMove))
  rw [e1,go_bind,Rs.seq HIS.out,HMA.out,go_bind,Rs.seq HGI.out,HMG.out,go_bind,Rs.seq HLI.out,HML.out,go_bind,Rs.seq HTI.out,HMT.out];exact (must_fin _ _).symm
 have HGD:Hid (∀z s',moveR s=.ok z s'->d=y.isSome):=λ z s' e=>by
  rw [HEQ.out] at e
  cases hA:mA.go guardR with
  |out =>
   have h1:=HMG.out;rw [hA] at h1;have h2:=HIT.out.ps.notOut;rw [<-HMT.out,<-HML.out,<-h1] at h2;exact absurd rfl h2
  |bad c p =>
   have h1:=HMG.out;rw [hA] at h1;have h2:=HML.out;have h3:=HMT.out;rw [<-h1] at h2;have h2':mL=.bad c p:=h2.symm;rw [h2'] at h3;have h3':mT=.bad c p:=h3.symm;rw [h3'] at e;cases e
  |ok z2 s2 =>
   have h1:=HGS.out z2 s2 hA;have h2:=HGI.out z2 s2 hA;rw [<-h2];exact h1
 clear hp hm hY hc7 hz7 HCN;have c0:=HC7.out.c 0 rfl;have f0:=HZ7.out.fr 0;have q0:=HZ7.out.c 0 rfl;have c1:=HC7.out.c 1 rfl;have f1:=HZ7.out.fr 1;have q1:=HZ7.out.c 1 rfl;have c2:=HC7.out.c 2 rfl;have f2:=HZ7.out.fr 2;have q2:=HZ7.out.c 2 rfl;have c3:=HC7.out.c 3 rfl;have f3:=HZ7.out.fr 3;have q3:=HZ7.out.c 3 rfl;have c4:=HC7.out.c 4 rfl;have f4:=HZ7.out.fr 4;have q4:=HZ7.out.c 4 rfl;have c5:=HC7.out.c 5 rfl;have f5:=HZ7.out.fr 5;have q5:=HZ7.out.c 5 rfl;have c6:=HC7.out.c 6 rfl;have f6:=HZ7.out.fr 6;have q6:=HZ7.out.c 6 rfl;have c7:=HC7.out.c 7 rfl;have f7:=HZ7.out.fr 7;have q7:=HZ7.out.c 7 rfl;have c8:=HC7.out.c 8 rfl;have f8:=HZ7.out.fr 8;have q8:=HZ7.out.c 8 rfl;have c9:=HC7.out.c 9 rfl;have f9:=HZ7.out.fr 9;have q9:=HZ7.out.c 9 rfl;have c10:=HC7.out.c 10 rfl;have f10:=HZ7.out.fr 10;have q10:=HZ7.out.c 10 rfl;have c11:=HC7.out.c 11 rfl;have f11:=HZ7.out.fr 11;have q11:=HZ7.out.c 11 rfl;have c12:=HC7.out.c 12 rfl;have f12:=HZ7.out.fr 12;have q12:=HZ7.out.c 12 rfl;go_wp2_with fail;have hres:=HZ7.out.all [.int .i64 k,.string Y,.int .i64 wt,.bool d,.int .i64 v.kind,.int .i64 v.num,.string v.name,.int .i64 v.op,.slice v.A v.len v.cap,.int .i64 v.p,.slice Aa na ca,.slice At nt ct,.int .i64 t'.at_] rfl;have hmf:=sets_put HI7.out.mv hg0w 0 [.int .i64 k,.string Y,.int .i64 wt,.bool d,.int .i64 v.kind,.int .i64 v.num,.string v.name,.int .i64 v.op,.slice v.A v.len v.cap,.int .i64 v.p,.slice Aa na ca,.slice At nt ct,.int .i64 t'.at_];have hpf:=HI7.out.ps.sets (g:=g0) (by omega) 0 [.int .i64 k,.string Y,.int .i64 wt,.bool d,.int .i64 v.kind,.int .i64 v.num,.string v.name,.int .i64 v.op,.slice v.A v.len v.cap,.int .i64 v.p,.slice Aa na ca,.slice At nt ct,.int .i64 t'.at_];have hrp:=HR7.out.mv (sets_mv w7 g0 0 [.int .i64 k,.string Y,.int .i64 wt,.bool d,.int .i64 v.kind,.int .i64 v.num,.string v.name,.int .i64 v.op,.slice v.A v.len v.cap,.int .i64 v.p,.slice Aa na ca,.slice At nt ct,.int .i64 t'.at_]) (by omega);simp only [sets,Nat.reduceAdd] at hres hmf hpf hrp;refine bodyPost_ret (resMove rfl _ rfl hres) rfl ?_;refine ⟨⟨k,ev,wt,d,y,la,lt,t'.at_⟩,_,rfl,?_,?_,?_,hmf⟩
 ·refine Rep.v rfl (Rep.v' (HY.out) (Rep.v rfl (Rep.v rfl ?_)));have:=Rep.snoc (u:=.int .i64 t'.at_) (hrp.mono (base':=w.heap.size) (by omega)) rfl;simpa [dvMove,EV.cells] using this
 ·intro z s' e;rw [HGD.out z s' e];rw [HEQ.out] at e;exact go_ok_is _ _ z s' e
 ·rw [HEQ.out,go_ok_void];exact hpf
theorem sclause_pl (w:World) (b:Nat) (K:Kx) (V D:Int) (s:Ss) (gn jn gs base:Nat) (T:TypeId) (pre:List Value) (kc nmv dfv pv:Value) (x:SyB) (ki:List SyNode) (h:PS w b K V D (.ok () s)) (hN:NS w gn jn gs base T pre kc nmv dfv pv x ki) (hpre:pre.length=jn)
  (hw:bgn [wInitial,wEnter,wLeave,wOn,wAlways,wAfter] s=true) (hbn:b<gn) (hbs:b<gs) (hns:gn≠gs) (hnB:gn<base) (hsB:gs<base) (hBw:base<=w.heap.size) (hmv:x.moves.length<=1000000) (hpl:plT K.xs=true) :
  Calls Tryz.prog 175 #[.pointer (some ⟨b,0,none⟩),.pointer (some ⟨gn,jn,none⟩),.pointer (some ⟨gs,0,none⟩)] w (ClEnd w b K V D s gn jn gs base T pre kc nmv dfv pv x ki):=by
 obtain ⟨t,l,hs,hlt,_,_,hfit⟩:=h.head rfl;have hwd:=(word_bgn (l:=[wInitial,wEnter,wLeave,wOn,wAlways,wAfter]) (by decide) hs hlt 1 (by decide)).1 hw
 have e1:∀u,isKw u=true->isAt 2 u s.ts=decide (t.text=u):=λ u hu=>by rw [hs];exact tells_kw hu t hlt
 have k1:=e1 wInitial (by decide);have k2:=e1 wEnter (by decide);have k3:=e1 wLeave (by decide);have k4:=e1 wOn (by decide);have k5:=e1 wAlways (by decide);have k6:=e1 wAfter (by decide)
 have h5:kindOf s.ts≠5:=by
  intro h5
  have n:∀u,isAt 2 u s.ts=false:=λ u=>by
   rw [hs] at h5 ⊢;show isTk 2 u t=false;unfold isTk;rw [show t.kind=5 from h5];rfl
  simp only [wordAt,n] at hwd;simp at hwd
 have hcl:(t.text=wInitial/\clauseS x s=initS x s)∨(t.text=wEnter/\clauseS x s=enterS x s)∨(t.text=wLeave/\clauseS x s=leaveS x s)∨(¬t.text=wInitial/\¬t.text=wEnter/\¬t.text=wLeave/\moveK s.ts≠0/\clauseS x s=movS x s):=by
  by_cases h1:t.text=wInitial
  ·exact .inl ⟨h1,by unfold clauseS;rw [if_pos (by rw [k1];exact decide_eq_true h1)]⟩
  ·have n1:¬isAt 2 wInitial s.ts=true:=by rw [k1];simpa using h1
   by_cases h2:t.text=wEnter
   ·exact .inr (.inl ⟨h2,by unfold clauseS;rw [if_neg n1,if_pos (by rw [k2];exact decide_eq_true h2)]⟩)
   ·have n2:¬isAt 2 wEnter s.ts=true:=by rw [k2];simpa using h2
    by_cases h3:t.text=wLeave
    ·exact .inr (.inr (.inl ⟨h3,by unfold clauseS;rw [if_neg n1,if_neg n2,if_pos (by rw [k3];exact decide_eq_true h3)]⟩))
    ·have n3:¬isAt 2 wLeave s.ts=true:=by rw [k3];simpa using h3
     refine .inr (.inr (.inr ⟨h1,h2,h3,?_,by unfold clauseS;rw [if_neg n1,if_neg n2,if_neg n3]⟩));intro hk;apply hwd;unfold moveK at hk;simp only [wordAt,n1,n2,n3,k4,k5,k6,decide_eq_true_eq] at hk ⊢
     by_cases c4:t.text=wOn
     ·rw [if_pos c4] at hk;cases hk
     ·rw [if_neg c4] at hk ⊢
      by_cases c5:t.text=wAlways
      ·rw [if_pos c5] at hk;cases hk
      ·rw [if_neg c5] at hk ⊢
       by_cases c6:t.text=wAfter
       ·rw [if_pos c6] at hk;cases hk
       ·rw [if_neg c6];rfl
 have hq:=pl_text (by rw [<-hs];exact h.pl hpl);have HPL:=h_ hpl
 have HCL:Hid ((t.text=wInitial/\clauseS x s=initS x s)∨(¬t.text=wInitial/\¬t.text=wEnter/\¬t.text=wLeave/\moveK s.ts≠0/\clauseS x s=movS x s)):=by
  rcases hcl with h|h|h|h
  ·exact .inl h
  ·exact absurd (by rw [h.1];decide) hq
  ·exact absurd (by rw [h.1];decide) hq
  ·exact .inr h
 clear hq hpl;have HC0:=h_ (snow_any w b K V D _ h);have HP:=h_ h;have HNN:=h_ hN;have HS:=h_ hs;have HK5:=h_ h5;have HPR:=h_ hpre;have hgsw:=hN.sn.lt;clear h hN hs hlt hfit hw hwd e1 k1 k2 k3 k4 k5 k6 h5 hcl;go_enter Tryz.func175,Tryz.ntmps175;go_wp2_with fail;refine HC0.out.mono ?_;rintro e w1 ⟨t',rfl,htok,hb⟩;obtain rfl:=head_tok htok HS.out
 obtain ⟨X,hX⟩:∃X,txV t'.text=.string X:=⟨_,rfl⟩
 have HXX:=h_ hX
 have e2:X.toList=t'.text:=by
  rw [Lib.toList_data];unfold txV at hX;injection hX with hX;rw [<-hX]
 have HE2:=h_ e2;unfold tkV;rw [hX]
 have hfl:∀w,(Instr.field 131 (.agg #[.int .i64 t'.kind,.string X,.int .i64 t'.num,.int .i64 t'.at_]) 1).run Tryz.prog w=.ok (.string X) w:=λ w=>by kernel_rfl
 have HP1:=h_ (HP.out.below hb);have HN1:=h_ (HNN.out.below hb);have HB1:=h_ hb;have hsz1:=hb.size;clear hb hX htok HC0 HP HNN e2;rcases HCL.out with ⟨ht,hq⟩|⟨ht1,ht2,ht3,hk,hq⟩
 ·
  have d1:(X.toList == [105,110,105,116,105,97,108])=true:=by rw [HE2.out,ht];rfl
  have HQ:=h_ hq;have HC1:=h_ (sonce_any w1 b K V D s HP1.out HK5.out gs 0 _ _ x.hi HN1.out.sn rfl hbs);clear ht hq HCL;go_wp2_with fail;refine HC1.out.mono ?_;rintro e w2 ⟨rfl,hp,hcs,hc2⟩;obtain ⟨v1,v2,v3,v4,F1,F2,F3,F4,hcn,hq4⟩:=HN1.out.ex
  obtain ⟨m1,hm1⟩:∃m1,onceR x.hi s=m1:=⟨_,rfl⟩
  rw [hm1] at hp;have HM1:=h_ hm1;have HCS:=h_ hcs;have HC2:=h_ hc2;have HCN:=h_ (hcn.ch hc2 (by rintro (e|e) <;> omega));have HQ4:=h_ (hq4.ch hc2 (by rintro g hg _ (e|e) <;> omega));have HC3:=h_ (sname_any w2 b K V D m1 hp);have hsz2:=hc2.size;clear hp hcs hc2 hcn hq4 hm1 HC1 hfl;go_wp2_with fail;refine HC3.out.mono ?_;rintro e w3 ⟨t2,rfl,his,hp,hm⟩
  obtain ⟨Y,hY⟩:∃Y,txV t2.text=.string Y:=⟨_,rfl⟩
  have HY:=h_ hY;unfold tkV;rw [hY]
  have hfl:∀w,(Instr.field 131 (.agg #[.int .i64 t2.kind,.string Y,.int .i64 t2.num,.int .i64 t2.at_]) 1).run Tryz.prog w=.ok (.string Y) w:=λ w=>by kernel_rfl
  obtain ⟨m2,hm2⟩:∃m2,(m1.go nameR).void=m2:=⟨_,rfl⟩
  rw [hm2] at hp;have HM2:=h_ hm2;have HIS:=h_ his;have HCN3:=h_ (HCN.out.mv hm (by omega));have HCS3:=h_ (HCS.out.mv hm (by omega));have HQ43:=h_ (HQ4.out.ch (Ch.of_mv hm) (by intro g hg _ e;have e':g=b:=e;omega));have HCH3:=h_ ((HC2.out.mono (S':=λ k=>k=b∨k=gn∨k=gs∨base<=k) (λ k _ h=>h.elim .inl (λ h=>.inr (.inr (.inl h))))).trans ((Ch.of_mv hm).mono (λ k _ h=>.inl h)));have hm5:Mv gn w3 (w3.setCell ⟨gn,jn+2,none⟩ (.string Y)):=(Mv.refl gn w3).set (jn+2) _;have HP4:=h_ (hp.ch (Ch.of_mv hm5) (λ k e=>by have e':k=gn:=e;omega))
  have HCN4:Hid (CB (w3.setCell ⟨gn,jn+2,none⟩ (.string Y)) gn T (pre++ndC kc nmv (.string Y) dfv v1 v2 v3 v4 pv)):=by
   have:=HCN3.out.set (jn+2) (.string Y);rw [pre_set HPR.out] at this;exact this
  have HCS4:=h_ (HCS3.out.mv hm5 (by omega));have HQ44:=h_ (HQ43.out.ch (Ch.of_mv hm5) (by intro g hg _ e;have e':g=gn:=e;omega));have HCH4:=h_ (HCH3.out.trans ((Ch.of_mv hm5).mono (λ k _ h=>.inr (.inl h))));have HC4:=h_ (sneed_any _ b K V D m2 HP4.out ⟨#[59]⟩ 4 (tells_sg (by decide)) (by decide));have c2:=HCN3.out.c (jn+2) (pre_get HPR.out rfl);have f2:=HCN3.out.fr (jn+2);clear hp hm hm2 his hY hm5 HC3;go_wp2_with fail;refine HC4.out.mono ?_;rintro e w5 ⟨rfl,hp,hm⟩;have HP5:=h_ hp;have HM5:=h_ hm;clear hp hm HC4 hfl c2 f2;go_wp2_with fail;go_end0;have hout:=init_out HM1.out HIS.out HM2.out;refine ⟨rfl,⟨t2.text,x.enter,x.leave,x.moves,true,x.he,x.hl⟩,λ z bb s' e=>?_,?_,⟨⟨v1,v2,v3,v4,F1,F2,F3,F4,?_,HQ44.out.ch (Ch.of_mv HM5.out) (by intro g hg _ e;have e':g=b:=e;omega)⟩,HCS4.out.mv HM5.out (by omega)⟩,?_,Nat.le_succ _⟩
  ·rw [HQ.out,hout] at e;exact congrArg Prod.fst (go_ok_is _ _ _ _ e)
  ·rw [HQ.out,hout,go_ok_void];exact HP5.out
  ·have:=HCN4.out.mv HM5.out (by omega);rw [<-HY.out] at this;exact this
  ·exact ((Ch.of_below HB1.out).trans HCH4.out).trans ((Ch.of_mv HM5.out).mono (λ k _ h=>.inl h))
 ·
  have d1:(X.toList == [105,110,105,116,105,97,108])=false:=by rw [HE2.out];exact beq_eq_false_iff_ne.2 ht1
  have d2:(X.toList == [101,110,116,101,114])=false:=by rw [HE2.out];exact beq_eq_false_iff_ne.2 ht2
  have d3:(X.toList == [108,101,97,118,101])=false:=by rw [HE2.out];exact beq_eq_false_iff_ne.2 ht3
  have HQ:=h_ hq;have HKK:=h_ hk;clear ht1 ht2 ht3 hq hk HCL;go_upto_region 1 with fail;clear d1 d2 d3 hfl;obtain ⟨v1,v2,v,v4,F1,F2,F,F4,hcell,hq4⟩:=HN1.out.ex;have hk:=HKK.out;have hpre:=HPR.out;have hs0:=stays_ps b K V D (.ok () s);have hs:=stays_ps b K V D (moveR s).void;have hp0:=HP1.out
  obtain ⟨cs,hcs⟩:∃cs,x.moves.flatMap (dvMove true)=cs:=⟨_,rfl⟩
  obtain ⟨n,hnn⟩:∃n,x.moves.length=n:=⟨_,rfl⟩
  have hE:∀y:SyMove,dvMoves true (x.moves++[y])=.row 57 13 (n+1) (cs++dvMove true y):=λ y=>by unfold dvMoves;rw [List.flatMap_append,hcs,List.length_append,hnn];simp
  have hrow:DvAt w1 (.row 57 13 n cs) v F:=by rw [<-hcs,<-hnn];exact hq4.a3
  have hn:n<=1000000:=by omega
  have hFn:=hq4.n3;have hFB:=hq4.l3
  have hFl:∀g∈F,g<w1.heap.size/\b<g:=λ g hg=>⟨hrow.lt g hg,by have:=hFB g hg;omega⟩
  have hglw:=hcell.lt;have hbg:=hbn
  have hbF:b∉F:=λ hb=>by have:=hFB b hb;omega
  have hglF:gn∉F:=λ hb=>by have:=hFB gn hb;omega
  have hend:∀(W:World) (y:SyMove) (v':Value) (F':List Nat),CB W gn T (pre++(ndC kc nmv (txV x.initial) dfv v1 v2 v v4 pv).set 6 v')->(moveR s).is y->DvAt W (.row 57 13 (n+1) (cs++dvMove true y)) v' F'->F'.Nodup->(∀g∈F',g∈F∨w1.heap.size<=g)->PS W b K V D (moveR s).void->Ch (λ j=>j=b∨j=gn∨j∈F) w1 W->ClEnd w b K V D s gn jn gs base T pre kc nmv dfv pv x ki (.returned (.tuple #[])) W:=λ W y v' F' a1 a2 a3 a4 a5 a6 a7=>by
   have hout:=mov_out (x:=x) hk a2
   have hd:∀k,k<w1.heap.size->(k=b∨k=gn∨k∈F)->base<=k->k∈F:=λ k _ h hb=>by
    rcases h with h|h|h
    ·omega
    ·omega
    ·exact h
   refine ⟨rfl,⟨x.initial,x.enter,x.leave,x.moves++[y],x.hi,x.he,x.hl⟩,λ z bb s' e=>?_,?_,⟨⟨v1,v2,v',v4,F1,F2,F',F4,a1,?_⟩,HN1.out.sn.ch a7 ?_⟩,?_,by simp⟩
   ·rw [HQ.out,hout] at e;exact congrArg Prod.fst (go_ok_is _ _ _ _ e)
   ·rw [HQ.out,hout,go_ok_void];exact a6
   ·exact hq4.up3 a7 (λ g hg hlt h=>hd g hlt h hg) (by rw [hE];exact a3) a4 a5 (by omega)
   ·rintro (e|e|e)
    ·omega
    ·omega
    ·have:=hFB _ e;omega
   ·exact (Ch.of_below HB1.out).trans2 a7 (λ j hj hs=>by
     rcases hs with e|e|e
     ·exact .inl e
     ·exact .inr (.inl e)
     ·exact .inr (.inr (.inr (hFB j e))))
  clear HQ HKK HPR HS HK5 HXX HE2
  refine region_mix _ _ _ (by kernel_rfl) 11 rfl (by kernel_rfl) (by kernel_rfl) (λ i=>match i with|2=>[1]|3=>[2]|4=>[3]|6=>[5]|7=>[6]|8=>[4,7]|9=>[0]|10=>[9]|11=>[10,8]|_=>[]) (by kernel_rfl) (by kernel_rfl)
   (λ i=>match i with|6=>some 0|7=>some 1|8=>some 2|11=>some 3|_=>none) (λ _=>false) 3 rfl (by kernel_rfl)
   (clF b gn jn v) ?_ (λ p vals W=>BIv w1 b gn T (pre++ndC kc nmv (txV x.initial) dfv v1 v2 v v4 pv) (λ W=>PS W b K V D (.ok () s)) (λ W=>PS W b K V D (moveR s).void) 57 13 n cs v F (λ ds=>∃y:SyMove,ds=dvMove true y/\(moveR s).is y) (λ u ys=>u=.agg ys.toArray) 6 7 8 p vals W)
   (λ _ wr=>BFin w1 b gn T (pre++ndC kc nmv (txV x.initial) dfv v1 v2 v v4 pv) (jn+6) (λ W=>PS W b K V D (moveR s).void) 57 13 n cs F (λ ds=>∃y:SyMove,ds=dvMove true y/\(moveR s).is y) wr)
   (λ p vals vals' W hl hI=>hI.loc (hl _ (.inl rfl)) (hl _ (.inl rfl)) (hl _ (.inl rfl))) (BIv.zero hs0 hp0 hrow hcell) ?_ ?_ ?_ ?_ ?_
  ·intro j vals vals' u hext hF;exact hF
  ·intro i o hi hrk hal ho a vals w p hpN hI hbase hdep
   have hi':i=0∨i=1∨i=2∨i=3∨i=4∨i=5∨i=6∨i=7∨i=8∨i=9∨i=10:=by omega
   rcases hi' with rfl|rfl|rfl|rfl|rfl|rfl|rfl|rfl|rfl|rfl|rfl
   ·have hp:a.tmps[1]?.getD undef=Value.pointer (some ⟨gn,jn,none⟩):=ev_get2 (hbase 1 (by kernel_rfl));simp only [t_,z_,j_] at ho;subst ho;unfold Oper.wp;go_simp;exact ⟨_,rfl,rfl,rfl⟩
   ·have hp:a.tmps[1]?.getD undef=Value.pointer (some ⟨gn,jn,none⟩):=ev_get2 (hbase 1 (by kernel_rfl));simp only [t_,s_,z_,j_] at ho;subst ho;unfold Oper.wp;go_simp;exact ⟨_,rfl,rfl,rfl⟩
   ·have h1:a.tmps[12]?.getD undef=Value.pointer (some ⟨gn,jn,none⟩):=ev_get2 (show a.eval (.tmp 12)=Value.pointer (some ⟨gn,jn,none⟩) from (hdep 1 (by simp)).1);simp only [t_,s_,z_,j_] at ho;subst ho;unfold Oper.wp;go_simp;exact ⟨_,rfl,rfl,rfl⟩
   ·have h2:a.tmps[13]?.getD undef=Value.pointer (some ⟨gn,jn,none⟩):=ev_get2 (show a.eval (.tmp 13)=Value.pointer (some ⟨gn,jn,none⟩) from (hdep 2 (by simp)).1);simp only [t_,s_,z_,j_] at ho;subst ho;unfold Oper.wp;go_simp;exact ⟨_,rfl,rfl,rfl⟩
   ·have h3:a.tmps[14]?.getD undef=Value.pointer (some ⟨gn,jn+6,none⟩):=ev_get2 (show a.eval (.tmp 14)=Value.pointer (some ⟨gn,jn+6,none⟩) from (hdep 3 (by simp)).1);have y0:=hI.cell.c (jn+6) (pre_get hpre rfl);simp only [t_,s_,z_,j_] at ho;subst ho;unfold Oper.wp;go_simp;exact ⟨_,rfl,rfl,rfl⟩
   ·have hp:a.tmps[0]?.getD undef=Value.pointer (some ⟨b,0,none⟩):=ev_get2 (hbase 0 (by kernel_rfl));simp only [t_,s_,z_,j_] at ho;subst ho;unfold Oper.wp;go_simp;exact ⟨_,rfl,rfl,rfl⟩
   ·cases hrk
   ·cases hrk
   ·cases hrk
   ·have h0:a.tmps[11]?.getD undef=Value.pointer (some ⟨gn,jn,none⟩):=ev_get2 (show a.eval (.tmp 11)=Value.pointer (some ⟨gn,jn,none⟩) from (hdep 0 (by simp)).1);simp only [t_,s_,z_,j_] at ho;subst ho;unfold Oper.wp;go_simp;exact ⟨_,rfl,rfl,rfl⟩
   ·have h9:a.tmps[20]?.getD undef=Value.pointer (some ⟨gn,jn,none⟩):=ev_get2 (show a.eval (.tmp 20)=Value.pointer (some ⟨gn,jn,none⟩) from (hdep 9 (by simp)).1);simp only [t_,s_,z_,j_] at ho;subst ho;unfold Oper.wp;go_simp;exact ⟨_,rfl,rfl,rfl⟩
  ·intro i o hi hrk hal;cases hal
  ·intro i o r' hi hrk ho a vals w2 hI hbase hdep hv hcl
   have hi':i=0∨i=1∨i=2∨i=3∨i=4∨i=5∨i=6∨i=7∨i=8∨i=9∨i=10:=by omega
   rcases hi' with rfl|rfl|rfl|rfl|rfl|rfl|rfl|rfl|rfl|rfl|rfl
   ·cases hrk
   ·cases hrk
   ·cases hrk
   ·cases hrk
   ·cases hrk
   ·cases hrk
   ·obtain rfl:r'=0:=by injection hrk with hrk;exact hrk.symm
    have h5:a.tmps[16]?.getD undef=Value.pointer (some ⟨b,0,none⟩):=ev_get2 (show a.eval (.tmp 16)=Value.pointer (some ⟨b,0,none⟩) from (hdep 5 (by simp)).1);have HC:=smove_pl w2 b K V D s (hI.p0 rfl) hk HPL.out;simp only [t_,s_,z_,j_] at ho;subst ho;unfold Oper.wp;go_simp;refine HC.mono ?_;rintro e w' ⟨y,ys,rfl,hrp,his,hp,hm⟩
    have hl:ys.length=13:=by obtain ⟨F2,f1,_,_⟩:=hrp;have:=f1.len;rw [this];rfl
    exact ⟨_,rfl,⟨ys,rfl,hl⟩,hI.call (u:=.agg ys.toArray) rfl ⟨y,rfl,his⟩ hrp hl hp hm (by omega) hbF⟩
   ·obtain rfl:r'=1:=by injection hrk with hrk;exact hrk.symm
    obtain ⟨u,ys,c1,rfl,hl,hIb⟩:=hI.build hs (by decide);have h6:=(hdep 6 (by simp)).2;rw [c1] at h6;replace h6:a.tmps[17]?.getD undef=_:=ev_get2 (Option.some.inj h6).symm;obtain ⟨y0,y1,y2,y3,y4,y5,y6,y7,y8,y9,y10,y11,y12,rfl⟩:=cells13 hl;simp only [t_,s_,z_,j_] at ho;subst ho;unfold Oper.wp;go_simp;exact ⟨_,rfl,⟨_,rfl⟩,hIb⟩
   ·obtain rfl:r'=2:=by injection hrk with hrk;exact hrk.symm
    have h4:a.eval (.tmp 15)=v:=(hdep 4 (by simp)).1;obtain ⟨gs,h7⟩:=(hdep 7 (by simp)).1
    have hv3:vals 7=some (.slice (some ⟨gs,0,none⟩) 1 1):=by rw [(hdep 7 (by simp)).2];exact congrArg some h7
    replace h7:a.eval (.tmp 18)=_:=h7;obtain ⟨v',w',hr,hI'⟩:=hI.app Tryz.prog 24 24 _ _ infoMove Tryz.underlying24 rfl (by decide) (by decide) hv3 hn hFn hFl hglF hs;simp only [t_,s_,z_,j_] at ho;subst ho;unfold Oper.wp;simp only [execOp,resolve,invoke,builtin,Sem.run_bind,Sem.run_pure,Result.andThen_ok,List.map_toArray,List.map_cons,List.map_nil,h4,h7,hr];exact ⟨_,rfl,trivial,hI'⟩
   ·cases hrk
   ·cases hrk
  ·intro o ho a vals w2 hI hbase hdep hall hF;have h10:a.tmps[21]?.getD undef=Value.pointer (some ⟨gn,jn+6,none⟩):=ev_get2 (show a.eval (.tmp 21)=Value.pointer (some ⟨gn,jn+6,none⟩) from (hdep 10 (by simp)).1);obtain ⟨v',hva⟩:=x_ (Option.isSome_iff_ne_none.2 (hall 8 (by omega)));have hv4:=(hdep 8 (by simp)).2;rw [hva] at hv4;have h8:a.tmps[19]?.getD undef=v':=ev_get2 (show a.eval (.tmp 19)=v' from (Option.some.inj hv4).symm);have y0:=hI.cell.c (jn+6) (pre_get hpre rfl);have f0:=hI.cell.fr (jn+6);obtain ⟨_,_,_,c1,_,c3,_,_,_⟩:=hI.p3 (n_ _);rw [hva] at c1;obtain rfl:=Option.some.inj c1;obtain ⟨A',c',hsl,_,_⟩:=c3.slice;subst hsl;have hfin:=hI.fin hs hva (jn+6) hbg hglF hglw;simp only [t_,s_,z_,j_] at ho;subst ho;unfold Oper.wp;go_simp;exact ⟨.tuple #[],rfl,λ _ _=>hfin⟩
  ·intro vals W hF hall;obtain ⟨v0,h0⟩:=x_ (hall 0 (by omega));obtain ⟨v1,h1⟩:=x_ (hall 1 (by omega));obtain ⟨v2,h2⟩:=x_ (hall 2 (by omega));obtain ⟨v3,h3⟩:=x_ (hall 3 (by omega));obtain ⟨v4,h4⟩:=x_ (hall 4 (by omega));obtain ⟨v5,h5⟩:=x_ (hall 5 (by omega));obtain ⟨v6,h6⟩:=x_ (hall 6 (by omega));obtain ⟨v7,h7⟩:=x_ (hall 7 (by omega));obtain ⟨v8,h8⟩:=x_ (hall 8 (by omega));obtain ⟨v9,h9⟩:=x_ (hall 9 (by omega));obtain ⟨v10,h10⟩:=x_ (hall 10 (by omega));obtain ⟨v11,h11⟩:=x_ (hall 11 (by omega));simp only [puts,put1,show List.range (11+1)=[0,1,2,3,4,5,6,7,8,9,10,11] from rfl,List.foldl_cons,List.foldl_nil,h0,h1,h2,h3,h4,h5,h6,h7,h8,h9,h10,h11,t_,s_,z_,Act.put,u_,v_,k_];clear h0 h1 h2 h3 h4 h5 h6 h7 h8 h9 h10 h11 hall;go_wp2_with fail;go_end0;obtain ⟨_,v',F',a1,⟨y,rfl,a2⟩,a3,a4,a5,a6,a7⟩:=hF;rw [pre_set hpre] at a1;exact hend _ y v' F' a1 a2 a3 a4 a5 a6 a7
end Go.Proofs.YtocecpghoncmgaaGreatDoor
