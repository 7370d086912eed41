import Derived.Test.YtpgeidpfhakgaaaGreatDoorQh
import Derived.Test.YtpgeidpfhakgaaaGreatDoorQPwF
import Derived.Test.YtpgeidpfhakgaaaGreatDoorQFoF
import Derived.Test.YtpgeidpfhakgaaaGreatDoorQPkE
import Derived.Test.YtpgeidpfhakgaaaGreatDoorQSeD
import Derived.Test.YtpgeidpfhakgaaaGreatDoorQXF
import Derived.Test.YtpgeidpfhakgaaaGreatDoorEB
import Derived.Test.YtpgeidpfhakgaaaGreatDoorQGvM
set_option maxHeartbeats 12800000
set_option maxRecDepth 20000
namespace Go.Proofs.YtpgeidpfhakgaaaGreatDoor
open Go.RowKit
theorem okNs_get {d:Nat} {l:List GN} (h:okNs d l=true) {i:Nat} {x:GN} (hx:l[i]?=some x):okN d x=true:=okNs_iff.1 h x (List.mem_of_getElem? hx)
theorem mvsT_app (n:Nat):∀(l l':List SyMove),mvsT n (l++l')=mvsT n l++mvsT n l'
 |[],l'=>rfl
 |x::l,l'=>by rw [List.cons_append,mvsT,mvsT,mvsT_app n l l',a_]
theorem nodesT_app (n:Nat):∀(l l':List SyNode),nodesT n (l++l')=nodesT n l++nodesT n l'
 |[],l'=>by rw [List.nil_append,nodesT,List.nil_append]
 |x::l,l'=>by rw [List.cons_append,nodesT,nodesT,nodesT_app n l l',a_]
theorem nodesT_nil (n:Nat):nodesT n []=[]:=by rw [nodesT]
theorem nodesT_one (n:Nat) (x:SyNode):nodesT n [x]=nodeT n x:=by rw [nodesT,nodesT,List.append_nil]
def PN (w0:World) (b d:Nat) (x:GN):Prop:=∀(w:World) (n:Nat) (T:List UInt8) (xs:List Value),WS w0 w b T n ⟨#[]⟩->DxsAt w0 (gNode x) xs->n+d<=50->okN d x=true->x.rng ->
 Calls Tryz.prog 95 #[.pointer (some ⟨b,0,none⟩),.agg xs.toArray] w λ e w'=>e=.returned (.tuple #[])/\WS w0 w' b (T++nodeT n x.s) n ⟨#[]⟩/\Wk w0.heap.size b w w'
theorem pbody_any (w0 w:World) (b n d:Nat) (T:List UInt8) (k p:Int) (nm ini dft:List UInt8) (en le:List GA) (mo:List GM) (ks:List GN) (xs:List Value) (hE:Ee w0) (h:WS w0 w b T n ⟨#[]⟩) (hx:DxsAt w0 (gNode (.mk k nm ini dft en le mo ks p)) xs) (hn:n+d<=50)
  (o1:(ini.isEmpty || isNm ini)=true) (o2:en.all okA=true) (o3:le.all okA=true) (o4:mo.all okM=true) (o5:okNs d ks=true) (hr:(GN.mk k nm ini dft en le mo ks p).rng) (ih:∀(i:Nat) (a:GN),ks[i]?=some a->PN w0 b d a) :
  Calls Tryz.prog 57 #[.pointer (some ⟨b,0,none⟩),.agg xs.toArray] w λ e w'=>e=.returned (.tuple #[])/\WS w0 w' b (T++(iniT n ini++(clT n wEnter (en.map GA.s)++(clT n wLeave (le.map GA.s)++(mvsT n (mo.map GM.s)++nodesT n (ks.map GN.s)))))) n ⟨#[]⟩/\Wk w0.heap.size b w w':=by
 obtain ⟨A1,A2,A3,A4,Ac1,Ac2,Ac3,Ac4,rfl,a1,a2,a3,a4⟩:=node_v hx;rw [GN.rng] at hr;obtain ⟨_,_,_,r1,r2,r3,r4⟩:=hr;obtain ⟨N0,hN0⟩:=str_of nm;obtain ⟨I0,hI0⟩:=str_of ini;obtain ⟨D0,hD0⟩:=str_of dft
 have HIN:Hid (I0.data.toList=ini):=by
  have:I0=⟨ini.toArray⟩:=by injection hI0 with hI0;exact hI0.symm
  show _=_;rw [this]
 rw [hN0,hI0,hD0]
 obtain ⟨W1,hW1⟩:∃W,W=w.alloc (.cells #[.int .i64 k,.string N0,.string I0,.string D0,.slice A1 en.length Ac1,.slice A2 le.length Ac2,.slice A3 mo.length Ac3,.slice A4 ks.length Ac4,.int .i64 p] 27):=⟨_,rfl⟩
 obtain ⟨g1,hg1⟩:∃g,g=w.heap.size:=⟨_,rfl⟩
 have hal:Below w.heap.size w W1:=by rw [hW1];exact (b_ _ w).alloc (n_ _) _
 have HB1:Hid (CB W1 g1 27 [.int .i64 k,.string N0,.string I0,.string D0,.slice A1 en.length Ac1,.slice A2 le.length Ac2,.slice A3 mo.length Ac3,.slice A4 ks.length Ac4,.int .i64 p]):=by rw [hW1,hg1];exact CB.new w _ [.int .i64 k,.string N0,.string I0,.string D0,.slice A1 en.length Ac1,.slice A2 le.length Ac2,.slice A3 mo.length Ac3,.slice A4 ks.length Ac4,.int .i64 p]
 have HW1:=h_ (h.below hal);have HK1:Hid (Wk w0.heap.size b w W1):=Wk.of h.bl.size hal
 have HGB:Hid (g1≠b):=by have:=h.lt;rw [hg1];exact λ e=>by omega
 have HC1:=h_ (λ (W:World) (T':List UInt8) (hw:WS w0 W b T' n ⟨#[]⟩)=>pclause_any w0 W b n T' ⟨#[101,110,116,101,114]⟩ en A1 Ac1 hE hw a1 o2 r1 (by decide) (by decide) (by omega));have HC2:=h_ (λ (W:World) (T':List UInt8) (hw:WS w0 W b T' n ⟨#[]⟩)=>pclause_any w0 W b n T' ⟨#[108,101,97,118,101]⟩ le A2 Ac2 hE hw a2 o3 r2 (by decide) (by decide) (by omega));have HMV:=h_ (λ (m:GM) (hm:m∈mo) (W:World) (T':List UInt8) (ys:List Value) (hw:WS w0 W b T' n ⟨#[]⟩) (hy:DxsAt w0 (gMove m) ys)=>pmove_any w0 W b n T' m ys hE hw hy (List.all_eq_true.1 o4 m hm) (r3 m hm) (by omega));have HND:=h_ (λ (i:Nat) (a:GN) (ha:ks[i]?=some a) (W:World) (T':List UInt8) (ys:List Value) (hw:WS w0 W b T' n ⟨#[]⟩) (hy:DxsAt w0 (gNode a) ys)=>ih i a ha W n T' ys hw hy hn (okNs_get o5 ha) (GN.rngs_iff.1 r4 a (List.mem_of_getElem? ha)));have HMO:=h_ (show DxAt w0 (.row 43 13 mo.length (mo.flatMap gMove)) (.slice A3 mo.length Ac3) from a3)
 have HKS:Hid (DxAt w0 (.row 27 9 ks.length (ks.flatMap gNode)) (.slice A4 ks.length Ac4)):=by
  show DxAt _ _ _;have:=a4;unfold gKids at this;rw [gNodes_flat] at this;exact this
 have HMX:Hid (mo.length<=9223372036854775807/\ks.length<=9223372036854775807):=by
  obtain ⟨_,_,e1,f1,f2⟩:=HMO.out.slice;obtain ⟨_,_,e2,f3,f4⟩:=HKS.out.slice
  have:maxLen<=9223372036854775807:=by decide
  exact ⟨by omega,by omega⟩
 have HO1:=h_ o1;have HNN:=h_ hn;have z2:=HB1.out.c 2 rfl
 obtain ⟨d0,hd0⟩:∃d0,I0.toList.isEmpty=d0:=⟨_,rfl⟩
 clear h hal hx hn o1 o2 o3 o4 o5 r1 r2 r3 r4 ih a1 a2 a3 a4 hN0 hI0 hD0;go_enter Tryz.func57,Tryz.ntmps57;go_upto_region 1 with fail;rw [<-hW1,<-hg1];clear hW1 hg1;go_upto_if 10 with fail;have HD0:=h_ hd0
 go_cut [] (λ wr=>Hid (WS w0 wr b (T++iniT n ini) n ⟨#[]⟩)/\Hid (CB wr g1 27 [.int .i64 k,.string N0,.string I0,.string D0,.slice A1 en.length Ac1,.slice A2 le.length Ac2,.slice A3 mo.length Ac3,.slice A4 ks.length Ac4,.int .i64 p])/\Hid (Wk w0.heap.size b w wr))
 case first =>
  cases d0
  ·have hne:ini≠[]:=by
    intro e;have:=HD0.out;rw [Lib.toList_data,HIN.out,e] at this;cases this
   have hnm:isNm ini=true:=by
    have:=HO1.out;rw [Bool.or_eq_true] at this;rcases this with h|h
    ·exact absurd (List.isEmpty_iff.1 h) hne
    ·exact h
   obtain ⟨W2,hW2⟩:∃W,W=W1.alloc (.cells #[.string ⟨#[105,110,105,116,105,97,108]⟩,.string I0,.string ⟨#[59]⟩] 9):=⟨_,rfl⟩
   obtain ⟨g2,hg2⟩:∃g,g=W1.heap.size:=⟨_,rfl⟩
   have hal:Below W1.heap.size W1 W2:=by rw [hW2];exact (b_ _ W1).alloc (n_ _) _
   have HC:=h_ (pline_any w0 W2 b n g2 3 T [⟨#[105,110,105,116,105,97,108]⟩,I0,⟨#[59]⟩] (HW1.out.below hal) (by rw [hW2,hg2];exact CB.new W1 _ [.string ⟨#[105,110,105,116,105,97,108]⟩,.string I0,.string ⟨#[59]⟩]) rfl (by have:=HW1.out.lt;omega) (by
    intro s hs;simp only [List.mem_cons,List.not_mem_nil,or_false] at hs;rcases hs with rfl|hs|rfl
    ·decide
    ·rw [hs]
     have:I0.data.toList.length<=24:=by rw [HIN.out];exact nm_size hnm
     have h2:I0.data.toList.length=I0.size:=rfl;omega
    ·decide) (by decide) (by have:=HNN.out;omega))
   have HTX:Hid (ind n (ptT [] (wds [⟨#[105,110,105,116,105,97,108]⟩,I0,⟨#[59]⟩]))=iniT n ini):=by
    show _=_;unfold iniT;rw [if_neg hne,<-pt_ini (pw_name hnm)];simp only [wds,List.map_cons,List.map_nil,HIN.out];rfl
   rw [HTX.out] at HC;have HB2:=h_ (HB1.out.below hal);have HK2:Hid (Wk w0.heap.size b w W2):=HK1.out.trans (Wk.of HW1.out.bl.size hal);clear hal hne hnm HB1 HK1 HW1;go_wp2_with fail;rw [<-hW2,<-hg2];clear hW2 hg2 z2;refine HC.out.mono ?_;rintro e w3 ⟨rfl,h1,h2⟩;have HW3:=h_ h1;have HB3:=h_ (HB2.out.wk h2 HGB.out (by decide));have HK3:=h_ (HK2.out.trans h2);clear h1 h2 HC HB2 HK2;go_wp2_with fail
   go_meet
   exact ⟨HW3,HB3,HK3⟩
  ·have HW3:Hid (WS w0 W1 b (T++iniT n ini) n ⟨#[]⟩):=by
    have h:=HD0.out;rw [Lib.toList_data,HIN.out] at h;show WS _ _ _ _ _ _;unfold iniT;rw [if_pos (List.isEmpty_iff.1 h),List.append_nil];exact HW1.out
   go_wp2_with fail
   go_meet
   exact ⟨HW3,HB1,HK1⟩
 case rest =>
 obtain ⟨HW2,HB2,HK2⟩:=hcut;clear z2 HB1 HK1 HW1 hd0 HD0;have z4:=HB2.out.c 4 rfl;go_wp2_with fail;refine (HC1.out wc _ HW2.out).mono ?_;rintro e w3 ⟨rfl,h1,h2⟩;have HW3:Hid (WS w0 w3 b (T++iniT n ini++clT n wEnter (en.map GA.s)) n ⟨#[]⟩):=h1;have HB3:=h_ (HB2.out.wk h2 HGB.out (by decide));have HK3:=h_ (HK2.out.trans h2);clear h1 h2 HC1 HB2 HK2 HW2 z4;have z5:=HB3.out.c 5 rfl;go_wp2_with fail;refine (HC2.out w3 _ HW3.out).mono ?_;rintro e w4 ⟨rfl,h1,h2⟩;have HW4:Hid (WS w0 w4 b (T++iniT n ini++clT n wEnter (en.map GA.s)++clT n wLeave (le.map GA.s)) n ⟨#[]⟩):=h1;have HB4:=h_ (HB3.out.wk h2 HGB.out (by decide));have HK4:=h_ (HK3.out.trans h2);clear h1 h2 HC2 HB3 HK3 HW3 z5
 obtain ⟨T1,hT1⟩:∃T1,T++iniT n ini++clT n wEnter (en.map GA.s)++clT n wLeave (le.map GA.s)=T1:=⟨_,rfl⟩
 rw [hT1] at HW4;have HT1:=h_ hT1;clear hT1;have z6:=HB4.out.c 6 rfl
 obtain ⟨NM,hNM⟩:∃N,mo.length=N:=⟨_,rfl⟩
 have HNM:=h_ hNM
 obtain ⟨NK,hNK⟩:∃N,ks.length=N:=⟨_,rfl⟩
 have HNK:=h_ hNK;rw [hNM] at z6 HB4;rw [hNK] at HB4;clear hNM hNK;go_wp2_with fail;clear z6
 go_loopw [27] (λ iv wr=>∃i:Nat,i<=NM/\iv=.int .i64 (i:Int)/\Hid (WS w0 wr b (T1++mvsT n ((mo.take i).map GM.s)) n ⟨#[]⟩)/\Hid (CB wr g1 27 [.int .i64 k,.string N0,.string I0,.string D0,.slice A1 en.length Ac1,.slice A2 le.length Ac2,.slice A3 NM Ac3,.slice A4 NK Ac4,.int .i64 p])/\Hid (Wk w0.heap.size b w wr)) (λ iv _=>NM-(intOf iv).toNat)
 case atStart=>exact ⟨0,Nat.zero_le _,rfl,by show WS _ _ _ (_++[]) _ _;rw [List.append_nil];exact HW4.out,HB4,HK4⟩
 case round =>
  obtain ⟨i,hi,rfl,HWI,HBI,HKI⟩:=hrel
  by_cases him:i<NM
  ·have him':(i:Int)<NM:=by omega
   have HIM:=h_ him
   obtain ⟨m,hm⟩:∃m,mo[i]?=some m:=⟨_,List.getElem?_eq_getElem (by rw [HNM.out];exact him)⟩
   obtain ⟨g,og,c,ys,hv,_,_,hg,hy,_,hyc⟩:=DxAt.elem (f:=gMove) (k:=13) gMove_len (by decide) HMO.out hm
   obtain rfl:A3=some ⟨g,og,none⟩:=by injection hv
   have HCM:=λ (W:World) (T':List UInt8) (hw:WS w0 W b T' n ⟨#[]⟩)=>HMV.out m (List.mem_of_getElem? hm) W T' ys hw hy;obtain ⟨ev,E1,E2,e1,e2,rfl,_⟩:=move_vals' hy;obtain ⟨X,hX⟩:=str_of m.event;rw [hX] at HCM hyc
   have kb:∀{p:Addr} {u:Value},w0.cell? p=some u->wr.cell? p=some u:=λ hc=>by rw [World.cell?_of_block (HWI.out.bl.block _ (World.block_lt_of_cell? w0 _ hc))];exact hc
   have u0:wr.cell? ⟨g,og+i*13,none⟩=_:=kb (hyc 0 _ rfl);have u1:=kb (hyc 1 _ rfl);have u2:=kb (hyc 2 _ rfl);have u3:=kb (hyc 3 _ rfl);have u4:=kb (hyc 4 _ rfl);have u5:=kb (hyc 5 _ rfl);have u6:=kb (hyc 6 _ rfl);have u7:=kb (hyc 7 _ rfl);have u8:=kb (hyc 8 _ rfl);have u9:=kb (hyc 9 _ rfl);have u10:=kb (hyc 10 _ rfl);have u11:=kb (hyc 11 _ rfl);have u12:=kb (hyc 12 _ rfl)
   obtain ⟨W5,hW5⟩:∃W,W=wr.alloc (.cells #[.int .i64 m.kind,.string X,.int .i64 m.wait,.bool m.guarded,.int .i64 ev.kind,.int .i64 ev.num,.string ev.name,.int .i64 ev.op,.slice ev.A ev.len ev.cap,.int .i64 ev.p,.slice E1 m.acts.length e1,.slice E2 m.targets.length e2,.int .i64 m.at_] 43):=⟨_,rfl⟩
   obtain ⟨g5,hg5⟩:∃g,g=wr.heap.size:=⟨_,rfl⟩
   have hal5:Below wr.heap.size wr W5:=by rw [hW5];exact (b_ _ wr).alloc (n_ _) _
   have HB5:Hid (CB W5 g5 43 [.int .i64 m.kind,.string X,.int .i64 m.wait,.bool m.guarded,.int .i64 ev.kind,.int .i64 ev.num,.string ev.name,.int .i64 ev.op,.slice ev.A ev.len ev.cap,.int .i64 ev.p,.slice E1 m.acts.length e1,.slice E2 m.targets.length e2,.int .i64 m.at_]):=by rw [hW5,hg5];exact CB.new wr _ [.int .i64 m.kind,.string X,.int .i64 m.wait,.bool m.guarded,.int .i64 ev.kind,.int .i64 ev.num,.string ev.name,.int .i64 ev.op,.slice ev.A ev.len ev.cap,.int .i64 ev.p,.slice E1 m.acts.length e1,.slice E2 m.targets.length e2,.int .i64 m.at_]
   have HBN:=h_ (HBI.out.below hal5);have HKN:Hid (Wk w0.heap.size b w W5):=HKI.out.trans (Wk.of HWI.out.bl.size hal5);have HCC:=h_ (HCM W5 _ (HWI.out.below hal5))
   have HNX:Hid (T1++mvsT n ((mo.take i).map GM.s)++ind n (moveT m.s)=T1++mvsT n ((mo.take (i+1)).map GM.s)):=by
    show _=_;rw [List.take_add_one,hm,List.map_append,mvsT_app,<-a_];show _=_++(ind n (moveT m.s)++[]);rw [List.append_nil]
   rw [HNX.out] at HCC;clear hm hv hg hy hyc kb hal5 HCM hX HWI HBI HKI;go_upto_region 8 with fail;rw [<-hW5,<-hg5];clear hW5 hg5 u0 u1 u2 u3 u4 u5 u6 u7 u8 u9 u10 u11 u12;have z0:=HB5.out.c 0 rfl;have z1:=HB5.out.c 1 rfl;have z2:=HB5.out.c 2 rfl;have z3:=HB5.out.c 3 rfl;have z4:=HB5.out.c 4 rfl;have z5:=HB5.out.c 5 rfl;have z6:=HB5.out.c 6 rfl;have z7:=HB5.out.c 7 rfl;have z8:=HB5.out.c 8 rfl;have z9:=HB5.out.c 9 rfl;have z10:=HB5.out.c 10 rfl;have z11:=HB5.out.c 11 rfl;have z12:=HB5.out.c 12 rfl;go_wp2_with fail;refine HCC.out.mono ?_;rintro e w6 ⟨rfl,h1,h2⟩;have HW6:=h_ h1;have HB6:=h_ (HBN.out.wk h2 HGB.out (by decide));have HK6:=h_ (HKN.out.trans h2);clear h1 h2 HCC HBN HKN HB5 z0 z1 z2 z3 z4 z5 z6 z7 z8 z9 z10 z11 z12;go_wp2_with fail
   go_roundw
   case rel=>exact ⟨i+1,by have:=HIM.out;omega,by have h1:=HIM.out;have h2:=HMX.out.1;rw [HNM.out] at h2;rw [Go.IntWalk.wrap64_in _ ⟨by omega,by omega⟩];rfl,HW6,HB6,HK6⟩
   case measure=>have h1:=HIM.out;have h2:=HMX.out.1;rw [HNM.out] at h2;rw [Go.IntWalk.wrap64_in _ ⟨by omega,by omega⟩];simp [intOf];omega
  have him':¬(i:Int)<NM:=by omega
  have HWJ:Hid (WS w0 wr b (T1++mvsT n (mo.map GM.s)) n ⟨#[]⟩):=by
   have:=HWI.out;rw [List.take_of_length_le (by rw [HNM.out];omega)] at this;exact this
  have z7:=HBI.out.c 7 rfl;clear hi him HWI HW4 HB4 HK4;go_wp2_with fail;clear z7
  go_loopw [38] (λ iv wr=>∃i:Nat,i<=NK/\iv=.int .i64 (i:Int)/\Hid (WS w0 wr b (T1++mvsT n (mo.map GM.s)++nodesT n ((ks.take i).map GN.s)) n ⟨#[]⟩)/\Hid (Wk w0.heap.size b w wr)) (λ iv _=>NK-(intOf iv).toNat)
  case atStart=>exact ⟨0,Nat.zero_le _,rfl,by show WS _ _ _ (_++nodesT n []) _ _;rw [nodesT_nil,List.append_nil];exact HWJ.out,HKI⟩
  case round =>
   obtain ⟨i,hi,rfl,HWI,HKI⟩:=hrel
   by_cases him:i<NK
   ·have him':(i:Int)<NK:=by omega
    have HIM:=h_ him
    obtain ⟨a,ha⟩:∃a,ks[i]?=some a:=⟨_,List.getElem?_eq_getElem (by rw [HNK.out];exact him)⟩
    obtain ⟨g,og,c,ys,hv,_,_,hg,hy,_,hyc⟩:=DxAt.elem (f:=gNode) (k:=9) gNode_len (by decide) HKS.out ha
    obtain rfl:A4=some ⟨g,og,none⟩:=by injection hv
    have HCM:=λ (W:World) (T':List UInt8) (hw:WS w0 W b T' n ⟨#[]⟩)=>HND.out i a ha W T' ys hw hy
    obtain ⟨aS,haS⟩:∃x,a.s=x:=⟨_,rfl⟩
    rw [haS] at HCM
    have HAS:Hid (GN.s <$> ks[i]?=some aS):=by show _=_;rw [ha,<-haS];rfl
    clear haS;obtain ⟨ka,na,ia,da,ea,la,ma,sa,pa⟩:=a;obtain ⟨E1,E2,E3,E4,e1,e2,e3,e4,rfl,_⟩:=node_v hy;obtain ⟨P1,hP1⟩:=str_of na;obtain ⟨P2,hP2⟩:=str_of ia;obtain ⟨P3,hP3⟩:=str_of da;rw [hP1,hP2,hP3] at HCM hyc
    have kb:∀{p:Addr} {u:Value},w0.cell? p=some u->wr.cell? p=some u:=λ hc=>by rw [World.cell?_of_block (HWI.out.bl.block _ (World.block_lt_of_cell? w0 _ hc))];exact hc
    have u0:wr.cell? ⟨g,og+i*9,none⟩=_:=kb (hyc 0 _ rfl);have u1:=kb (hyc 1 _ rfl);have u2:=kb (hyc 2 _ rfl);have u3:=kb (hyc 3 _ rfl);have u4:=kb (hyc 4 _ rfl);have u5:=kb (hyc 5 _ rfl);have u6:=kb (hyc 6 _ rfl);have u7:=kb (hyc 7 _ rfl);have u8:=kb (hyc 8 _ rfl)
    obtain ⟨W5,hW5⟩:∃W,W=wr.alloc (.cells #[.int .i64 ka,.string P1,.string P2,.string P3,.slice E1 ea.length e1,.slice E2 la.length e2,.slice E3 ma.length e3,.slice E4 sa.length e4,.int .i64 pa] 27):=⟨_,rfl⟩
    obtain ⟨g5,hg5⟩:∃g,g=wr.heap.size:=⟨_,rfl⟩
    have hal5:Below wr.heap.size wr W5:=by rw [hW5];exact (b_ _ wr).alloc (n_ _) _
    have HB5:Hid (CB W5 g5 27 [.int .i64 ka,.string P1,.string P2,.string P3,.slice E1 ea.length e1,.slice E2 la.length e2,.slice E3 ma.length e3,.slice E4 sa.length e4,.int .i64 pa]):=by rw [hW5,hg5];exact CB.new wr _ [.int .i64 ka,.string P1,.string P2,.string P3,.slice E1 ea.length e1,.slice E2 la.length e2,.slice E3 ma.length e3,.slice E4 sa.length e4,.int .i64 pa]
    have HKN:Hid (Wk w0.heap.size b w W5):=HKI.out.trans (Wk.of HWI.out.bl.size hal5);have HCC:=h_ (HCM W5 _ (HWI.out.below hal5))
    have HNX:Hid (T1++mvsT n (mo.map GM.s)++nodesT n ((ks.take i).map GN.s)++nodeT n aS=T1++mvsT n (mo.map GM.s)++nodesT n ((ks.take (i+1)).map GN.s)):=by
     show _=_
     have e1:(ks.take (i+1)).map GN.s=(ks.take i).map GN.s++[aS]:=by
      have h:=HAS.out;rw [ha] at h;have h':GN.s (.mk ka na ia da ea la ma sa pa)=aS:=Option.some.inj h;rw [List.take_add_one,ha,List.map_append,<-h'];rfl
     rw [e1,nodesT_app,nodesT_one,<-a_]
    rw [HNX.out] at HCC;clear ha hv hg hy hyc kb hal5 HCM hP1 hP2 hP3 HWI HKI HAS;go_upto_region 13 with fail;rw [<-hW5,<-hg5];clear hW5 hg5 u0 u1 u2 u3 u4 u5 u6 u7 u8;have z0:=HB5.out.c 0 rfl;have z1:=HB5.out.c 1 rfl;have z2:=HB5.out.c 2 rfl;have z3:=HB5.out.c 3 rfl;have z4:=HB5.out.c 4 rfl;have z5:=HB5.out.c 5 rfl;have z6:=HB5.out.c 6 rfl;have z7:=HB5.out.c 7 rfl;have z8:=HB5.out.c 8 rfl;go_wp2_with fail;refine HCC.out.mono ?_;rintro e w6 ⟨rfl,h1,h2⟩;have HW6:=h_ h1;have HK6:=h_ (HKN.out.trans h2);clear h1 h2 HCC HKN HB5 z0 z1 z2 z3 z4 z5 z6 z7 z8;go_wp2_with fail
    go_roundw
    case rel=>exact ⟨i+1,by have:=HIM.out;omega,by have h1:=HIM.out;have h2:=HMX.out.2;rw [HNK.out] at h2;rw [Go.IntWalk.wrap64_in _ ⟨by omega,by omega⟩];rfl,HW6,HK6⟩
    case measure=>have h1:=HIM.out;have h2:=HMX.out.2;rw [HNK.out] at h2;rw [Go.IntWalk.wrap64_in _ ⟨by omega,by omega⟩];simp [intOf];omega
   ·have him':¬(i:Int)<NK:=by omega
    have HWF:Hid (WS w0 wr b (T1++mvsT n (mo.map GM.s)++nodesT n (ks.map GN.s)) n ⟨#[]⟩):=by
     have:=HWI.out;rw [List.take_of_length_le (by rw [HNK.out];omega)] at this;exact this
    clear hi him HWI;go_wp2_with fail;go_end0;refine ⟨rfl,?_,HKI.out⟩;have:=HWF.out;rw [<-HT1.out] at this;simp only [a_] at this ⊢;exact this
end Go.Proofs.YtpgeidpfhakgaaaGreatDoor
namespace Go.Proofs.YtpgeidpfhakgaaaGreatDoor
open Go.RowKit
def pvT (n:Nat):List SyVar->List UInt8
 |[]=>[]
 |v::l=>ind n (pvarT v)++pvT n l
theorem pvT_one:∀l:List SyVar,pvT 1 l=pvarsT l
 |[]=>rfl
 |v::l=>by rw [pvT,pvarsT,pvT_one l]
theorem pvT_snoc (n:Nat):∀(l:List SyVar) (v:SyVar),pvT n (l++[v])=pvT n l++ind n (pvarT v)
 |[],v=>by show ind n (pvarT v)++[]=[]++ind n (pvarT v);simp
 |x::l,v=>by rw [List.cons_append,pvT,pvT,pvT_snoc n l v,a_]
theorem pstate_any (w0 w:World) (b n:Nat) (T BT:List UInt8) (S:ByteArray) (k p:Int) (N0 I0 D0:ByteArray) (A1 A2 A3 A4 A0:Option Addr) (n1 n2 n3 n4 c1 c2 c3 c4 c0:Nat) (vl:List SyVar) (hE:Ee w0) (h:WS w0 w b T n ⟨#[]⟩) (hn:n<=50)
  (hv:DxAt w0 (dvVars vl) (.slice A0 vl.length c0)) (hvo:∀v∈vl,isNm v.name=true) (hvr:∀v∈vl,v.rng) (hS:kwOk S.data.toList=true) (hsz:S.size<=1000000) (hN:isNm N0.data.toList=true)
  (hb:∀(W:World) (T':List UInt8),WS w0 W b T' (n+1) ⟨#[]⟩->Calls Tryz.prog 57 #[.pointer (some ⟨b,0,none⟩),.agg #[.int .i64 k,.string N0,.string I0,.string D0,.slice A1 n1 c1,.slice A2 n2 c2,.slice A3 n3 c3,.slice A4 n4 c4,.int .i64 p]] W λ e w'=>e=.returned (.tuple #[])/\WS w0 w' b (T'++BT) (n+1) ⟨#[]⟩/\Wk w0.heap.size b W w') :
  Calls Tryz.prog 30 #[.pointer (some ⟨b,0,none⟩),.string S,.agg #[.int .i64 k,.string N0,.string I0,.string D0,.slice A1 n1 c1,.slice A2 n2 c2,.slice A3 n3 c3,.slice A4 n4 c4,.int .i64 p],.slice A0 vl.length c0] w λ e w'=>e=.returned (.tuple #[])/\WS w0 w' b (T++(ind n (S.data.toList++32::(N0.data.toList++32::[123]))++(pvT (n+1) vl++(BT++ind n [125])))) n ⟨#[]⟩/\Wk w0.heap.size b w w':=by
 obtain ⟨N1,hN1⟩:∃N1,n+1=N1:=⟨_,rfl⟩
 rw [hN1] at hb ⊢
 have hc1:(n:Int)+1=(N1:Int):=by omega
 have hc2:(N1:Int)-1=(n:Int):=by omega
 have HNS:=h_ hN1;clear hN1
 obtain ⟨W1,hW1⟩:∃W,W=w.alloc (.cells #[.int .i64 k,.string N0,.string I0,.string D0,.slice A1 n1 c1,.slice A2 n2 c2,.slice A3 n3 c3,.slice A4 n4 c4,.int .i64 p] 27):=⟨_,rfl⟩
 obtain ⟨g1,hg1⟩:∃g,g=w.heap.size:=⟨_,rfl⟩
 have hal:Below w.heap.size w W1:=by rw [hW1];exact (b_ _ w).alloc (n_ _) _
 have HB1:Hid (CB W1 g1 27 [.int .i64 k,.string N0,.string I0,.string D0,.slice A1 n1 c1,.slice A2 n2 c2,.slice A3 n3 c3,.slice A4 n4 c4,.int .i64 p]):=by rw [hW1,hg1];exact CB.new w _ [.int .i64 k,.string N0,.string I0,.string D0,.slice A1 n1 c1,.slice A2 n2 c2,.slice A3 n3 c3,.slice A4 n4 c4,.int .i64 p]
 have HGB:Hid (g1≠b):=by have:=h.lt;rw [hg1];exact λ e=>by omega
 obtain ⟨W2,hW2⟩:∃W,W=W1.alloc (.cells #[.string S,.string N0,.string ⟨#[123]⟩] 9):=⟨_,rfl⟩
 obtain ⟨g2,hg2⟩:∃g,g=W1.heap.size:=⟨_,rfl⟩
 have hal2:Below W1.heap.size W1 W2:=by rw [hW2];exact (b_ _ W1).alloc (n_ _) _
 have hnm:N0.data.toList.length<=24:=nm_size hN
 have HC:=h_ (pline_any w0 W2 b n g2 3 T [S,N0,⟨#[123]⟩] ((h.below hal).below hal2) (by rw [hW2,hg2];exact CB.new W1 _ [.string S,.string N0,.string ⟨#[123]⟩]) rfl (by have:=(h.below hal).lt;omega) (by
  intro s hs;simp only [List.mem_cons,List.not_mem_nil,or_false] at hs;rcases hs with hs|hs|hs
  ·rw [hs];exact hsz
  ·rw [hs];have h2:N0.data.toList.length=N0.size:=rfl;omega
  ·rw [hs];decide) (by decide) (by omega))
 have HTX:Hid (ind n (ptT [] (wds [S,N0,⟨#[123]⟩]))=ind n (S.data.toList++32::(N0.data.toList++32::[123]))):=by
  show _=_;rw [<-pt_head (pw_kw hS) (pw_name hN)];rfl
 rw [HTX.out] at HC;have HB2:=h_ (HB1.out.below hal2);have HK2:Hid (Wk w0.heap.size b w W2):=(Wk.of h.bl.size hal).trans (Wk.of (h.below hal).bl.size hal2);have HBD:=h_ hb;have HVX:=h_ (show DxAt w0 (.row 74 3 vl.length (vl.flatMap dvVar)) (.slice A0 vl.length c0) from hv);have HVO:=h_ hvo;have HNT:=h_ (λ (v:SyVar) (hm:v∈vl) (W:World) (hb:Below w0.heap.size w0 W)=>And.intro (text_any v.num W (hvr v hm).2.1 (hvr v hm).2.2 (hE.below hb).pw) (itoa_arr v.num (hvr v hm).2.1 (hvr v hm).2.2))
 have HMX:Hid (vl.length<=9223372036854775807):=by
  obtain ⟨_,_,e1,f1,f2⟩:=HVX.out.slice
  have:maxLen<=9223372036854775807:=by decide
  show _<=_;omega
 have HNN:=h_ hn;have z1:=HB1.out.c 1 rfl
 obtain ⟨NV,hNV⟩:∃N,vl.length=N:=⟨_,rfl⟩
 have HNV:=h_ hNV;rw [hNV];clear h hal hal2 hn hv hvo hvr hS hsz hN hb hnm HTX hNV hE;go_enter Tryz.func30,Tryz.ntmps30;go_upto_region 1 with fail;rw [<-hW1,<-hg1];clear hW1 hg1;go_wp2_with fail;rw [<-hW2,<-hg2];clear hW2 hg2 z1;refine HC.out.mono ?_;rintro e w3 ⟨rfl,h1,h2⟩;have HB3:=h_ (HB2.out.wk h2 HGB.out (by decide))
 obtain ⟨T1,hT1⟩:∃T1,T++ind n (S.data.toList++32::(N0.data.toList++32::[123]))=T1:=⟨_,rfl⟩
 rw [hT1] at h1;have HT1:=h_ hT1;have x2:=h1.c2;have f2:=h1.fr 2
 obtain ⟨W4,hW4⟩:∃W,W=w3.setCell ⟨b,2,none⟩ (.int .i64 (N1:Int)):=⟨_,rfl⟩
 have HW4:Hid (WS w0 W4 b T1 N1 ⟨#[]⟩):=by rw [hW4];exact h1.set2 N1
 have HK4:Hid (Wk w0.heap.size b w W4):=by rw [hW4];exact (HK2.out.trans h2).trans (Wk.set h1.ge 2 _)
 have HB4:Hid (CB W4 g1 27 [.int .i64 k,.string N0,.string I0,.string D0,.slice A1 n1 c1,.slice A2 n2 c2,.slice A3 n3 c3,.slice A4 n4 c4,.int .i64 p]):=by rw [hW4];exact HB3.out.other HGB.out 2 _
 clear h1 h2 HC HB2 HK2 HB3 hT1;go_upto_region 3 with fail
 try (rw [Go.IntWalk.wrap64_in _ (by have:=HNN.out;exact ⟨by omega,by omega⟩)])
 try rw [hc1]
 rw [<-hW4];clear hW4 x2 f2 hc1;go_wp2_with fail
 go_loopw [25] (λ iv wr=>∃i:Nat,i<=NV/\iv=.int .i64 (i:Int)/\Hid (CB wr g1 27 [.int .i64 k,.string N0,.string I0,.string D0,.slice A1 n1 c1,.slice A2 n2 c2,.slice A3 n3 c3,.slice A4 n4 c4,.int .i64 p]/\WS w0 wr b (T1++pvT N1 (vl.take i)) N1 ⟨#[]⟩/\Wk w0.heap.size b w wr)) (λ iv _=>NV-(intOf iv).toNat)
 case atStart=>exact ⟨0,Nat.zero_le _,rfl,HB4.out,by rw [List.take_zero];show WS _ _ _ (T1++[]) _ _;rw [List.append_nil];exact HW4.out,HK4.out⟩
 case round =>
  obtain ⟨i,hi,rfl,HI⟩:=hrel
  by_cases him:i<NV
  ·have him':(i:Int)<NV:=by omega
   have HIM:=h_ him
   obtain ⟨v,hm⟩:∃v,vl[i]?=some v:=⟨_,List.getElem?_eq_getElem (by rw [HNV.out];exact him)⟩
   have hmm:=List.mem_of_getElem? hm;obtain ⟨g,og,c,ys,hv,_,_,hg,hy,_,hyc⟩:=DxAt.elem (f:=dvVar) (k:=3) dvVar_len (by decide) HVX.out hm
   obtain rfl:A0=some ⟨g,og,none⟩:=by injection hv
   obtain rfl:=var_vals' hy;obtain ⟨X,hX⟩:=str_of v.name
   have hXN:X.data.toList=v.name:=by
    have:X=⟨v.name.toArray⟩:=by injection hX with hX;exact hX.symm
    rw [this]
   rw [hX] at hyc
   have kb:∀{p:Addr} {u:Value},w0.cell? p=some u->wr.cell? p=some u:=λ hc=>by rw [World.cell?_of_block (HI.out.2.1.bl.block _ (World.block_lt_of_cell? w0 _ hc))];exact hc
   have u0:wr.cell? ⟨g,og+i*3,none⟩=_:=kb (hyc 0 _ rfl);have u1:=kb (hyc 1 _ rfl);have u2:=kb (hyc 2 _ rfl)
   obtain ⟨W5,hW5⟩:∃W,W=wr.alloc (.cells #[.string X,.int .i64 v.num,.int .i64 v.at_] 74):=⟨_,rfl⟩
   obtain ⟨g5,hg5⟩:∃g,g=wr.heap.size:=⟨_,rfl⟩
   have hal5:Below wr.heap.size wr W5:=by rw [hW5];exact (b_ _ wr).alloc (n_ _) _
   have HQ0:Hid (CB W5 g5 74 [.string X,.int .i64 v.num,.int .i64 v.at_]/\CB W5 g1 27 [.int .i64 k,.string N0,.string I0,.string D0,.slice A1 n1 c1,.slice A2 n2 c2,.slice A3 n3 c3,.slice A4 n4 c4,.int .i64 p]/\WS w0 W5 b (T1++pvT N1 (vl.take i)) N1 ⟨#[]⟩/\Wk w0.heap.size b w W5):=⟨by rw [hW5,hg5];exact CB.new wr _ [.string X,.int .i64 v.num,.int .i64 v.at_],HI.out.1.below hal5,HI.out.2.1.below hal5,HI.out.2.2.trans (Wk.of HI.out.2.1.bl.size hal5)⟩
   have HGB5:Hid (g5≠b):=by have:=HI.out.2.1.lt;rw [hg5];exact λ e=>by omega
   obtain ⟨TX,hTX⟩:∃TX:ByteArray,(⟨(Lib.itoa v.num).toArray⟩:ByteArray)=TX:=⟨_,rfl⟩
   have HTS:Hid (TX.size<=1000000):=by show TX.size<=_;rw [<-hTX];exact (HNT.out v hmm wr HI.out.2.1.bl).2
   have hTL:TX.data.toList=Lib.itoa v.num:=by rw [<-hTX]
   have HXS:Hid (X.size<=1000000):=by
    have h1:X.data.toList.length<=24:=by rw [hXN];exact nm_size (HVO.out v hmm)
    have h2:X.data.toList.length=X.size:=rfl;show X.size<=_;omega
   have HNX:Hid (T1++pvT N1 (vl.take i)++ind N1 (ptT [] (wds [⟨#[118,97,114]⟩,X,⟨#[61]⟩,TX,⟨#[59]⟩]))=T1++pvT N1 (vl.take (i+1))):=by
    show _=_;rw [List.take_add_one,hm];show _=T1++pvT N1 (vl.take i++[v]);rw [pvT_snoc,a_];unfold pvarT;rw [<-pt_var (pw_name (HVO.out v hmm))];simp only [wds,List.map_cons,List.map_nil,hXN,hTL];rfl
   have HTXd:Hid (Calls Tryz.prog 56 #[.int .i64 v.num] W5.drew λ e w'=>e=.returned (.string TX)/\(w'.cell? ⟨g5,0,none⟩=some (.string X)/\w'.cell? ⟨g5,1,none⟩=some (.int .i64 v.num))/\((∀ob:Obj,(w'.alloc ob).cell? ⟨g5,0,none⟩=some (.string X))/\(∀ob:Obj,(w'.alloc ob).cell? ⟨g5,1,none⟩=some (.int .i64 v.num)))/\Hid (CB w' g5 74 [.string X,.int .i64 v.num,.int .i64 v.at_]/\CB w' g1 27 [.int .i64 k,.string N0,.string I0,.string D0,.slice A1 n1 c1,.slice A2 n2 c2,.slice A3 n3 c3,.slice A4 n4 c4,.int .i64 p]/\WS w0 w' b (T1++pvT N1 (vl.take i)) N1 ⟨#[]⟩/\Wk w0.heap.size b w w')):=by
    have hd:Below W5.heap.size W5 W5.drew:=(b_ _ W5).drew;have h3:=(HNT.out v hmm W5.drew (HQ0.out.2.2.1.bl.trans (hd.mono HQ0.out.2.2.1.bl.size))).1;rw [hTX] at h3;refine h3.mono ?_;rintro e w6 ⟨rfl,hb⟩;have hb6:Below W5.heap.size W5 w6:=hd.trans hb;have c:=HQ0.out.1.below hb6;have ca:=λ ob=>c.alloc ob;exact ⟨rfl,⟨c.c 0 rfl,c.c 1 rfl⟩,⟨λ ob=>(ca ob).c 0 rfl,λ ob=>(ca ob).c 1 rfl⟩,c,HQ0.out.2.1.below hb6,HQ0.out.2.2.1.below hb6,HQ0.out.2.2.2.trans (Wk.of HQ0.out.2.2.1.bl.size hb6)⟩
   have HPTd:Hid (∀w6:World,Hid (CB w6 g5 74 [.string X,.int .i64 v.num,.int .i64 v.at_]/\CB w6 g1 27 [.int .i64 k,.string N0,.string I0,.string D0,.slice A1 n1 c1,.slice A2 n2 c2,.slice A3 n3 c3,.slice A4 n4 c4,.int .i64 p]/\WS w0 w6 b (T1++pvT N1 (vl.take i)) N1 ⟨#[]⟩/\Wk w0.heap.size b w w6) ->
     Calls Tryz.prog 55 #[.pointer (some ⟨b,0,none⟩),.slice (some ⟨w6.heap.size,0,none⟩) 5 5] (w6.alloc (.cells #[.string ⟨#[118,97,114]⟩,.string X,.string ⟨#[61]⟩,.string TX,.string ⟨#[59]⟩] 9)) λ e w'=>e=.returned (.tuple #[])/\(w'.cell? ⟨g5,0,none⟩=some (.string X)/\w'.cell? ⟨g5,1,none⟩=some (.int .i64 v.num))/\Hid (CB w' g1 27 [.int .i64 k,.string N0,.string I0,.string D0,.slice A1 n1 c1,.slice A2 n2 c2,.slice A3 n3 c3,.slice A4 n4 c4,.int .i64 p]/\WS w0 w' b (T1++pvT N1 (vl.take (i+1))) N1 ⟨#[]⟩/\Wk w0.heap.size b w w')):=by
    rintro w6 ⟨h1,h0,h2,h3⟩;have hal:Below w6.heap.size w6 (w6.alloc (.cells #[.string ⟨#[118,97,114]⟩,.string X,.string ⟨#[61]⟩,.string TX,.string ⟨#[59]⟩] 9)):=(b_ _ w6).alloc (n_ _) _
    have h9:=pline_any w0 _ b N1 w6.heap.size 5 _ [⟨#[118,97,114]⟩,X,⟨#[61]⟩,TX,⟨#[59]⟩] (h2.below hal) (CB.new w6 _ [.string ⟨#[118,97,114]⟩,.string X,.string ⟨#[61]⟩,.string TX,.string ⟨#[59]⟩]) rfl (by have:=h2.lt;omega) (by
     intro s hs;simp only [List.mem_cons,List.not_mem_nil,or_false] at hs;rcases hs with hs|hs|hs|hs|hs
     ·rw [hs];decide
     ·rw [hs];exact HXS.out
     ·rw [hs];decide
     ·rw [hs];exact HTS.out
     ·rw [hs];decide) (by decide) (by have:=HNN.out;have:=HNS.out;omega)
    rw [HNX.out] at h9;refine h9.mono ?_;rintro e w7 ⟨rfl,h4,h5⟩;have c:=(h1.below hal).wk h5 HGB5.out (by decide);exact ⟨rfl,⟨c.c 0 rfl,c.c 1 rfl⟩,(h0.below hal).wk h5 HGB.out (by decide),h4,h3.trans ((Wk.of h2.bl.size hal).trans h5)⟩
   have z0:=HQ0.out.1.c 0 rfl;have z1:=HQ0.out.1.c 1 rfl;clear hm hmm hv hg hy hyc kb hal5 hX hXN hTX hTL HTS HXS HNX HI HQ0;go_upto_region 6 with fail;rw [<-hW5,<-hg5];clear hW5 hg5 u0 u1 u2
   go_region_held3 (λ W=>W.cell? ⟨g5,0,none⟩=some (.string X)/\W.cell? ⟨g5,1,none⟩=some (.int .i64 v.num)) (go_keep) (first|(go_at_call 56;refine HTXd.out.mono ?_;rintro e w6 ⟨rfl,⟨x1,x2⟩,⟨v1,v2⟩,HQ6⟩)|(go_at_call 55;refine (HPTd.out _ HQ6).mono ?_;rintro e w7 ⟨rfl,⟨x1',x2'⟩,HF7⟩))
   all_goals
    have HF8:=h_ HF7.out;clear x1 x2 v1 v2 x1' x2' HQ6 HF7 HTXd HPTd z0 z1;go_wp2_with fail
    go_roundw
    case rel=>exact ⟨i+1,by have:=HIM.out;omega,by have h1:=HIM.out;have h2:=HMX.out;rw [HNV.out] at h2;rw [Go.IntWalk.wrap64_in _ ⟨by omega,by omega⟩];rfl,HF8⟩
    case measure=>have h1:=HIM.out;have h2:=HMX.out;rw [HNV.out] at h2;rw [Go.IntWalk.wrap64_in _ ⟨by omega,by omega⟩];simp [intOf];omega
  ·have him':¬(i:Int)<NV:=by omega
   have HJ:Hid (CB wr g1 27 [.int .i64 k,.string N0,.string I0,.string D0,.slice A1 n1 c1,.slice A2 n2 c2,.slice A3 n3 c3,.slice A4 n4 c4,.int .i64 p]/\WS w0 wr b (T1++pvT N1 vl) N1 ⟨#[]⟩/\Wk w0.heap.size b w wr):=by
    have:=HI.out;rw [List.take_of_length_le (by rw [HNV.out];omega)] at this;exact this
   clear hi him HI HW4 HK4 HB4;have z0:=HJ.out.1.c 0 rfl;have z1:=HJ.out.1.c 1 rfl;have z2:=HJ.out.1.c 2 rfl;have z3:=HJ.out.1.c 3 rfl;have z4:=HJ.out.1.c 4 rfl;have z5:=HJ.out.1.c 5 rfl;have z6:=HJ.out.1.c 6 rfl;have z7:=HJ.out.1.c 7 rfl;have z8:=HJ.out.1.c 8 rfl;go_wp2_with fail;refine (HBD.out wr _ HJ.out.2.1).mono ?_;rintro e w5 ⟨rfl,h1,h2⟩;have x2:=h1.c2;have f2:=h1.fr 2
   obtain ⟨W6,hW6⟩:∃W,W=w5.setCell ⟨b,2,none⟩ (.int .i64 (n:Int)):=⟨_,rfl⟩
   have HW6:Hid (WS w0 W6 b (T1++pvT N1 vl++BT) n ⟨#[]⟩):=by rw [hW6];exact h1.set2 n
   have HK6:Hid (Wk w0.heap.size b w W6):=by rw [hW6];exact (HJ.out.2.2.trans h2).trans (Wk.set h1.ge 2 _)
   clear h1 h2 HJ z0 z1 z2 z3 z4 z5 z6 z7 z8;go_upto_region 10 with fail
   try (rw [Go.IntWalk.wrap64_in _ (by have:=HNN.out;have:=HNS.out;exact ⟨by omega,by omega⟩)])
   try rw [hc2]
   rw [<-hW6];clear hW6 x2 f2 hc2
   obtain ⟨W7,hW7⟩:∃W,W=W6.alloc (.cells #[.string ⟨#[125]⟩] 9):=⟨_,rfl⟩
   obtain ⟨g7,hg7⟩:∃g,g=W6.heap.size:=⟨_,rfl⟩
   have hal7:Below W6.heap.size W6 W7:=by rw [hW7];exact (b_ _ W6).alloc (n_ _) _
   have HC:=h_ (pline_any w0 W7 b n g7 1 _ [⟨#[125]⟩] (HW6.out.below hal7) (by rw [hW7,hg7];exact CB.new W6 _ [.string ⟨#[125]⟩]) rfl (by have:=HW6.out.lt;omega) (by intro s hs;simp at hs;subst hs;decide) (by decide) (by have:=HNN.out;have:=HNS.out;omega));have HK7:Hid (Wk w0.heap.size b w W7):=HK6.out.trans (Wk.of HW6.out.bl.size hal7);clear hal7 HW6 HK6;go_wp2_with fail;rw [<-hW7,<-hg7];clear hW7 hg7;refine HC.out.mono ?_;rintro e w8 ⟨rfl,h1,h2⟩;have HW8:=h_ h1;have HK8:=h_ (HK7.out.trans h2);clear h1 h2 HC HK7;go_wp2_with fail;go_end0;refine ⟨rfl,?_,HK8.out⟩;have h:=HW8.out;rw [show ptT [] (wds [⟨#[125]⟩])=[125] from pt_shut,<-HT1.out] at h;simp only [a_] at h ⊢;exact h
end Go.Proofs.YtpgeidpfhakgaaaGreatDoor
namespace Go.Proofs.YtpgeidpfhakgaaaGreatDoor
open Go.RowKit
theorem dx_nil (w:World):DxAt w (dvVars []) (.slice none 0 0):=by
 unfold dvVars DxAt;exact ⟨none,0,[],rfl,n_ _,Nat.zero_le _,.inl rfl,DxsAt.nil w⟩
theorem pn_all (w0:World) (b:Nat) (hE:Ee w0):∀(d:Nat) (x:GN),PN w0 b d x
 |0,x=>λ w n T xs _ _ _ ho _=>by rw [okN] at ho;cases ho
 |d+1,.mk k nm ini dft en le mo ks p=>by
  intro w n T xs h hx hn ho hr;have ihd:=pn_all w0 b hE d;have hok:=ho;rw [okN,Bool.and_eq_true] at hok;obtain ⟨hnm,hok⟩:=hok
  have hkd:k=1∨k=2∨k=3∨k=4:=by
   by_cases c:k=3∨k=4
   ·omega
   ·rw [if_neg c] at hok;simp only [Bool.and_eq_true,decide_eq_true_eq] at hok;omega
  obtain ⟨A1,A2,A3,A4,Ac1,Ac2,Ac3,Ac4,rfl,_⟩:=node_v hx
  obtain ⟨N0,hN0⟩:∃N:ByteArray,(⟨nm.toArray⟩:ByteArray)=N:=⟨_,rfl⟩
  obtain ⟨I0,hI0⟩:∃N:ByteArray,(⟨ini.toArray⟩:ByteArray)=N:=⟨_,rfl⟩
  obtain ⟨D0,hD0⟩:∃N:ByteArray,(⟨dft.toArray⟩:ByteArray)=N:=⟨_,rfl⟩
  have eN:txV nm=.string N0:=by rw [<-hN0];rfl
  have eI:txV ini=.string I0:=by rw [<-hI0];rfl
  have eD:txV dft=.string D0:=by rw [<-hD0];rfl
  have HNM:Hid (N0.data.toList=nm):=by show _=_;rw [<-hN0]
  have HDM:Hid (D0.data.toList=dft):=by show _=_;rw [<-hD0]
  rw [eN,eI,eD] at hx ⊢
  obtain ⟨BT,hBT⟩:∃BT,iniT (n+1) ini++(clT (n+1) wEnter (en.map GA.s)++(clT (n+1) wLeave (le.map GA.s)++(mvsT (n+1) (mo.map GM.s)++nodesT (n+1) (ks.map GN.s))))=BT:=⟨_,rfl⟩
  have HBT:Hid (BT=iniT (n+1) ini++(clT (n+1) wEnter (en.map GA.s)++(clT (n+1) wLeave (le.map GA.s)++(mvsT (n+1) (mo.map GM.s)++nodesT (n+1) (ks.map GN.s))))):=hBT.symm
  have HST0:k≠3->k≠4->∀(S:ByteArray) (W:World),WS w0 W b T n ⟨#[]⟩->kwOk S.data.toList=true->S.size<=1000000->Calls Tryz.prog 30 #[.pointer (some ⟨b,0,none⟩),.string S,.agg #[.int .i64 k,.string N0,.string I0,.string D0,.slice A1 en.length Ac1,.slice A2 le.length Ac2,.slice A3 mo.length Ac3,.slice A4 ks.length Ac4,.int .i64 p],.slice none 0 0] W λ e w'=>e=.returned (.tuple #[])/\WS w0 w' b (T++(ind n (S.data.toList++32::(N0.data.toList++32::[123]))++(pvT (n+1) []++(BT++ind n [125])))) n ⟨#[]⟩/\Wk w0.heap.size b W w':=by
   intro k3 k4 S W hw hS hsz;rw [if_neg (by omega)] at hok;simp only [Bool.and_eq_true] at hok;obtain ⟨⟨⟨⟨⟨⟨_,_⟩,o1⟩,o2⟩,o3⟩,o4⟩,o5⟩:=hok;refine pstate_any w0 W b n T BT S k p N0 I0 D0 A1 A2 A3 A4 none en.length le.length mo.length ks.length Ac1 Ac2 Ac3 Ac4 0 [] hE hw ?_ (dx_nil w0) (λ _ h=>(by cases h)) (λ _ h=>(by cases h)) hS hsz (by rw [HNM.out];exact hnm) (λ W' T' hw'=>?_)
   ·omega
   ·have:=pbody_any w0 W' b (n+1) d T' k p nm ini dft en le mo ks _ hE hw' hx (by omega) o1 o2 o3 o4 o5 hr (λ i a _=>ihd a);rw [hBT] at this;exact this
  have hdn:k=3∨k=4->isNm dft=true:=λ c=>by
   rw [if_pos c] at hok;simp only [Bool.and_eq_true] at hok;exact hok.1.1.1.1.1
  have HNN:=h_ (show n<=100 from by omega);have HXE0:Hid (GN.s (.mk k nm ini dft en le mo ks p)=GN.s (.mk k nm ini dft en le mo ks p)):=rfl
  obtain ⟨X,hX⟩:∃X,GN.s (.mk k nm ini dft en le mo ks p)=X:=⟨_,rfl⟩
  rw [hX]
  have HSZ:Hid (∀(s:List UInt8) (S:ByteArray),S.data.toList=s->isNm s=true->S.size<=1000000):=λ s S e h=>by
   have h1:S.data.toList.length<=24:=by rw [e];exact nm_size h
   have h2:S.data.toList.length=S.size:=rfl;omega
  obtain ⟨K,hK⟩:∃K,k=K:=⟨_,rfl⟩
  rw [hK] at HST0 hkd hdn ⊢;have HXE:=h_ hX
  have HXS:Hid (GN.mk k nm ini dft en le mo ks p=GN.mk K nm ini dft en le mo ks p):=by show _=_;rw [hK]
  obtain ⟨W1,hW1⟩:∃W,W=w.alloc (.cells #[.int .i64 K,.string N0,.string I0,.string D0,.slice A1 en.length Ac1,.slice A2 le.length Ac2,.slice A3 mo.length Ac3,.slice A4 ks.length Ac4,.int .i64 p] 27):=⟨_,rfl⟩
  obtain ⟨g1,hg1⟩:∃g,g=w.heap.size:=⟨_,rfl⟩
  have hal:Below w.heap.size w W1:=by rw [hW1];exact (b_ _ w).alloc (n_ _) _
  have HB1:Hid (CB W1 g1 27 [.int .i64 K,.string N0,.string I0,.string D0,.slice A1 en.length Ac1,.slice A2 le.length Ac2,.slice A3 mo.length Ac3,.slice A4 ks.length Ac4,.int .i64 p]):=by rw [hW1,hg1];exact CB.new w _ [.int .i64 K,.string N0,.string I0,.string D0,.slice A1 en.length Ac1,.slice A2 le.length Ac2,.slice A3 mo.length Ac3,.slice A4 ks.length Ac4,.int .i64 p]
  have HW1:=h_ (h.below hal);have HK1:Hid (Wk w0.heap.size b w W1):=Wk.of h.bl.size hal;have z0:=HB1.out.c 0 rfl;have HNMO:=h_ hnm;clear h hal hx hn ho hr hok ihd hN0 hI0 hD0 eN eI eD hBT hnm hX hK HXE0;rcases hkd with rfl|rfl|rfl|rfl
  ·have HST:=h_ (HST0 (by decide) (by decide));clear HST0 hdn;go_enter Tryz.func95,Tryz.ntmps95;go_upto_region 1 with fail;rw [<-hW1,<-hg1];clear hW1 hg1;have HC:=h_ (HST.out ⟨#[115,116,97,116,101]⟩ W1 HW1.out (by decide) (by decide))
   have HFN:Hid (ind n ((⟨#[115,116,97,116,101]⟩:ByteArray).data.toList++32::(N0.data.toList++32::[123]))++(pvT (n+1) []++(BT++ind n [125]))=nodeT n X):=by
    show _=_;rw [<-HXE.out,HXS.out,HNM.out];unfold GN.s nodeT;rw [if_neg (by decide),HBT.out,ss_map];simp only [pvT,List.nil_append,a_];rfl
   rw [HFN.out] at HC;have z0:=HB1.out.c 0 rfl;have z1:=HB1.out.c 1 rfl;have z2:=HB1.out.c 2 rfl;have z3:=HB1.out.c 3 rfl;have z4:=HB1.out.c 4 rfl;have z5:=HB1.out.c 5 rfl;have z6:=HB1.out.c 6 rfl;have z7:=HB1.out.c 7 rfl;have z8:=HB1.out.c 8 rfl;clear HB1 HW1 HST;go_wp2_with fail;refine HC.out.mono ?_;rintro e w3 ⟨rfl,h1,h2⟩;have HW3:=h_ h1;have HK3:=h_ (HK1.out.trans h2);clear h1 h2 HC z0 z1 z2 z3 z4 z5 z6 z7 z8;go_wp2_with fail;go_end0;exact ⟨rfl,HW3.out,HK3.out⟩
  ·have HST:=h_ (HST0 (by decide) (by decide));clear HST0 hdn;go_enter Tryz.func95,Tryz.ntmps95;go_upto_region 1 with fail;rw [<-hW1,<-hg1];clear hW1 hg1;have HC:=h_ (HST.out ⟨#[112,97,114,97,108,108,101,108]⟩ W1 HW1.out (by decide) (by decide))
   have HFN:Hid (ind n ((⟨#[112,97,114,97,108,108,101,108]⟩:ByteArray).data.toList++32::(N0.data.toList++32::[123]))++(pvT (n+1) []++(BT++ind n [125]))=nodeT n X):=by
    show _=_;rw [<-HXE.out,HXS.out,HNM.out];unfold GN.s nodeT;rw [if_neg (by decide),HBT.out,ss_map];simp only [pvT,List.nil_append,a_];rfl
   rw [HFN.out] at HC;have z0:=HB1.out.c 0 rfl;have z1:=HB1.out.c 1 rfl;have z2:=HB1.out.c 2 rfl;have z3:=HB1.out.c 3 rfl;have z4:=HB1.out.c 4 rfl;have z5:=HB1.out.c 5 rfl;have z6:=HB1.out.c 6 rfl;have z7:=HB1.out.c 7 rfl;have z8:=HB1.out.c 8 rfl;clear HB1 HW1 HST;go_wp2_with fail;refine HC.out.mono ?_;rintro e w3 ⟨rfl,h1,h2⟩;have HW3:=h_ h1;have HK3:=h_ (HK1.out.trans h2);clear h1 h2 HC z0 z1 z2 z3 z4 z5 z6 z7 z8;go_wp2_with fail;go_end0;exact ⟨rfl,HW3.out,HK3.out⟩
  ·have HST:Hid True:=trivial;have HNO:=h_ (And.intro HNMO.out (hdn (by decide)));have HN2:=h_ (And.intro (HSZ.out _ _ HNM.out HNO.out.1) (HSZ.out _ _ HDM.out HNO.out.2));clear HST0 hdn HSZ;go_enter Tryz.func95,Tryz.ntmps95;go_upto_region 1 with fail;rw [<-hW1,<-hg1];clear hW1 hg1
   obtain ⟨W2,hW2⟩:∃W,W=W1.alloc (.cells #[.string ⟨#[104,105,115,116,111,114,121]⟩,.string N0,.string ⟨#[45,62]⟩,.string D0,.string ⟨#[59]⟩] 9):=⟨_,rfl⟩
   obtain ⟨g2,hg2⟩:∃g,g=W1.heap.size:=⟨_,rfl⟩
   have hal:Below W1.heap.size W1 W2:=by rw [hW2];exact (b_ _ W1).alloc (n_ _) _
   have HC:=h_ (pline_any w0 W2 b n g2 5 T [⟨#[104,105,115,116,111,114,121]⟩,N0,⟨#[45,62]⟩,D0,⟨#[59]⟩] (HW1.out.below hal) (by rw [hW2,hg2];exact CB.new W1 _ [.string ⟨#[104,105,115,116,111,114,121]⟩,.string N0,.string ⟨#[45,62]⟩,.string D0,.string ⟨#[59]⟩]) rfl (by have:=HW1.out.lt;omega) (by
    intro s hs;simp only [List.mem_cons,List.not_mem_nil,or_false] at hs;rcases hs with hs|hs|hs|hs|hs
    ·rw [hs];decide
    ·rw [hs];exact HN2.out.1
    ·rw [hs];decide
    ·rw [hs];exact HN2.out.2
    ·rw [hs];decide) (by decide) (by have:=HNN.out;omega))
   have HFN:Hid (ind n (ptT [] (wds [⟨#[104,105,115,116,111,114,121]⟩,N0,⟨#[45,62]⟩,D0,⟨#[59]⟩]))=nodeT n X):=by
    show _=_;rw [<-HXE.out,HXS.out];unfold GN.s nodeT;rw [if_pos (by decide),<-pt_hist (pw_kw (nodeW_ok (by decide))) (pw_name HNO.out.1) (pw_name HNO.out.2)];simp only [wds,List.map_cons,List.map_nil,HNM.out,HDM.out];rfl
   rw [HFN.out] at HC;have HK2:Hid (Wk w0.heap.size b w W2):=HK1.out.trans (Wk.of HW1.out.bl.size hal);have z0:=HB1.out.c 0 rfl;have z1:=HB1.out.c 1 rfl;have z3:=HB1.out.c 3 rfl;clear hal HB1 HW1 HK1 HST;go_wp2_with fail;rw [<-hW2,<-hg2];clear hW2 hg2 z0 z1 z3;refine HC.out.mono ?_;rintro e w3 ⟨rfl,h1,h2⟩;have HW3:=h_ h1;have HK3:=h_ (HK2.out.trans h2);clear h1 h2 HC HK2;go_wp2_with fail;go_end0;exact ⟨rfl,HW3.out,HK3.out⟩
  ·have HST:Hid True:=trivial;have HNO:=h_ (And.intro HNMO.out (hdn (by decide)));have HN2:=h_ (And.intro (HSZ.out _ _ HNM.out HNO.out.1) (HSZ.out _ _ HDM.out HNO.out.2));clear HST0 hdn HSZ;go_enter Tryz.func95,Tryz.ntmps95;go_upto_region 1 with fail;rw [<-hW1,<-hg1];clear hW1 hg1
   obtain ⟨W2,hW2⟩:∃W,W=W1.alloc (.cells #[.string ⟨#[100,101,101,112]⟩,.string N0,.string ⟨#[45,62]⟩,.string D0,.string ⟨#[59]⟩] 9):=⟨_,rfl⟩
   obtain ⟨g2,hg2⟩:∃g,g=W1.heap.size:=⟨_,rfl⟩
   have hal:Below W1.heap.size W1 W2:=by rw [hW2];exact (b_ _ W1).alloc (n_ _) _
   have HC:=h_ (pline_any w0 W2 b n g2 5 T [⟨#[100,101,101,112]⟩,N0,⟨#[45,62]⟩,D0,⟨#[59]⟩] (HW1.out.below hal) (by rw [hW2,hg2];exact CB.new W1 _ [.string ⟨#[100,101,101,112]⟩,.string N0,.string ⟨#[45,62]⟩,.string D0,.string ⟨#[59]⟩]) rfl (by have:=HW1.out.lt;omega) (by
    intro s hs;simp only [List.mem_cons,List.not_mem_nil,or_false] at hs;rcases hs with hs|hs|hs|hs|hs
    ·rw [hs];decide
    ·rw [hs];exact HN2.out.1
    ·rw [hs];decide
    ·rw [hs];exact HN2.out.2
    ·rw [hs];decide) (by decide) (by have:=HNN.out;omega))
   have HFN:Hid (ind n (ptT [] (wds [⟨#[100,101,101,112]⟩,N0,⟨#[45,62]⟩,D0,⟨#[59]⟩]))=nodeT n X):=by
    show _=_;rw [<-HXE.out,HXS.out];unfold GN.s nodeT;rw [if_pos (by decide),<-pt_hist (pw_kw (nodeW_ok (by decide))) (pw_name HNO.out.1) (pw_name HNO.out.2)];simp only [wds,List.map_cons,List.map_nil,HNM.out,HDM.out];rfl
   rw [HFN.out] at HC;have HK2:Hid (Wk w0.heap.size b w W2):=HK1.out.trans (Wk.of HW1.out.bl.size hal);have z0:=HB1.out.c 0 rfl;have z1:=HB1.out.c 1 rfl;have z3:=HB1.out.c 3 rfl;clear hal HB1 HW1 HK1 HST;go_wp2_with fail;rw [<-hW2,<-hg2];clear hW2 hg2 z0 z1 z3;refine HC.out.mono ?_;rintro e w3 ⟨rfl,h1,h2⟩;have HW3:=h_ h1;have HK3:=h_ (HK2.out.trans h2);clear h1 h2 HC HK2;go_wp2_with fail;go_end0;exact ⟨rfl,HW3.out,HK3.out⟩
end Go.Proofs.YtpgeidpfhakgaaaGreatDoor
namespace Go.Proofs.YtpgeidpfhakgaaaGreatDoor
open Go.RowKit
theorem chartT_ne (c:SyChart):chartT c≠[]:=by
 obtain ⟨vs,k,nm,ini,dft,en,le,mo,ks,p⟩:=c;unfold chartT;simp [ind,wChart]
theorem print_any (w:World) (c:GC) (xs:List Value) (hE:Ee w) (hx:DxsAt w (gChart c) xs) (hr:c.rng) (hl:c.root.len) :
  Calls Tryz.prog 13 #[.agg xs.toArray] w λ e w'=>e=.returned (.tuple #[.string ⟨(prR c).1.toArray⟩,.int .i64 (prR c).2])/\Below w.heap.size w w':=by
 have HIT0:=λ (W:World) (hb:Below w.heap.size w W)=>istree_any W c xs (hE.below hb) (hx.below hb) hr hl
 obtain ⟨X,hX⟩:∃X,prR c=X:=⟨_,rfl⟩
 have HR0:Hid (X=if okC c=true then (if (chartT c.s).length<=16384 then (chartT c.s,0) else ([],2)) else ([],22)):=by
  show _=_;rw [<-hX];rfl
 have HNE:=h_ (chartT_ne c.s)
 obtain ⟨CT,hCT⟩:∃T,chartT c.s=T:=⟨_,rfl⟩
 rw [hCT] at HR0 HNE;rw [hX];clear hX
 have HOK:okC c=true->c.vars.all okV=true/\c.root.kind=1/\okN 12 c.root=true:=λ h=>by
  unfold okC at h;simp only [Bool.and_eq_true,decide_eq_true_eq] at h;exact ⟨h.1.1.1.1.1.2,h.1.1.1.1.2,h.1.1.1.2⟩
 obtain ⟨qc,hqc⟩:∃q,okC c=q:=⟨_,rfl⟩
 rw [hqc] at HR0 HOK HIT0;obtain ⟨vs,k,nm,ini,dft,en,le,mo,ks,p⟩:=c;obtain ⟨hrv,hrn⟩:=hr;simp only [GN.kind] at hrv hrn hl HOK;unfold gChart at hx;obtain ⟨vx,xs,rfl,dv,dn⟩:=hx.uncons
 have HBD0:=λ (BT:List UInt8) (hBT:iniT 1 ini++(clT 1 wEnter (en.map GA.s)++(clT 1 wLeave (le.map GA.s)++(mvsT 1 (mo.map GM.s)++nodesT 1 (ks.map GN.s))))=BT) (h:qc=true) (w2:World) (hb:Below w.heap.size w w2) (b:Nat) (W:World) (T':List UInt8) (hw:WS w2 W b T' 1 ⟨#[]⟩)=>by
  have hok:=(HOK h).2.2;have hk1:=(HOK h).2.1;rw [okN,if_neg (by omega)] at hok;simp only [Bool.and_eq_true] at hok;obtain ⟨_,⟨⟨⟨⟨⟨_,_⟩,o1⟩,o2⟩,o3⟩,o4⟩,o5⟩:=hok;have z:=pbody_any w2 W b 1 11 T' k p nm ini dft en le mo ks xs (hE.below hb) hw (dn.below hb) (by decide) o1 o2 o3 o4 o5 hrn (λ i a _=>pn_all w2 b (hE.below hb) 11 a);rw [hBT] at z;exact z
 have HNO:qc=true->isNm nm=true:=λ h=>by
  have hok:=(HOK h).2.2;rw [okN,Bool.and_eq_true] at hok;exact hok.1
 obtain ⟨A1,A2,A3,A4,c1,c2,c3,c4,rfl,_⟩:=node_v dn;obtain ⟨A0,c0,rfl,hc1,hc2⟩:=DxAt.slice (show DxAt w (.row 74 3 vs.length (vs.flatMap dvVar)) vx from dv)
 obtain ⟨N0,hN0⟩:∃N:ByteArray,(⟨nm.toArray⟩:ByteArray)=N:=⟨_,rfl⟩
 obtain ⟨I0,hI0⟩:∃N:ByteArray,(⟨ini.toArray⟩:ByteArray)=N:=⟨_,rfl⟩
 obtain ⟨D0,hD0⟩:∃N:ByteArray,(⟨dft.toArray⟩:ByteArray)=N:=⟨_,rfl⟩
 have eN:txV nm=.string N0:=by rw [<-hN0];rfl
 have eI:txV ini=.string I0:=by rw [<-hI0];rfl
 have eD:txV dft=.string D0:=by rw [<-hD0];rfl
 have hNL:N0.data.toList=nm:=by rw [<-hN0]
 rw [eN,eI,eD] at HBD0 HIT0 ⊢
 obtain ⟨BT,hBT⟩:∃BT,iniT 1 ini++(clT 1 wEnter (en.map GA.s)++(clT 1 wLeave (le.map GA.s)++(mvsT 1 (mo.map GM.s)++nodesT 1 (ks.map GN.s))))=BT:=⟨_,rfl⟩
 have HCT:Hid (([]:List UInt8)++(ind 0 ((⟨#[99,104,97,114,116]⟩:ByteArray).data.toList++32::(N0.data.toList++32::[123]))++(pvT (0+1) vs++(BT++ind 0 [125])))=CT):=by
  show _=_;rw [<-hCT,<-hBT,hNL];unfold GC.s GN.s chartT;simp only;rw [ss_map,pvT_one];simp only [List.nil_append,a_];rfl
 have HST0:=λ (h:qc=true) (w2:World) (hb:Below w.heap.size w w2) (b:Nat) (W:World) (hw:WS w2 W b [] 0 ⟨#[]⟩) =>
  pstate_any w2 W b 0 [] BT ⟨#[99,104,97,114,116]⟩ k p N0 I0 D0 A1 A2 A3 A4 A0 en.length le.length mo.length ks.length c1 c2 c3 c4 c0 vs (hE.below hb) hw (by decide) (dv.below hb) (λ v hv=>by
   have:=List.all_eq_true.1 (HOK h).1 v hv;unfold okV at this;rw [Bool.and_eq_true] at this
   exact this.1) hrv (by decide) (by decide) (by rw [hNL];exact HNO h) (λ W' T' hw'=>HBD0 BT hBT h w2 hb b W' T' hw')
 rw [HCT.out] at HST0
 obtain ⟨n0,hn0⟩:∃n,vs.length=n:=⟨_,rfl⟩
 obtain ⟨n1,hn1⟩:∃n,en.length=n:=⟨_,rfl⟩
 obtain ⟨n2,hn2⟩:∃n,le.length=n:=⟨_,rfl⟩
 obtain ⟨n3,hn3⟩:∃n,mo.length=n:=⟨_,rfl⟩
 obtain ⟨n4,hn4⟩:∃n,ks.length=n:=⟨_,rfl⟩
 obtain ⟨K,hK⟩:∃K,k=K:=⟨_,rfl⟩
 rw [hn0,hn1,hn2,hn3,hn4,hK] at HST0 HIT0 ⊢;have HST:=h_ HST0;have HIT:=h_ HIT0
 obtain ⟨W1,hW1⟩:∃W,W=w.alloc (.cells #[.slice A0 n0 c0,.int .i64 K,.string N0,.string I0,.string D0,.slice A1 n1 c1,.slice A2 n2 c2,.slice A3 n3 c3,.slice A4 n4 c4,.int .i64 p] 29):=⟨_,rfl⟩
 obtain ⟨g1,hg1⟩:∃g,g=w.heap.size:=⟨_,rfl⟩
 have hal:Below w.heap.size w W1:=by rw [hW1];exact (b_ _ w).alloc (n_ _) _
 have HX:Hid (CB W1 g1 29 [.slice A0 n0 c0,.int .i64 K,.string N0,.string I0,.string D0,.slice A1 n1 c1,.slice A2 n2 c2,.slice A3 n3 c3,.slice A4 n4 c4,.int .i64 p]):=by rw [hW1,hg1];exact CB.new w _ [.slice A0 n0 c0,.int .i64 K,.string N0,.string I0,.string D0,.slice A1 n1 c1,.slice A2 n2 c2,.slice A3 n3 c3,.slice A4 n4 c4,.int .i64 p]
 have HB:=h_ hal;have HLW:=h_ hal.size
 have SEE:Hid (∀W,Below W1.heap.size W1 W->W.cell? ⟨g1,0,none⟩=some (.slice A0 n0 c0)/\W.cell? ⟨g1,1,none⟩=some (.int .i64 K)/\W.cell? ⟨g1,2,none⟩=some (.string N0)/\W.cell? ⟨g1,3,none⟩=some (.string I0)/\W.cell? ⟨g1,4,none⟩=some (.string D0)/\W.cell? ⟨g1,5,none⟩=some (.slice A1 n1 c1)/\W.cell? ⟨g1,6,none⟩=some (.slice A2 n2 c2)/\W.cell? ⟨g1,7,none⟩=some (.slice A3 n3 c3)/\W.cell? ⟨g1,8,none⟩=some (.slice A4 n4 c4)/\W.cell? ⟨g1,9,none⟩=some (.int .i64 p)):=λ W hb=>by
  have z:=HX.out.below hb;exact ⟨z.c 0 rfl,z.c 1 rfl,z.c 2 rfl,z.c 3 rfl,z.c 4 rfl,z.c 5 rfl,z.c 6 rfl,z.c 7 rfl,z.c 8 rfl,z.c 9 rfl⟩
 clear HIT0 HST0 HBD0 HNO HOK hE hx hrv hrn hl dv dn hc1 hc2 hqc hCT hBT HCT hN0 hI0 hD0 eN eI eD hNL hn0 hn1 hn2 hn3 hn4 hK hal;obtain ⟨y0,y1,y2,y3,y4,y5,y6,y7,y8,y9⟩:=SEE.out W1 (b_ _ W1);go_enter Tryz.func13,Tryz.ntmps13;go_upto_region 1 with fail;rw [<-hW1,<-hg1];clear hW1 hg1;go_wp2_with fail;refine (HIT.out W1 HB.out).mono ?_;rintro e w2 ⟨rfl,hb⟩;have HF2:=h_ hb;have HW2:=h_ (HB.out.trans (hb.mono HLW.out));clear hb HIT y0 y1 y2 y3 y4 y5 y6 y7 y8 y9;cases qc
 ·have HR:Hid (X=([],22)):=by
   show _=_;rw [HR0.out];rfl
  clear HR0 HST SEE HX;go_wp2_with fail;go_ret2;exact ⟨by rw [HR.out];rfl,HW2.out⟩
 ·have HR1:Hid (X=if CT.length<=16384 then (CT,0) else ([],2)):=by
   show _=_;rw [HR0.out];rfl
  obtain ⟨W3,hW3⟩:∃W,W=w2.alloc (.cells #[.pointer none,.slice none 0 0,.int .i64 0,.string ⟨#[]⟩] 69):=⟨_,rfl⟩
  obtain ⟨g3,hg3⟩:∃g,g=w2.heap.size:=⟨_,rfl⟩
  have hb3:Below w2.heap.size w2 W3:=by rw [hW3];exact (b_ _ w2).alloc (n_ _) _
  have HWS:Hid (WS w2 W3 g3 [] 0 ⟨#[]⟩):=⟨hb3,[],⟨λ _=>rfl,λ h=>(by cases h),by decide⟩,by rw [hW3,hg3];exact WC.new w2⟩
  obtain ⟨u0,u1,u2,u3,u4,u5,u6,u7,u8,u9⟩:=SEE.out W3 (HF2.out.trans (hb3.mono HF2.out.size));have HS3:=h_ (HST.out rfl w2 HW2.out g3 W3 HWS.out);clear hb3 HR0 HST SEE HX;go_upto_region 4 with fail;rw [<-hW3,<-hg3];clear hW3 hg3;go_wp2_with fail;refine HS3.out.mono ?_;rintro e w4 ⟨rfl,hws,hwk⟩;have HW4:=h_ (HW2.out.trans (hws.bl.mono HW2.out.size));obtain ⟨l,hwl,hwc⟩:=hws.wc;have HWL:=h_ hwl;have HWC:=h_ hwc;have HLN:=h_ (pblen_any w4 _ g3 l 0 ⟨#[]⟩ hwc)
  obtain ⟨LV,hLV⟩:∃L:Int,(l.length:Int)=L:=⟨_,rfl⟩
  rw [hLV] at HLN
  obtain ⟨q,hq⟩:∃q,decide (LV > 16384)=q:=⟨_,rfl⟩
  have hql:decide (l.length > 16384)=q:=by
   rw [<-hq,<-hLV]
   by_cases z:l.length > 16384
   ·rw [decide_eq_true z,decide_eq_true (by omega)]
   ·rw [decide_eq_false z,decide_eq_false (by omega)]
  clear hws hwk hwl hwc HS3 HWS hLV u0 u1 u2 u3 u4 u5 u6 u7 u8 u9;go_wp2_with fail;refine HLN.out.mono ?_;rintro e w5 ⟨rfl,rfl⟩;cases q
  ·have hle:CT.length<=16384:=by
    rcases Nat.lt_or_ge 16384 CT.length with h|h
    ·have h1:=HWL.out.2.1 h;exact absurd h1 (of_decide_eq_false hql)
    ·exact h
   have hlt:l=CT:=HWL.out.1 hle
   have HR:Hid (X=(CT,0)):=by
    show _=_;rw [HR1.out,if_pos hle]
   have HSR:=h_ (pbstring_any w5 _ g3 l 0 ⟨#[]⟩ HWC.out (by rw [hlt];exact HNE.out));rw [hlt] at HSR;clear hle hlt hql HWL HWC HLN HR1;go_wp2_with fail;refine HSR.out.mono ?_;rintro e w6 ⟨rfl,hb⟩;have HF:=h_ (HW4.out.trans (hb.mono HW2.out.size));clear hb HSR;go_wp2_with fail;go_ret2;exact ⟨by rw [HR.out];rfl,HF.out⟩
  ·have HR:Hid (X=([],2)):=by
    show _=_;rw [HR1.out,if_neg];intro h;have h1:=HWL.out.1 h;have h2:=of_decide_eq_true hql;rw [h1] at h2;omega
   clear hql HWL HWC HLN HR1;go_wp2_with fail;go_ret2;exact ⟨by rw [HR.out];rfl,HW4.out⟩
end Go.Proofs.YtpgeidpfhakgaaaGreatDoor
namespace Go.Proofs.YtpgeidpfhakgaaaGreatDoor
open Go.RowKit
theorem pair_chart (w:World) (y0 y1 y2 y3 y4 y5 y6 y7 y8 y9:Value) (c p:Int):∃(W:World) (g1 g2:Nat),W=(w.alloc (.cells #[y0,y1,y2,y3,y4,y5,y6,y7,y8,y9] 29)).alloc (.cells #[.int .i64 c,.int .i64 p] 59) /\
  g1=w.heap.size/\g2=w.heap.size+1/\Hid (CB W g1 29 [y0,y1,y2,y3,y4,y5,y6,y7,y8,y9])/\Hid (FtB W g2 (.int .i64 c) (.int .i64 p))/\Hid (Below w.heap.size w W):=by
 have e:(w.alloc (.cells #[y0,y1,y2,y3,y4,y5,y6,y7,y8,y9] 29)).heap.size=w.heap.size+1:=by simp
 refine ⟨_,_,_,rfl,rfl,rfl,(CB.new w _ [y0,y1,y2,y3,y4,y5,y6,y7,y8,y9]).alloc _,?_,((b_ _ w).alloc (n_ _) _).alloc (by omega) _⟩;rw [<-e];exact FtB.new _ _ _
end Go.Proofs.YtpgeidpfhakgaaaGreatDoor
namespace Go.Proofs.YtpgeidpfhakgaaaGreatDoor
open Go.RowKit
theorem chart8_any (w:World) (s:ByteArray) (hE:Ee w) {R:Rs SyChart} (hR:syF s.data.toList=R) :
  Calls Tryz.prog 27 #[.string s] w λ e w'=>∃y0 y1 y2 y3 y4 y5 y6 y7 y8 y9,e=.returned (.tuple #[.agg #[y0,y1,y2,y3,y4,y5,y6,y7,y8,y9],.agg #[.int .i64 R.fc,.int .i64 R.fp]])/\(∀u∈[y0,y1,y2,y3,y4,y5,y6,y7,y8,y9],u.oneCell'=true)/\DxsAt w' (gChart R.chart.g) [y0,y1,y2,y3,y4,y5,y6,y7,y8,y9]/\(∀c p,R=.bad c p->c≠0)/\Below w.heap.size w w':=by
 refine (sparse_any w s hE.vr hE.vs).mono ?_;rw [hR];rintro e w' ⟨ys,rfl,⟨F,hr,_,_⟩,hl,hb,hz⟩;have zo:=hr.ones;obtain ⟨y0,y1,y2,y3,y4,y5,y6,y7,y8,y9,rfl⟩:=cells10 hl;exact ⟨y0,y1,y2,y3,y4,y5,y6,y7,y8,y9,rfl,zo,chart_dx hr,hz,hb⟩
end Go.Proofs.YtpgeidpfhakgaaaGreatDoor
namespace Go.Proofs.YtpgeidpfhakgaaaGreatDoor
open Go.RowKit
theorem chart_cells {w:World} {c:GC} {xs:List Value} (hx:DxsAt w (gChart c) xs):xs.length=10:=by
 have h1:=hx.len
 have h2:(gChart c).length=10:=by
  show (dvVars c.vars::gNode c.root).length=10;rw [List.length_cons,gNode_len]
 omega
theorem fright_any (w:World) (c:GC) (xs:List Value) (hE:Ee w) (hx:DxsAt w (gChart c) xs) (hr:c.rng) (hl:c.root.len) :
  Calls Tryz.prog 12 #[.agg xs.toArray] w λ e w'=>e=.returned (.int .i64 (prR c).2)/\Below w.heap.size w w':=by
 have HPR:=h_ (λ (W:World) (hb:Below w.heap.size w W)=>print_any W c _ (hE.below hb) (hx.below hb) hr hl);obtain ⟨x0,x1,x2,x3,x4,x5,x6,x7,x8,x9,rfl⟩:=cells10 (chart_cells hx)
 obtain ⟨W0,hW0⟩:∃W,W=w.alloc (.cells #[x0,x1,x2,x3,x4,x5,x6,x7,x8,x9] 29):=⟨_,rfl⟩
 obtain ⟨g0,hg0⟩:∃g,g=w.heap.size:=⟨_,rfl⟩
 have hal:Below w.heap.size w W0:=by rw [hW0];exact (b_ _ w).alloc (n_ _) _
 have HB0:=h_ hal
 have HC0:Hid (CB W0 g0 29 [x0,x1,x2,x3,x4,x5,x6,x7,x8,x9]):=by rw [hW0,hg0];exact CB.new w _ [x0,x1,x2,x3,x4,x5,x6,x7,x8,x9]
 have ro:∀u∈[x0,x1,x2,x3,x4,x5,x6,x7,x8,x9],u.oneCell'=true:=hx.ones;have HQ:=h_ (HPR.out W0 hal)
 obtain ⟨P,hP⟩:∃P,prR c=P:=⟨_,rfl⟩
 rw [hP] at HQ ⊢;clear hP hE hx hr hl hal HPR;have o0:=ro x0 (by simp);have o1:=ro x1 (by simp);have o2:=ro x2 (by simp);have o3:=ro x3 (by simp);have o4:=ro x4 (by simp);have o5:=ro x5 (by simp);have o6:=ro x6 (by simp);have o7:=ro x7 (by simp);have o8:=ro x8 (by simp);have o9:=ro x9 (by simp);clear ro;go_enter Tryz.func12,Tryz.ntmps12;go_upto_region 1 with fail;rw [<-hW0,<-hg0];clear hW0 hg0 o0 o1 o2 o3 o4 o5 o6 o7 o8 o9;have u0:=HC0.out.c 0 rfl;have u1:=HC0.out.c 1 rfl;have u2:=HC0.out.c 2 rfl;have u3:=HC0.out.c 3 rfl;have u4:=HC0.out.c 4 rfl;have u5:=HC0.out.c 5 rfl;have u6:=HC0.out.c 6 rfl;have u7:=HC0.out.c 7 rfl;have u8:=HC0.out.c 8 rfl;have u9:=HC0.out.c 9 rfl;go_wp2_with fail;refine HQ.out.mono ?_;rintro e w1 ⟨rfl,hb1⟩;have HB1:=h_ (HB0.out.trans (hb1.mono HB0.out.size));clear hb1 HQ HC0 HB0 u0 u1 u2 u3 u4 u5 u6 u7 u8 u9;go_wp2_with fail;go_ret;exact ⟨rfl,HB1.out⟩
theorem prR_ok {c:GC} (h:(prR c).2=0):okN 12 c.root=true/\nN c.root<=64:=by
 unfold prR at h
 by_cases hk:okC c=true
 ·unfold okC at hk;simp only [Bool.and_eq_true,decide_eq_true_eq] at hk;exact ⟨hk.1.1.1.2,hk.1.1.2⟩
 ·rw [if_neg hk] at h;exact absurd h (by decide)
theorem gChart_root {w:World} {c:GC} {x0:Value} {xs:List Value} (h:DxsAt w (gChart c) (x0::xs)):DxsAt w (gNode c.root) xs:=by
 unfold gChart at h;obtain ⟨y,ys,e,_,d2⟩:=h.uncons;injection e with _ e;rw [e];exact d2
structure FlR (w w':World) (c:GC) (v:Value):Prop where
 no:(prR c).2≠0->v=.slice none 0 0
 yes:(prR c).2=0->SpO w' w.heap.size v (layN c.root (-1) 0 0)/\nN c.root<=64
 bl:Below w.heap.size w w'
theorem flat_any (w:World) (c:GC) (xs:List Value) (hE:Ee w) (hx:DxsAt w (gChart c) xs) (hr:c.rng) (hl:c.root.len) :
  Calls Tryz.prog 19 #[.agg xs.toArray] w λ e w'=>∃v,e=.returned (.tuple #[v,.int .i64 (prR c).2])/\FlR w w' c v:=by
 have HPR:=h_ (λ (W:World) (hb:Below w.heap.size w W)=>fright_any W c _ (hE.below hb) (hx.below hb) hr hl);obtain ⟨x0,x1,x2,x3,x4,x5,x6,x7,x8,x9,rfl⟩:=cells10 (chart_cells hx)
 obtain ⟨W0,hW0⟩:∃W,W=w.alloc (.cells #[x0,x1,x2,x3,x4,x5,x6,x7,x8,x9] 29):=⟨_,rfl⟩
 obtain ⟨g0,hg0⟩:∃g,g=w.heap.size:=⟨_,rfl⟩
 have hal:Below w.heap.size w W0:=by rw [hW0];exact (b_ _ w).alloc (n_ _) _
 have HB0:=h_ hal
 have HC0:Hid (CB W0 g0 29 [x0,x1,x2,x3,x4,x5,x6,x7,x8,x9]):=by rw [hW0,hg0];exact CB.new w _ [x0,x1,x2,x3,x4,x5,x6,x7,x8,x9]
 have ro:∀u∈[x0,x1,x2,x3,x4,x5,x6,x7,x8,x9],u.oneCell'=true:=hx.ones;have HQ:=h_ (HPR.out W0 hal);have HX:=h_ (gChart_root hx);have HR:=h_ hr.2
 obtain ⟨P,hP⟩:∃P,(prR c).2=P:=⟨_,rfl⟩
 have HP:=h_ hP;rw [hP] at HQ ⊢;clear hP hE hx hr hl hal HPR;have o0:=ro x0 (by simp);have o1:=ro x1 (by simp);have o2:=ro x2 (by simp);have o3:=ro x3 (by simp);have o4:=ro x4 (by simp);have o5:=ro x5 (by simp);have o6:=ro x6 (by simp);have o7:=ro x7 (by simp);have o8:=ro x8 (by simp);have o9:=ro x9 (by simp);clear ro;go_enter Tryz.func19,Tryz.ntmps19;go_upto_region 1 with fail;rw [<-hW0,<-hg0];clear hW0 hg0 o0 o1 o2 o3 o4 o5 o6 o7 o8 o9;have u0:=HC0.out.c 0 rfl;have u1:=HC0.out.c 1 rfl;have u2:=HC0.out.c 2 rfl;have u3:=HC0.out.c 3 rfl;have u4:=HC0.out.c 4 rfl;have u5:=HC0.out.c 5 rfl;have u6:=HC0.out.c 6 rfl;have u7:=HC0.out.c 7 rfl;have u8:=HC0.out.c 8 rfl;have u9:=HC0.out.c 9 rfl;go_wp2_with fail;refine HQ.out.mono ?_;rintro e w1 ⟨rfl,hb1⟩;have HB1:=h_ (HB0.out.trans (hb1.mono HB0.out.size));have HC1:=h_ (HC0.out.below hb1);clear hb1 HQ HC0 HB0 u0 u1 u2 u3 u4 u5 u6 u7 u8 u9
 by_cases hz:P=0
 ·subst hz;obtain ⟨hok,hn⟩:=prR_ok HP.out
  obtain ⟨W2,hW2⟩:∃W,W=w1.alloc (.cells #[.slice none 0 0] 85):=⟨_,rfl⟩
  obtain ⟨g2,hg2⟩:∃g,g=w1.heap.size:=⟨_,rfl⟩
  have hal2:Below w1.heap.size w1 W2:=by rw [hW2];exact (b_ _ w1).alloc (n_ _) _
  have HC2:=h_ (HC1.out.below hal2)
  have HT:Hid (TS w W2 g2 [] (.slice none 0 0)):=by
   refine ⟨by rw [hW2,hg2];exact CB.new w1 _ [.slice none 0 0],World.ownsRow_nil _ _ _ _,(λ e=>by cases e),HB1.out.trans (hal2.mono HB1.out.size),by rw [hg2];exact HB1.out.size⟩
  have HV:=h_ (vis_all w g2 12 c.root hok W2 [] _ (-1) _ HT.out HX.out HR.out (.inl rfl) (by decide) (by show 0+_<=_;omega));have HN:=h_ hn;clear hok hn hal2 HT;rw [List.nil_append,show depA [] (-1)=0 from rfl,show ([]:List Spt).length=0 from rfl] at HV;go_upto_region 5 with fail;rw [<-hW2,<-hg2];clear hW2 hg2;have u1:=HC2.out.c 1 rfl;have u2:=HC2.out.c 2 rfl;have u3:=HC2.out.c 3 rfl;have u4:=HC2.out.c 4 rfl;have u5:=HC2.out.c 5 rfl;have u6:=HC2.out.c 6 rfl;have u7:=HC2.out.c 7 rfl;have u8:=HC2.out.c 8 rfl;have u9:=HC2.out.c 9 rfl;go_wp2_with fail;refine HV.out.mono ?_;rintro e w3 ⟨rfl,v3,hT3⟩;have HT3:=h_ hT3;have y0:=hT3.c.c 0 rfl;clear hT3 HV HC2 u1 u2 u3 u4 u5 u6 u7 u8 u9;go_wp2_with fail;go_ret2;exact ⟨v3,rfl,λ h=>absurd HP.out h,λ _=>⟨HT3.out.r,HN.out⟩,HT3.out.bl⟩
 ·have h2:(P != 0)=true:=by simpa [bne] using hz
  have HZ:=h_ hz;clear hz;go_wp2_with fail;go_ret2;exact ⟨_,rfl,λ _=>rfl,λ h=>absurd (HP.out.symm.trans h) HZ.out,HB1.out⟩
def sm9T:ByteArray:=⟨#[99,104,97,114,116,32,99,32,123,32,105,110,105,116,105,97,108,32,97,59,32,115,116,97,116,101,32,97,32,123,32,105,110,105,116,105,97,108,32,98,59,32,115,116,97,116,101,32,98,32,123,32,125,32,115,116,97,116,101,32,100,32,123,32,125,32,125,32,112,97,114,97,108,108,101,108,32,112,32,123,32,115,116,97,116,101,32,113,32,123,32,125,32,115,116,97,116,101,32,114,32,123,32,125,32,125,32,125]⟩
def sm9F (F:List Spt):Bool:=F.length==7&&(match F[4]? with|some s=>s.kind==2&&s.name == [112]&&s.par==0&&s.dep==1&&s.fin==7|none=>false)&&meetF F [2,3]==1&&inW F 6 4
def sm9C:Rs SyChart->Bool
 |.ok c _=>(prR c.g).2==0&&sm9F (layN c.g.root (-1) 0 0)
 |_=>false
set_option maxRecDepth 100000 in
theorem sm9_is:sm9C (syF sm9T.data.toList)=true:=by kernel_rfl
theorem sm9_of:∀{R:Rs SyChart},sm9C R=true->∃c s,R=.ok c s/\(prR c.g).2=0/\sm9F (layN c.g.root (-1) 0 0)=true:=by
 intro R h;unfold sm9C at h
 split at h
 ·rw [Bool.and_eq_true] at h;exact ⟨_,_,rfl,eq_of_beq h.1,h.2⟩
 ·cases h
theorem sm9F_of {F:List Spt} (h:sm9F F=true):F.length=7/\(∃s,F[4]?=some s/\s.kind=2/\s.name=[112]/\s.par=0/\s.dep=1/\s.fin=7)/\meetF F [2,3]=1/\inW F 6 4=true:=by
 unfold sm9F at h;simp only [Bool.and_eq_true] at h;obtain ⟨⟨⟨h1,h2⟩,h3⟩,h4⟩:=h;refine ⟨eq_of_beq h1,?_,eq_of_beq h3,h4⟩
 cases hs:F[4]? with
 |none=>rw [hs] at h2;cases h2
 |some s =>
  rw [hs] at h2;simp only [Bool.and_eq_true] at h2;obtain ⟨⟨⟨⟨a,b⟩,c⟩,d⟩,e⟩:=h2;exact ⟨s,rfl,eq_of_beq a,eq_of_beq b,eq_of_beq c,eq_of_beq d,eq_of_beq e⟩
theorem small9_any (w:World) (hE:Ee w) :
  Calls Tryz.prog 18 #[] w λ e w'=>e=.returned (.bool true)/\Below w.heap.size w w':=by
 obtain ⟨c,s,hR,hP,hF⟩:=sm9_of sm9_is;have hgd:=syF_good hR;have HC:=h_ (chart8_any w sm9T hE hR);simp only [Rs.fc,Rs.fp,Rs.chart] at HC;unfold sm9T at HC;have HPR:=h_ (λ (W:World) (hb:Below w.heap.size w W) (xs:List Value) (hx:DxsAt W (gChart c.g) xs)=>flat_any W c.g xs (hE.below hb) hx (good_rng hgd) (good_len hgd));rw [hP] at HPR;have HFF:=h_ (sm9F_of hF);have HPP:=h_ hP;clear hE hR hgd hF hP;go_enter Tryz.func18,Tryz.ntmps18;go_wp2_with fail;refine HC.out.mono ?_;rintro e w1 ⟨y0,y1,y2,y3,y4,y5,y6,y7,y8,y9,rfl,zo,hr,hz,hb⟩;obtain ⟨W2,ga2,gf2,hW,hg1,hg2,HC2,HF2,HB⟩:=pair_chart w1 y0 y1 y2 y3 y4 y5 y6 y7 y8 y9 0 0;have st:∀u∈[y0,y1,y2,y3,y4,y5,y6,y7,y8,y9],∀(w:World) (a:Addr),(store a u).run Tryz.prog w=stored Tryz.prog w a u .plain:=λ u hu w a=>run_store _ w a u .plain (zo u hu);have s0:=st y0 (by simp);have s1:=st y1 (by simp);have s2:=st y2 (by simp);have s3:=st y3 (by simp);have s4:=st y4 (by simp);have s5:=st y5 (by simp);have s6:=st y6 (by simp);have s7:=st y7 (by simp);have s8:=st y8 (by simp);have s9:=st y9 (by simp);have HB2:Hid (Below w.heap.size w W2):=hb.trans (HB.out.mono hb.size);have HP:=h_ (HPR.out W2 HB2.out _ (hr.below HB.out));clear st zo hb HB hr hz HC HPR;go_upto_region 2 with fail;rw [<-hW,<-hg2,<-hg1];clear hW hg1 hg2 s0 s1 s2 s3 s4 s5 s6 s7 s8 s9;have u0:=HC2.out.c 0 rfl;have u1:=HC2.out.c 1 rfl;have u2:=HC2.out.c 2 rfl;have u3:=HC2.out.c 3 rfl;have u4:=HC2.out.c 4 rfl;have u5:=HC2.out.c 5 rfl;have u6:=HC2.out.c 6 rfl;have u7:=HC2.out.c 7 rfl;have u8:=HC2.out.c 8 rfl;have u9:=HC2.out.c 9 rfl;go_wp2_with fail;refine HP.out.mono ?_;rintro e w3 ⟨v3,rfl,hf3⟩;have HB3:=h_ (HB2.out.trans (hf3.bl.mono HB2.out.size));have HF3:=h_ (HF2.out.below hf3.bl);have z0:=HF3.out.c0;obtain ⟨hsp,_⟩:=hf3.yes HPP.out
 obtain ⟨F,hF⟩:∃F,layN c.g.root (-1) 0 0=F:=⟨_,rfl⟩
 rw [hF] at hsp HFF;obtain ⟨hlen,⟨s4,hs4,k1,k2,k3,k4,k5⟩,hmt,hin⟩:=HFF.out;obtain ⟨g,cc,cur,rfl,h1,h2,_,_,_,hrow⟩:=hsp.row (by intro e;rw [e] at hlen;cases hlen);have q0:=hrow.k 4 s4 hs4;have q1:=hrow.n 4 s4 hs4;have q2:=hrow.p 4 s4 hs4;have q3:=hrow.d 4 s4 hs4;have q4:=hrow.f 4 s4 hs4;rw [k1] at q0;rw [k2,show txV [112]=.string ⟨#[112]⟩ from rfl] at q1;rw [k3] at q2;rw [k4] at q3;rw [k5] at q4;rw [hlen]
 have HW:Hid (∀W:World,Below w3.heap.size w3 W->Calls Tryz.prog 22 #[.slice (some ⟨g,0,none⟩) 7 cc,.int .i64 6,.int .i64 4] W λ e w'=>e=.returned (.bool true)/\w'=W):=λ W hb=>by
  have:=fwithin_any W g cc F 6 4 (hrow.below hb);rw [hin,hlen] at this;exact this
 have HM:Hid (Calls Tryz.prog 25 #[.slice (some ⟨g,0,none⟩) 7 cc,.slice (some ⟨w3.heap.size,0,none⟩) 2 2] (w3.alloc (.cells #[.int .i64 2,.int .i64 3] 3)) λ e w'=>e=.returned (.int .i64 1)/\Below w3.heap.size w3 w'):=by
  have:=fmeet_new w3 g cc F [2,3] hrow (by decide);rw [hmt,hlen] at this;exact this
 clear HP u0 u1 u2 u3 u4 u5 u6 u7 u8 u9 hf3 hsp hF hlen hs4 k1 k2 k3 k4 k5 hmt hin h1 h2 hrow HFF HPP;go_wp2_with fail;refine HM.out.mono ?_;rintro e w4 ⟨rfl,hb4⟩;have HB4:=h_ (HB3.out.trans (hb4.mono HB3.out.size));have HW4:=h_ (HW.out w4 hb4);clear hb4 HM HW HB3 HF3 q0 q1 q2 q3 q4 z0;go_wp2_with fail;refine HW4.out.mono ?_;rintro e w5 ⟨rfl,rfl⟩;go_wp2_with fail;go_ret;exact ⟨rfl,HB4.out⟩
end Go.Proofs.YtpgeidpfhakgaaaGreatDoor
namespace Go.Proofs.YtpgeidpfhakgaaaGreatDoor
open Go.RowKit Go.Deep Go.ChangeShapes Go.WideShapes
mutual
def GX.bn:GX->Nat
 |.mk _ _ _ _ l _=>1+GX.bns l
def GX.bns:List GX->Nat
 |[]=>0
 |x::l=>x.bn+GX.bns l
end
theorem nums_le {H:Type}:∀(l:List GX) (ds:List (DataW H)),l.length=ds.length->(∀(i:Nat) (x:GX) (d:DataW H),l[i]?=some x->ds[i]?=some d->x.bn<=Rows.uptoBulk d)->GX.bns l<=Rows.uptoBulkAll ds
 |[],[],_,_=>by rw [GX.bns];exact Nat.zero_le _
 |[],_::_,h,_=>by simp at h
 |_::_,[],h,_=>by simp at h
 |x::l,d::ds,h,hh=>by
  rw [GX.bns,Rows.uptoBulkAll];have h1:=hh 0 x d rfl rfl;have h2:=nums_le l ds (by simpa using h) (λ i y e hy he=>hh (i+1) y e (by simpa using hy) (by simpa using he));omega
theorem bulk_auy0 (a:Nat):1+0<=a+1:=by omega
theorem bulk_auy1 (a b:Nat):1+a<=a+b+1+1:=by omega
theorem open_tree8 {H:Type} {enc:TypeId×Value->H} {W:World}:∀(fuel:Nat) (cs:List Value) (y:DataW H×List MemPlace),DataW.trod enc Tryz.prog W 0 (λ _=>true) true fuel 40 cs=some y ->
  (∀m∈y.1.weights Tryz.prog 40,m<=140737488351232)->∃(x:GX) (v:EV),cs=v.cells/\GV W 0 W.heap.size x v/\x.rng/\x.fit/\x.bn<=Rows.uptoBulk y.1
 |0,cs,y,h,_=>by simp [DataW.trod] at h
 |fuel+1,cs,y,h,hw=>by
  obtain ⟨xs,n,hn,rfl,hl,hlen,hf⟩:=DataW.trod_struct Tryz.underlying40 h
  obtain rfl:fuel=n:=by omega
  have hl6:cs.length=6:=hl.trans (by kernel_rfl);have hx6:xs.length=6:=hlen;obtain ⟨c0,c1,c2,c3,c4,c5,rfl⟩:=list6 hl6;obtain ⟨y0,y1,y2,y3,y4,y5,rfl⟩:=list6 hx6
  have eI:Tryz.prog.cellsOf 3=1:=by kernel_rfl
  have eS:Tryz.prog.cellsOf 9=1:=by kernel_rfl
  have eL:Tryz.prog.cellsOf 38=1:=by kernel_rfl
  have eE:Tryz.prog.cellsOf 40=6:=by kernel_rfl
  have f0:DataW.trod enc Tryz.prog W 0 (λ _=>true) true fuel 3 [c0]=some y0:=by have h:=hf 0 _ rfl;simpa [eI,eS,eL] using h
  have f1:DataW.trod enc Tryz.prog W 0 (λ _=>true) true fuel 3 [c1]=some y1:=by have h:=hf 1 _ rfl;simpa [eI,eS,eL] using h
  have f2:DataW.trod enc Tryz.prog W 0 (λ _=>true) true fuel 9 [c2]=some y2:=by have h:=hf 2 _ rfl;simpa [eI,eS,eL] using h
  have f3:DataW.trod enc Tryz.prog W 0 (λ _=>true) true fuel 3 [c3]=some y3:=by have h:=hf 3 _ rfl;simpa [eI,eS,eL] using h
  have f4:DataW.trod enc Tryz.prog W 0 (λ _=>true) true fuel 38 [c4]=some y4:=by have h:=hf 4 _ rfl;simpa [eI,eS,eL] using h
  have f5:DataW.trod enc Tryz.prog W 0 (λ _=>true) true fuel 3 [c5]=some y5:=by have h:=hf 5 _ rfl;simpa [eI,eS,eL] using h
  clear h hf hl hlen;obtain ⟨n0,h0,_,r0⟩:=DataW.trod_int Tryz.underlying3 f0;obtain ⟨n1,h1,_,r1⟩:=DataW.trod_int Tryz.underlying3 f1;obtain ⟨s2,h2,e2,_⟩:=DataW.trod_string Tryz.underlying9 f2;obtain ⟨n3,h3,_,r3⟩:=DataW.trod_int Tryz.underlying3 f3;obtain ⟨n5,h5,_,r5⟩:=DataW.trod_int Tryz.underlying3 f5;injection h0 with h0;injection h1 with h1;injection h2 with h2;injection h3 with h3;injection h5 with h5;subst h0 h1 h2 h3 h5
  have hbk:Rows.uptoBulk y4.1+1<=Rows.uptoBulk (DataW.agg (List.map Prod.fst [y0,y1,y2,y3,y4,y5])):=by
   simp only [List.map_cons,List.map_nil,Rows.uptoBulk,Rows.uptoBulkAll];omega
  have hw':∀m,(m∈y2.1.weights Tryz.prog 9∨m∈y4.1.weights Tryz.prog 38)->m<=140737488351232:=by
   intro m hm;refine hw m ?_;simp only [DataW.weights,Tryz.underlying40,DataW.weightsEach,List.map_cons,List.map_nil,List.mem_append];rcases hm with hm|hm
   ·exact .inr (.inr (.inl hm))
   ·exact .inr (.inr (.inr (.inr (.inl hm))))
  have hs2:s2.data.toList.length<=140737488351232:=by
   refine hw' _ (.inl ?_);rw [e2];simp only [DataW.weights];exact List.mem_singleton.2 rfl
  rcases DataW.trod_slice Tryz.underlying38 f4 with ⟨hc,_⟩|⟨a,len,cap,elems,rest,n,hn,hc,rfl,_,hlc,hcm,hel,hi,_⟩
  ·injection hc with hc;subst hc
   exact ⟨.mk n0 n1 s2.data.toList n3 [] n5,⟨n0,n1,s2,n3,none,0,0,n5⟩,rfl,GV.leaf W 0 _ n0 n1 n3 n5 s2,by
    rw [GX.rng,GX.rngs,GX.fit,GX.fits,GX.bn,GX.bns]
    exact ⟨⟨wf_range r1,wf_range r3,hs2,trivial⟩,⟨by simp,trivial⟩,Nat.le_trans (bulk_auy0 _) hbk⟩⟩
  ·injection hc with hc;subst hc
   have each:∀i,i<len->∃z:GX×EV,W.cells? 0 (a.add (i*6)) 6=some z.2.cells/\GV W 0 W.heap.size z.1 z.2/\z.1.rng/\z.1.fit/\∀e,elems[i]?=some e->z.1.bn<=Rows.uptoBulk e.1:=by
    intro i hil;have h:=hi i hil;rw [List.getElem?_eq_getElem (by omega),eE] at h;obtain ⟨cs',h1,h2⟩:=Option.bind_eq_some_iff.1 h
    obtain ⟨x,v,rfl,hg,hr,hft,hcn⟩:=open_tree8 n cs' _ h2 (λ m hm=>by
     refine hw' m (.inr ?_);simp only [DataW.weights,Tryz.underlying38];refine List.mem_cons.2 (.inr (List.mem_append.2 (.inl (mem_weightsAll2 hm (List.mem_map.2 ⟨_,List.getElem_mem _,rfl⟩)))))
     )
    refine ⟨(x,v),h1,hg,hr,hft,λ e he=>?_⟩;rw [List.getElem?_eq_getElem (by omega)] at he;injection he with he;rw [<-he];exact hcn
   obtain ⟨f,hfz⟩:=choose_lt each
   have hlen:((List.range len).map λ i=>(f i).1).length=len:=by simp
   refine ⟨.mk n0 n1 s2.data.toList n3 ((List.range len).map λ i=>(f i).1) n5,⟨n0,n1,s2,n3,some a,len,cap,n5⟩,rfl,?_,?_,?_,?_⟩
   ·unfold GV;refine ⟨rfl,rfl,rfl,rfl,rfl,hlen.symm,hlc,hcm,GRow.of λ j x hx=>?_⟩
    have hj:j<len:=by
     have:=(List.getElem?_eq_some_iff.1 hx).1;omega
    have hxe:(f j).1=x:=by
     rw [List.getElem?_map,List.getElem?_range hj] at hx;simpa using hx
    subst hxe;obtain ⟨h1,h2,_,_⟩:=hfz j hj
    have hsp:a.spot=none:=by
     obtain ⟨k1,_,_⟩:=hfz 0 (by omega);obtain ⟨_,_,kc⟩:=World.cells?_some k1;have h0:=World.cell?_spot (kc 0 (by omega));simpa [Addr.add] using h0
    obtain ⟨g,o,sp⟩:=a;simp only at hsp;subst hsp;have hev:=evAt_of_cells h1;exact ⟨g,o,(f j).2,rfl,Nat.zero_le _,World.block_lt_of_cell? W _ hev.1,by rw [Nat.zero_add];exact hev,h2⟩
   ·rw [GX.rng];refine ⟨wf_range r1,wf_range r3,hs2,rngs_of λ x hx=>?_⟩;obtain ⟨i,hi',rfl⟩:=List.mem_map.1 hx;exact (hfz i (List.mem_range.1 hi')).2.2.1
   ·rw [GX.fit,hlen];refine ⟨?_,fits_of λ x hx=>?_⟩
    ·refine Nat.le_trans (Nat.mul_le_mul_right 72 (Nat.le_add_right len rest.length)) (hw' _ (.inr ?_));simp only [DataW.weights,Tryz.underlying38];refine List.mem_cons.2 (.inl ?_);rw [show Tryz.prog.bytesOf 40=72 from by kernel_rfl,List.length_map,List.length_map,hel]
    ·obtain ⟨i,hi',rfl⟩:=List.mem_map.1 hx;exact (hfz i (List.mem_range.1 hi')).2.2.2.1
   ·refine Nat.le_trans ?_ hbk;rw [GX.bn]
    have hh:=nums_le ((List.range len).map λ i=>(f i).1) (elems.map Prod.fst) (by simp [hel]) (λ i z d hz hd=>by
     have hj:i<len:=by
      have:=(List.getElem?_eq_some_iff.1 hz).1;omega
     rw [List.getElem?_map,List.getElem?_range hj] at hz;rw [List.getElem?_map] at hd;obtain ⟨e,he,rfl⟩:=Option.map_eq_some_iff.1 hd
     have hz':(f i).1=z:=by simpa using hz
     rw [<-hz']
     exact (hfz i hj).2.2.2.2 e he)
    refine Nat.le_trans (Nat.add_le_add_left hh 1) ?_;rw [Rows.uptoBulk];exact bulk_auy1 _ _
 termination_by fuel=>fuel
end Go.Proofs.YtpgeidpfhakgaaaGreatDoor
namespace Go.Proofs.YtpgeidpfhakgaaaGreatDoor
open Go.RowKit Go.Deep Go.ChangeShapes Go.WideShapes
def Opn {H:Type} (enc:TypeId×Value->H) (W:World) (E:TypeId) {α:Type} (f:α->List DV) (P:α->Prop) (cnt:α->Nat) (fuel:Nat):Prop :=
 ∀(cs:List Value) (y:DataW H×List MemPlace),DataW.trod enc Tryz.prog W 0 (λ _=>true) true fuel E cs=some y->(∀m∈y.1.weights Tryz.prog E,m<=140737488351232)->∃a:α,DxsAt W (f a) cs/\P a/\cnt a<=Rows.uptoBulk y.1
def sumL {α:Type} (cnt:α->Nat):List α->Nat
 |[]=>0
 |a::l=>cnt a+sumL cnt l
theorem sumL_bulk {H α:Type} {cnt:α->Nat}:∀(l:List α) (ds:List (DataW H)),l.length=ds.length->(∀(i:Nat) (x:α) (d:DataW H),l[i]?=some x->ds[i]?=some d->cnt x<=Rows.uptoBulk d)->sumL cnt l<=Rows.uptoBulkAll ds
 |[],[],_,_=>Nat.zero_le _
 |[],_::_,h,_=>by simp at h
 |_::_,[],h,_=>by simp at h
 |x::l,d::ds,h,hh=>by
  rw [sumL,Rows.uptoBulkAll];have h1:=hh 0 x d rfl rfl;have h2:=sumL_bulk l ds (by simpa using h) (λ i y e hy he=>hh (i+1) y e (by simpa using hy) (by simpa using he));omega
theorem DxsAt.flat {α:Type} {w:World} {f:α->List DV}:∀{l:List α} {xss:List (List Value)},l.length=xss.length->(∀(i:Nat) (a:α) (xs:List Value),l[i]?=some a->xss[i]?=some xs->DxsAt w (f a) xs)->DxsAt w (l.flatMap f) xss.flatten
 |[],[],_,_=>DxsAt.nil w
 |[],_::_,h,_=>by simp at h
 |_::_,[],h,_=>by simp at h
 |a::l,xs::xss,h,hh=>by
  rw [List.flatMap_cons,List.flatten_cons];exact (hh 0 a xs rfl rfl).app (DxsAt.flat (by simpa using h) (λ i b ys hb hy=>hh (i+1) b ys (by simpa using hb) (by simpa using hy)))
theorem flatten_get {k:Nat}:∀{xss:List (List Value)},(∀xs∈xss,xs.length=k)->∀{j:Nat} {u:Value},xss.flatten[j]?=some u->∃i r xs,xss[i]?=some xs/\xs[r]?=some u/\j=i*k+r
 |[],_,j,u,h=>by simp at h
 |xs::xss,hk,j,u,h=>by
  have hl:=hk xs (by simp);rw [List.flatten_cons] at h;rcases Nat.lt_or_ge j xs.length with c|c
  ·rw [List.getElem?_append_left c] at h;exact ⟨0,j,xs,rfl,h,by omega⟩
  ·rw [List.getElem?_append_right c] at h;obtain ⟨i,r,ys,h1,h2,h3⟩:=flatten_get (λ ys hy=>hk ys (by simp [hy])) h;exact ⟨i+1,r,ys,by simpa using h1,h2,by rw [Nat.succ_mul];omega⟩
theorem opn_row {H:Type} {enc:TypeId×Value->H} {W:World} {T E:TypeId} {α:Type} [Inhabited α] {f:α->List DV} {P:α->Prop} {cnt:α->Nat} {k B fuel:Nat} (hU:Tryz.prog.underlying T=some (.slice E)) (hk:Tryz.prog.cellsOf E=k) (hB:Tryz.prog.bytesOf E=B) (hf:∀a,(f a).length=k) (hk0:0<k)
  (he:∀n,fuel=n+1->Opn enc W E f P cnt n) {c:Value} {y:DataW H×List MemPlace} (h:DataW.trod enc Tryz.prog W 0 (λ _=>true) true fuel T [c]=some y) (hw:∀m∈y.1.weights Tryz.prog T,m<=140737488351232) :
  ∃l:List α,DxAt W (.row E k l.length (l.flatMap f)) c/\(∀a∈l,P a)/\l.length*B<=140737488351232/\sumL cnt l<=Rows.uptoBulk y.1:=by
 rcases DataW.trod_slice hU h with ⟨hc,_⟩|⟨a,len,cap,elems,rest,n,hn,hc,rfl,_,hlc,hcm,hel,hi,_⟩
 ·injection hc with hc;subst hc;refine ⟨[],?_,(λ a h=>by cases h),by simp,Nat.zero_le _⟩;unfold DxAt;exact ⟨none,0,[],rfl,n_ _,Nat.zero_le _,.inl rfl,DxsAt.nil W⟩
 ·injection hc with hc;subst hc
  have each:∀i,i<len->∃z:α×List Value,W.cells? 0 (a.add (i*k)) k=some z.2/\DxsAt W (f z.1) z.2/\P z.1/\∀e,elems[i]?=some e->cnt z.1<=Rows.uptoBulk e.1:=by
   intro i hil;have h:=hi i hil;rw [List.getElem?_eq_getElem (by omega),hk] at h;obtain ⟨cs',h1,h2⟩:=Option.bind_eq_some_iff.1 h
   obtain ⟨x,hx,hp,hcn⟩:=he n hn cs' _ h2 (λ m hm=>by
    refine hw m ?_;simp only [DataW.weights,hU]
    exact List.mem_cons.2 (.inr (List.mem_append.2 (.inl (mem_weightsAll2 hm (List.mem_map.2 ⟨_,List.getElem_mem _,rfl⟩))))))
   refine ⟨(x,cs'),h1,hx,hp,λ e he=>?_⟩;rw [List.getElem?_eq_getElem (by omega)] at he;injection he with he;rw [<-he];exact hcn
  obtain ⟨z,hz⟩:=choose_lt each
  have hlen:((List.range len).map λ i=>(z i).1).length=len:=by simp
  have hget:∀(i:Nat) (x:α),((List.range len).map λ i=>(z i).1)[i]?=some x->i<len/\(z i).1=x:=λ i x hx=>by
   have hj:i<len:=by have:=(List.getElem?_eq_some_iff.1 hx).1;omega
   rw [List.getElem?_map,List.getElem?_range hj] at hx;exact ⟨hj,by simpa using hx⟩
  have hgetv:∀(i:Nat) (x:List Value),((List.range len).map λ i=>(z i).2)[i]?=some x->i<len/\(z i).2=x:=λ i x hx=>by
   have hj:i<len:=by have:=(List.getElem?_eq_some_iff.1 hx).1;simpa using this
   rw [List.getElem?_map,List.getElem?_range hj] at hx;exact ⟨hj,by simpa using hx⟩
  refine ⟨(List.range len).map λ i=>(z i).1,?_,λ x hx=>?_,?_,?_⟩
  ·unfold DxAt
   refine ⟨some a,cap,((List.range len).map λ i=>(z i).2).flatten,by rw [hlen],by rw [hlen];exact hlc,hcm,?_,DxsAt.flat (by simp) (λ i x xs hx hxs=>by
    obtain ⟨_,rfl⟩:=hget i x hx;obtain ⟨hj,rfl⟩:=hgetv i xs hxs
    exact (hz i hj).2.1)⟩
   rcases Nat.eq_zero_or_pos len with h0|h0
   ·left;rw [h0];rfl
   ·right
    have hsp:a.spot=none:=by
     obtain ⟨k1,_⟩:=hz 0 h0;obtain ⟨kl,_,kc⟩:=World.cells?_some k1
     obtain ⟨u0,hu0⟩:∃u,(z 0).2[0]?=some u:=⟨_,List.getElem?_eq_getElem (by omega)⟩
     have h0:=World.cell?_spot ((kc 0 hk0).trans hu0);simpa [Addr.add] using h0
    obtain ⟨g,o,sp⟩:=a;simp only at hsp;subst hsp
    have hcell:∀i r u,i<len->(z i).2[r]?=some u->W.cell? ⟨g,o+(i*k+r),none⟩=some u:=λ i r u hj hu=>by
     obtain ⟨k1,_⟩:=hz i hj;obtain ⟨hlz,_,kc⟩:=World.cells?_some k1
     have hr:r<k:=by have:=(List.getElem?_eq_some_iff.1 hu).1;omega
     have e:=(kc r hr).trans hu;rw [Addr.add_lit,Addr.add_lit,Nat.add_assoc] at e;exact e
    refine ⟨g,o,rfl,?_,λ j u hu=>?_⟩
    ·obtain ⟨u0,hu0⟩:∃u,(z 0).2[0]?=some u:=⟨_,List.getElem?_eq_getElem (by
      obtain ⟨k1,_⟩:=hz 0 h0;obtain ⟨kl,_,_⟩:=World.cells?_some k1
      omega)⟩
     exact World.block_lt_of_cell? W _ (hcell 0 0 u0 h0 hu0)
    ·obtain ⟨i,r,xs,h1,h2,rfl⟩:=flatten_get (k:=k) (λ xs hxs=>by
      obtain ⟨i,hi⟩:=List.getElem?_of_mem hxs;obtain ⟨hj,rfl⟩:=hgetv i xs hi;have:=(hz i hj).2.1.len
      rw [this,hf]) hu
     obtain ⟨hj,rfl⟩:=hgetv i xs h1;exact hcell i r u hj h2
  ·obtain ⟨i,hi',rfl⟩:=List.mem_map.1 hx;exact (hz i (List.mem_range.1 hi')).2.2.1
  ·rw [hlen];refine Nat.le_trans (Nat.mul_le_mul_right B (Nat.le_add_right len rest.length)) (hw _ ?_);simp only [DataW.weights,hU];refine List.mem_cons.2 (.inl ?_);rw [hB,List.length_map,List.length_map,hel]
  ·refine Nat.le_trans (sumL_bulk _ (elems.map Prod.fst) (by simp [hel]) (λ i x d hx hd=>?_)) ?_
   ·obtain ⟨hj,rfl⟩:=hget i x hx;rw [List.getElem?_map] at hd;obtain ⟨e,he,rfl⟩:=Option.map_eq_some_iff.1 hd;exact (hz i hj).2.2.2 e he
   ·rw [Rows.uptoBulk];refine Nat.le_trans (Nat.le_add_right _ (Rows.uptoBulkAll (rest.map Prod.fst))) ?_;exact Nat.le_succ _
instance:Inhabited GA:=⟨⟨0,[],default,0⟩⟩
instance:Inhabited GM:=⟨⟨0,[],0,false,default,[],[],0⟩⟩
instance:Inhabited GN:=⟨.mk 0 [] [] [] [] [] [] [] 0⟩
instance:Inhabited SyVar:=⟨⟨[],0,0⟩⟩
def GA.fit (a:GA):Prop:=a.val.fit
def GM.fit (m:GM):Prop:=m.guard.fit/\(∀a∈m.acts,a.fit)/\m.acts.length*104<=140737488351232/\m.targets.length*16<=140737488351232
mutual
def GN.fit:GN->Prop
 |.mk _ _ _ _ en le mo ks _=>(∀a∈en,a.fit)/\(∀a∈le,a.fit)/\(∀m∈mo,m.fit)/\en.length*104<=140737488351232/\le.length*104<=140737488351232/\mo.length*168<=140737488351232/\ks.length*160<=140737488351232/\GN.fits ks
def GN.fits:List GN->Prop
 |[]=>True
 |x::l=>x.fit/\GN.fits l
end
theorem GN.fits_iff:∀{l:List GN},GN.fits l ↔ ∀x∈l,x.fit
 |[]=>by rw [GN.fits];simp
 |x::l=>by rw [GN.fits,GN.fits_iff];simp
def GC.fit (c:GC):Prop:=c.vars.length*32<=140737488351232/\c.root.fit
def GM.cnt (m:GM):Nat:=1+m.acts.length+m.targets.length
mutual
def GN.cnt:GN->Nat
 |.mk _ _ _ _ en le mo ks _=>1+en.length+le.length+sumL GM.cnt mo+GN.cnts ks
def GN.cnts:List GN->Nat
 |[]=>0
 |x::l=>x.cnt+GN.cnts l
end
theorem GN.cnts_sum:∀l:List GN,GN.cnts l=sumL GN.cnt l
 |[]=>by rw [GN.cnts];rfl
 |x::l=>by rw [GN.cnts,GN.cnts_sum l];rfl
theorem sumL_one {α:Type}:∀l:List α,sumL (λ _=>1) l=l.length
 |[]=>rfl
 |_::l=>by rw [sumL,sumL_one l,List.length_cons];omega
theorem opn_int {H:Type} {enc:TypeId×Value->H} {W:World} {fuel:Nat} {c:Value} {y:DataW H×List MemPlace} (h:DataW.trod enc Tryz.prog W 0 (λ _=>true) true fuel 3 [c]=some y):∃n:Int,c=.int .i64 n/\-9223372036854775808<=n/\n<=9223372036854775807:=by
 obtain ⟨n,h1,_,h2⟩:=DataW.trod_int Tryz.underlying3 h;injection h1 with h1;exact ⟨n,h1,wf_range h2⟩
theorem opn_str {H:Type} {enc:TypeId×Value->H} {W:World} {fuel:Nat} {c:Value} {y:DataW H×List MemPlace} (h:DataW.trod enc Tryz.prog W 0 (λ _=>true) true fuel 9 [c]=some y) (hw:∀m∈y.1.weights Tryz.prog 9,m<=140737488351232):∃s:List UInt8,c=txV s/\s.length<=140737488351232:=by
 obtain ⟨s,h1,h2,_⟩:=DataW.trod_string Tryz.underlying9 h;injection h1 with h1;refine ⟨s.data.toList,h1,hw _ ?_⟩;rw [h2];simp only [DataW.weights];exact List.mem_singleton.2 rfl
theorem opn_bool {H:Type} {enc:TypeId×Value->H} {W:World} {fuel:Nat} {c:Value} {y:DataW H×List MemPlace} (h:DataW.trod enc Tryz.prog W 0 (λ _=>true) true fuel 4 [c]=some y):∃b:Bool,c=.bool b:=by
 obtain ⟨b,h1,_⟩:=DataW.trod_bool Tryz.underlying4 h;injection h1 with h1;exact ⟨b,h1⟩
theorem opn_strs (H:Type) (enc:TypeId×Value->H) (W:World) (fuel:Nat):Opn enc W 9 (λ s:List UInt8=>[DV.v (txV s)]) (λ s=>s.length<=140737488351232) (λ _=>1) fuel:=by
 intro cs y h hw;obtain ⟨s,h1,_,_⟩:=DataW.trod_string Tryz.underlying9 h;subst h1;obtain ⟨t,h2,h3⟩:=opn_str h hw;refine ⟨t,?_,h3,?_⟩
 ·rw [h2];exact .v rfl (DxsAt.nil W)
 ·cases hy:y.1 with
  |lit l=>cases l <;> simp [Rows.uptoBulk]
  |_=>simp [Rows.uptoBulk]
theorem list9 {α:Type} {l:List α} (h:l.length=9):∃a b c d e f g i j,l=[a,b,c,d,e,f,g,i,j]:=by
 match l,h with
 |[a,b,c,d,e,f,g,i,j],_=>exact ⟨a,b,c,d,e,f,g,i,j,rfl⟩
theorem list4 {α:Type} {l:List α} (h:l.length=4):∃a b c d,l=[a,b,c,d]:=by
 match l,h with
 |[a,b,c,d],_=>exact ⟨a,b,c,d,rfl⟩
theorem list8 {α:Type} {l:List α} (h:l.length=8):∃a b c d e f g i,l=[a,b,c,d,e,f,g,i]:=by
 match l,h with
 |[a,b,c,d,e,f,g,i],_=>exact ⟨a,b,c,d,e,f,g,i,rfl⟩
theorem list13 {α:Type} {l:List α} (h:l.length=13):∃a b c d e f g i j k m n o,l=[a,b,c,d,e,f,g,i,j,k,m,n,o]:=by
 match l,h with
 |[a,b,c,d,e,f,g,i,j,k,m,n,o],_=>exact ⟨a,b,c,d,e,f,g,i,j,k,m,n,o,rfl⟩
theorem list2 {α:Type} {l:List α} (h:l.length=2):∃a b,l=[a,b]:=by
 match l,h with
 |[a,b],_=>exact ⟨a,b,rfl⟩
theorem parts_wt {H:Type} {T:TypeId} {fs:Array Field} {xs:List (DataW H×List MemPlace)} (hU:Tryz.prog.underlying T=some (.struct fs)) (hw:∀m∈(DataW.agg (xs.map Prod.fst)).weights Tryz.prog T,m<=140737488351232) :
  ∀m∈DataW.weightsEach Tryz.prog (fs.toList.map (·.type)) (xs.map Prod.fst),m<=140737488351232:=λ m hm=>hw m (by
 simp only [DataW.weights,hU]
 first|exact hm|exact List.mem_cons.2 (.inr hm)|simpa using hm)
end Go.Proofs.YtpgeidpfhakgaaaGreatDoor
