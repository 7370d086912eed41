import Derived.Test.YtpgeidpfhakgaaaGreatDoorQh
import Derived.Test.YtpgeidpfhakgaaaGreatDoorQGvM
import Derived.Test.YtpgeidpfhakgaaaGreatDoorQFoF
import Derived.Deep.RegionHeld3
import Derived.Test.YtpgeidpfhakgaaaGreatDoorQXA
import Derived.Test.YtpgeidpfhakgaaaGreatDoorEA
import Derived.Test.YtpgeidpfhakgaaaGreatDoorQEwE
import Derived.Test.YtpgeidpfhakgaaaGreatDoorEB
import Derived.Test.YtpgeidpfhakgaaaGreatDoorQSeD
set_option maxHeartbeats 12800000
set_option maxRecDepth 20000
namespace Go.Proofs.YtpgeidpfhakgaaaGreatDoor
open Go.RowKit
theorem cell_up {w W:World} (hb:Below w.heap.size w W) {p:Addr} {u:Value} (h:w.cell? p=some u):W.cell? p=some u:=by
 rw [World.cell?_of_block (hb.block _ (World.block_lt_of_cell? w _ h))];exact h
theorem allA_of {w0:World} {l:List GA} {v:Value} (hx:DxAt w0 (gActs l) v) (hE:Ee w0) (hr:∀a∈l,a.rng) {W:World} (hb:Below w0.heap.size w0 W):Hid (allWA W l v):=by
 intro i a ha;obtain ⟨g,og,c,ys,hv,_,_,hg,hy,_,hyc⟩:=DxAt.elem gAct_len (by decide) (show DxAt w0 (.row _ 9 l.length (l.flatMap gAct)) v from hx) ha;obtain ⟨ev,rfl,hgv⟩:=act_vals' hy;refine ⟨g,og,c,ev,hv,Nat.lt_of_lt_of_le hg hb.size,cell_up hb (hyc 0 _ rfl),cell_up hb (hyc 1 _ rfl),cell_up hb (hyc 2 _ rfl),cell_up hb (hyc 3 _ rfl),cell_up hb (hyc 4 _ rfl),cell_up hb (hyc 5 _ rfl),cell_up hb (hyc 6 _ rfl),cell_up hb (hyc 7 _ rfl),cell_up hb (hyc 8 _ rfl),λ W' hb'=>?_⟩;have hbb:Below w0.heap.size w0 W':=hb.trans (hb'.mono hb.size);exact isact_any W' a ev ⟨a.name.toArray⟩ rfl ((GV.below hgv hbb (n_ _)).mono (n_ 0) hbb.size) (hr a (List.mem_of_getElem? ha)) (hE.below hbb)
theorem allV_of {w0:World} {l:List SyVar} {v:Value} (hx:DxAt w0 (dvVars l) v) (hE:Ee w0) (hr:∀a∈l,a.rng) {W:World} (hb:Below w0.heap.size w0 W):Hid (allWV W l v):=by
 intro i a ha;obtain ⟨g,og,c,ys,hv,_,_,hg,hy,_,hyc⟩:=DxAt.elem dvVar_len (by decide) (show DxAt w0 (.row _ 3 l.length (l.flatMap dvVar)) v from hx) ha;obtain rfl:=var_vals' hy;refine ⟨g,og,c,(),hv,Nat.lt_of_lt_of_le hg hb.size,cell_up hb (hyc 0 _ rfl),cell_up hb (hyc 1 _ rfl),cell_up hb (hyc 2 _ rfl),λ W' hb'=>?_⟩;have hbb:Below w0.heap.size w0 W':=hb.trans (hb'.mono hb.size);exact isvar_any W' a ⟨a.name.toArray⟩ rfl (hr a (List.mem_of_getElem? ha)) (hE.below hbb).vr.kw
theorem allS_of {w0:World} {l:List (List UInt8)} {A:Option Addr} {c:Nat} (hx:DxAt w0 (dvStrs l) (.slice A l.length c)) (hE:Ee w0) (hr:∀t∈l,t.length<=140737488351232) {W:World} (hb:Below w0.heap.size w0 W):Hid (allWS W l (.slice A l.length c)):=by
 intro i t ht;obtain ⟨_,_,h⟩:=strs_sl hx;obtain ⟨g,o,rfl,hg,hc⟩:=h i ⟨t.toArray⟩ (by rw [List.getElem?_map,ht];rfl);refine ⟨g,o,c,(),rfl,Nat.lt_of_lt_of_le hg hb.size,cell_up hb hc,λ W' hb'=>?_⟩;have hbb:Below w0.heap.size w0 W':=hb.trans (hb'.mono hb.size);refine (name_any ⟨t.toArray⟩ W' (by have:=hr t (List.mem_of_getElem? ht);show t.toArray.size<=_;simpa using this) (hE.below hbb).vr.kw).mono ?_;rintro e w' ⟨rfl,rfl⟩;exact ⟨by simp,b_ _ _⟩
theorem KS.set0 {w0 w:World} {b lvl n m a:Nat} (h:KS w0 w b lvl (n,m,a)) (hb:w0.heap.size<=b) (n':Nat):KS w0 (w.setCell ⟨b,0,none⟩ (.int .i64 (n':Int))) b lvl (n',m,a):=⟨h.1.setCell (p:=⟨b,0,none⟩) hb _,h.2.set 0 _⟩
theorem KS.set1 {w0 w:World} {b lvl n m a:Nat} (h:KS w0 w b lvl (n,m,a)) (hb:w0.heap.size<=b) (n':Nat):KS w0 (w.setCell ⟨b,1,none⟩ (.int .i64 (n':Int))) b lvl (n,n',a):=⟨h.1.setCell (p:=⟨b,1,none⟩) hb _,h.2.set 1 _⟩
theorem KS.set2 {w0 w:World} {b lvl n m a:Nat} (h:KS w0 w b lvl (n,m,a)) (hb:w0.heap.size<=b) (n':Nat):KS w0 (w.setCell ⟨b,2,none⟩ (.int .i64 (n':Int))) b lvl (n,m,n'):=⟨h.1.setCell (p:=⟨b,2,none⟩) hb _,h.2.set 2 _⟩
theorem KS.set3 {w0 w:World} {b lvl:Nat} {s:Nat×Nat×Nat} (h:KS w0 w b lvl s) (hb:w0.heap.size<=b) (n':Nat):KS w0 (w.setCell ⟨b,3,none⟩ (.int .i64 (n':Int))) b n' s:=⟨h.1.setCell (p:=⟨b,3,none⟩) hb _,h.2.set 3 _⟩
theorem kcount_any (w:World) (b i x more most:Nat) (hc:w.cell? ⟨b,i,none⟩=some (.int .i64 (x:Int))) (hf:w.frozen? ⟨b,i,none⟩=false) (h1:x+more<=9223372036854775807) :
  Calls Tryz.prog 87 #[.pointer (some ⟨b,i,none⟩),.int .i64 (more:Int),.int .i64 (most:Int)] w λ e w'=>e=.returned (.bool (decide (x+more<=most)))/\w'=w.setCell ⟨b,i,none⟩ (.int .i64 ((x+more:Nat):Int)):=by
 refine (count8_any w b i x more most hc hf (by omega) (by omega)).mono ?_;rintro e w' ⟨rfl,rfl⟩;refine ⟨?_,by rw [Int.natCast_add]⟩
 congr 2
 by_cases c:x+more<=most
 ·rw [decide_eq_true c,decide_eq_true (by omega)]
 ·rw [decide_eq_false c,decide_eq_false (by omega)]
theorem kblock_any (w0 w:World) (b lvl:Nat) (s:Nat×Nat×Nat) (l:List GA) (A:Option Addr) (c:Nat) (hE:Ee w0) (h:KS w0 w b lvl s) (hb:w0.heap.size<=b) (hs:Rm s) (hx:DxAt w0 (gActs l) (.slice A l.length c)) (hr:∀a∈l,a.rng) (hl63:l.length<=1000000000000000) :
  Calls Tryz.prog 125 #[.pointer (some ⟨b,0,none⟩),.slice A l.length c] w λ e w'=>e=.returned (.bool (blkC s l).1)/\(KS w0 w' b lvl (blkC s l).2/\((blkC s l).1=true->Rm (blkC s l).2))/\Mv b w w':=by
 obtain ⟨n,m,a⟩:=s;have HSP:=h_ (λ h=>((blkC_spec (n,m,a) l hs).1 h).1);have HC:=h_ (kcount_any w b 2 a l.length 400 (h.2.c 2 rfl) (h.2.fr 2) (by have:=hs.2.2;simp only at this;omega))
 obtain ⟨W1,hW1⟩:∃W,W=w.setCell ⟨b,2,none⟩ (.int .i64 ((a+l.length:Nat):Int)):=⟨_,rfl⟩
 have HK1:Hid (KS w0 W1 b lvl (n,m,a+l.length)):=by rw [hW1];exact h.set2 hb _
 have HM1:Hid (Mv b w W1):=by rw [hW1];exact (Mv.refl b w).set 2 _
 have HA:=h_ (everyA_any W1 l A c l.length rfl (by omega) (allA_of hx hE hr HK1.out.1))
 obtain ⟨q1,hq1⟩:∃q,decide (a+l.length<=400)=q:=⟨_,rfl⟩
 obtain ⟨q2,hq2⟩:∃q,l.all okA=q:=⟨_,rfl⟩
 have HR:Hid (blkC (n,m,a) l=(q1&&q2,(n,m,a+l.length))):=by
  show _=_;unfold blkC;rw [hq2];simp only;rw [hq1]
 rw [hq2] at HA;rw [hq1,<-hW1] at HC
 obtain ⟨N,hN⟩:∃N,l.length=N:=⟨_,rfl⟩
 rw [hN] at HC HA ⊢;clear h hs hx hr hE hW1 hq1 hq2 hl63 hN hb;go_enter Tryz.func125,Tryz.ntmps125;cases q1
 ·go_wp2_with fail;refine HC.out.mono ?_;rintro e w2 ⟨rfl,rfl⟩;go_wp2_with fail;go_ret;refine ⟨by rw [HR.out];rfl,⟨by rw [HR.out];exact HK1.out,HSP.out⟩,HM1.out⟩
 ·go_wp2_with fail;refine HC.out.mono ?_;rintro e w2 ⟨rfl,rfl⟩;go_wp2_with fail;refine HA.out.mono ?_;rintro e w3 ⟨rfl,hb⟩;have HB3:=h_ hb;clear hb HC HA;go_wp2_with fail;go_ret;refine ⟨by rw [HR.out];cases q2 <;> rfl,⟨by rw [HR.out];exact HK1.out.below HB3.out,HSP.out⟩,HM1.out.trans (Mv.of_below b HB3.out)⟩
theorem kmove_any (w0 w:World) (b lvl:Nat) (s:Nat×Nat×Nat) (m:GM) (ev:EV) (X:ByteArray) (A1 A2:Option Addr) (c1 c2:Nat) (hE:Ee w0) (h:KS w0 w b lvl s) (hb:w0.heap.size<=b) (hs:Rm s) (hX:txV m.event=.string X) (hg:GV w0 0 w0.heap.size m.guard ev) (ha:DxAt w0 (gActs m.acts) (.slice A1 m.acts.length c1)) (ht:DxAt w0 (dvStrs m.targets) (.slice A2 m.targets.length c2)) (hr:m.rng) (hl:m.acts.length<=1000000000000000) :
  Calls Tryz.prog 127 #[.pointer (some ⟨b,0,none⟩),.agg #[.int .i64 m.kind,.string X,.int .i64 m.wait,.bool m.guarded,.int .i64 ev.kind,.int .i64 ev.num,.string ev.name,.int .i64 ev.op,.slice ev.A ev.len ev.cap,.int .i64 ev.p,.slice A1 m.acts.length c1,.slice A2 m.targets.length c2,.int .i64 m.at_]] w λ e w'=>e=.returned (.bool (mvS s m).1)/\(KS w0 w' b lvl (mvS s m).2/\((mvS s m).1=true->Rm (mvS s m).2))/\Mv b w w':=by
 have HSP:=h_ (λ h=>((mvS_spec s m hs).1 h).1)
 obtain ⟨W1,hW1⟩:∃W,W=w.alloc (.cells #[.int .i64 m.kind,.string X,.int .i64 m.wait,.bool m.guarded,.int .i64 ev.kind,.int .i64 ev.num,.string ev.name,.int .i64 ev.op,.slice ev.A ev.len ev.cap,.int .i64 ev.p,.slice A1 m.acts.length c1,.slice A2 m.targets.length c2,.int .i64 m.at_] 43):=⟨_,rfl⟩
 obtain ⟨g1,hg1⟩:∃g,g=w.heap.size:=⟨_,rfl⟩
 have hal:Below w.heap.size w W1:=by rw [hW1];exact (b_ _ w).alloc (n_ _) _
 have HX:Hid (CB W1 g1 43 [.int .i64 m.kind,.string X,.int .i64 m.wait,.bool m.guarded,.int .i64 ev.kind,.int .i64 ev.num,.string ev.name,.int .i64 ev.op,.slice ev.A ev.len ev.cap,.int .i64 ev.p,.slice A1 m.acts.length c1,.slice A2 m.targets.length c2,.int .i64 m.at_]/\KS w0 W1 b lvl s/\Mv b w W1):=⟨by rw [hW1,hg1];exact CB.new w _ [.int .i64 m.kind,.string X,.int .i64 m.wait,.bool m.guarded,.int .i64 ev.kind,.int .i64 ev.num,.string ev.name,.int .i64 ev.op,.slice ev.A ev.len ev.cap,.int .i64 ev.p,.slice A1 m.acts.length c1,.slice A2 m.targets.length c2,.int .i64 m.at_],h.below hal,Mv.of_below b hal⟩
 have HGB:Hid (g1≠b):=by have:=h.2.lt;rw [hg1];exact λ e=>by omega
 have gvW:∀W:World,Below w0.heap.size w0 W->GV W 0 W.heap.size m.guard ev:=λ W hb=>(GV.below hg hb (n_ _)).mono (n_ 0) hb.size;have H1:=h_ (trig_any W1 m ev X A1 A2 c1 c2 hX hr (hE.below HX.out.2.1.1).vr.kw);have H2:=h_ (λ (W:World) (hb:Below w0.heap.size w0 W)=>grd_any W m ev X A1 A2 c1 c2 (gvW W hb) hr (hE.below hb));have H3:=h_ (λ (W:World) (hk:KS w0 W b lvl s)=>kblock_any w0 W b lvl s m.acts A1 c1 hE hk hb hs ha hr.2.2.2.1 hl)
 have htl:m.targets.length<=9223372036854775807:=by
  have h1:=(strs_sl ht).1;have h2:=(strs_sl ht).2.1
  have:maxLen<=9223372036854775807:=by decide
  omega
 have H4:=h_ (λ (W:World) (hb:Below w0.heap.size w0 W)=>everyS_any W m.targets A2 c2 m.targets.length rfl htl (allS_of ht hE hr.2.2.2.2 hb))
 obtain ⟨q1,hq1⟩:∃q,trig m=q:=⟨_,rfl⟩
 obtain ⟨q2,hq2⟩:∃q,grd m=q:=⟨_,rfl⟩
 obtain ⟨⟨q3,s3⟩,hq3⟩:∃q,blkC s m.acts=q:=⟨_,rfl⟩
 obtain ⟨q4,hq4⟩:∃q,m.targets.all isNm=q:=⟨_,rfl⟩
 have HR:Hid (mvS s m=if (q1&&q2)=true then (q3&&q4,s3) else (false,s)):=by
  show _=_;unfold mvS;rw [hq1,hq2,hq3,hq4]
 rw [hq1] at H1;rw [hq2] at H2;rw [hq3] at H3;simp only at H3;rw [hq4] at H4;have z0:=HX.out.1.c 0 rfl;have z1:=HX.out.1.c 1 rfl;have z2:=HX.out.1.c 2 rfl;have z3:=HX.out.1.c 3 rfl;have z4:=HX.out.1.c 4 rfl;have z5:=HX.out.1.c 5 rfl;have z6:=HX.out.1.c 6 rfl;have z7:=HX.out.1.c 7 rfl;have z8:=HX.out.1.c 8 rfl;have z9:=HX.out.1.c 9 rfl;have z10:=HX.out.1.c 10 rfl;have z11:=HX.out.1.c 11 rfl;have z12:=HX.out.1.c 12 rfl;clear h hal hb hs hX hg ha ht hr hE hq1 hq2 hq3 hq4 gvW htl hl;go_enter Tryz.func127,Tryz.ntmps127;go_upto_region 1 with fail;rw [<-hW1,<-hg1];clear hW1 hg1;cases q1
 ·go_wp2_with fail;refine H1.out.mono ?_;rintro e w2 ⟨rfl,hb⟩;have HF:=h_ (And.intro (HX.out.2.1.below hb) (HX.out.2.2.trans (Mv.of_below b hb)));clear hb H1 H2 H3 H4;go_wp2_with fail;go_ret;exact ⟨by rw [HR.out];rfl,⟨by rw [HR.out];exact HF.out.1,HSP.out⟩,HF.out.2⟩
 ·cases q2
  ·go_wp2_with fail;refine H1.out.mono ?_;rintro e w2 ⟨rfl,hb⟩;have HX2:=h_ (And.intro (HX.out.1.below hb) (And.intro (HX.out.2.1.below hb) (HX.out.2.2.trans (Mv.of_below b hb))));clear hb H1 z0 z1 z2 z3 z4 z5 z6 z7 z8 z9 z10 z11 z12 HX;have z0:=HX2.out.1.c 0 rfl;have z1:=HX2.out.1.c 1 rfl;have z2:=HX2.out.1.c 2 rfl;have z3:=HX2.out.1.c 3 rfl;have z4:=HX2.out.1.c 4 rfl;have z5:=HX2.out.1.c 5 rfl;have z6:=HX2.out.1.c 6 rfl;have z7:=HX2.out.1.c 7 rfl;have z8:=HX2.out.1.c 8 rfl;have z9:=HX2.out.1.c 9 rfl;have z10:=HX2.out.1.c 10 rfl;have z11:=HX2.out.1.c 11 rfl;have z12:=HX2.out.1.c 12 rfl;go_wp2_with fail;refine (H2.out w2 HX2.out.2.1.1).mono ?_;rintro e w3 ⟨rfl,hb⟩;have HF:=h_ (And.intro (HX2.out.2.1.below hb) (HX2.out.2.2.trans (Mv.of_below b hb)));clear hb H2 H3 H4;go_wp2_with fail;go_ret;exact ⟨by rw [HR.out];rfl,⟨by rw [HR.out];exact HF.out.1,HSP.out⟩,HF.out.2⟩
  ·cases q3
   ·go_wp2_with fail;refine H1.out.mono ?_;rintro e w2 ⟨rfl,hb⟩;have HX2:=h_ (And.intro (HX.out.1.below hb) (And.intro (HX.out.2.1.below hb) (HX.out.2.2.trans (Mv.of_below b hb))));clear hb H1 z0 z1 z2 z3 z4 z5 z6 z7 z8 z9 z10 z11 z12 HX;have z0:=HX2.out.1.c 0 rfl;have z1:=HX2.out.1.c 1 rfl;have z2:=HX2.out.1.c 2 rfl;have z3:=HX2.out.1.c 3 rfl;have z4:=HX2.out.1.c 4 rfl;have z5:=HX2.out.1.c 5 rfl;have z6:=HX2.out.1.c 6 rfl;have z7:=HX2.out.1.c 7 rfl;have z8:=HX2.out.1.c 8 rfl;have z9:=HX2.out.1.c 9 rfl;have z10:=HX2.out.1.c 10 rfl;have z11:=HX2.out.1.c 11 rfl;have z12:=HX2.out.1.c 12 rfl;go_wp2_with fail;refine (H2.out w2 HX2.out.2.1.1).mono ?_;rintro e w3 ⟨rfl,hb⟩;have HX3:=h_ (And.intro (HX2.out.1.below hb) (And.intro (HX2.out.2.1.below hb) (HX2.out.2.2.trans (Mv.of_below b hb))));clear hb H2 z0 z1 z2 z3 z4 z5 z6 z7 z8 z9 z10 z11 z12 HX2;have z0:=HX3.out.1.c 0 rfl;have z1:=HX3.out.1.c 1 rfl;have z2:=HX3.out.1.c 2 rfl;have z3:=HX3.out.1.c 3 rfl;have z4:=HX3.out.1.c 4 rfl;have z5:=HX3.out.1.c 5 rfl;have z6:=HX3.out.1.c 6 rfl;have z7:=HX3.out.1.c 7 rfl;have z8:=HX3.out.1.c 8 rfl;have z9:=HX3.out.1.c 9 rfl;have z10:=HX3.out.1.c 10 rfl;have z11:=HX3.out.1.c 11 rfl;have z12:=HX3.out.1.c 12 rfl;go_wp2_with fail;refine (H3.out w3 HX3.out.2.1).mono ?_;rintro e w4 ⟨rfl,hk,hm⟩;have HF:=h_ (And.intro hk.1 (HX3.out.2.2.trans hm));clear hk hm H3 H4;go_wp2_with fail;go_ret;exact ⟨by rw [HR.out];rfl,⟨by rw [HR.out];exact HF.out.1,HSP.out⟩,HF.out.2⟩
   ·cases q4
    ·go_wp2_with fail;refine H1.out.mono ?_;rintro e w2 ⟨rfl,hb⟩;have HX2:=h_ (And.intro (HX.out.1.below hb) (And.intro (HX.out.2.1.below hb) (HX.out.2.2.trans (Mv.of_below b hb))));clear hb H1 z0 z1 z2 z3 z4 z5 z6 z7 z8 z9 z10 z11 z12 HX;have z0:=HX2.out.1.c 0 rfl;have z1:=HX2.out.1.c 1 rfl;have z2:=HX2.out.1.c 2 rfl;have z3:=HX2.out.1.c 3 rfl;have z4:=HX2.out.1.c 4 rfl;have z5:=HX2.out.1.c 5 rfl;have z6:=HX2.out.1.c 6 rfl;have z7:=HX2.out.1.c 7 rfl;have z8:=HX2.out.1.c 8 rfl;have z9:=HX2.out.1.c 9 rfl;have z10:=HX2.out.1.c 10 rfl;have z11:=HX2.out.1.c 11 rfl;have z12:=HX2.out.1.c 12 rfl;go_wp2_with fail;refine (H2.out w2 HX2.out.2.1.1).mono ?_;rintro e w3 ⟨rfl,hb⟩;have HX3:=h_ (And.intro (HX2.out.1.below hb) (And.intro (HX2.out.2.1.below hb) (HX2.out.2.2.trans (Mv.of_below b hb))));clear hb H2 z0 z1 z2 z3 z4 z5 z6 z7 z8 z9 z10 z11 z12 HX2;have z0:=HX3.out.1.c 0 rfl;have z1:=HX3.out.1.c 1 rfl;have z2:=HX3.out.1.c 2 rfl;have z3:=HX3.out.1.c 3 rfl;have z4:=HX3.out.1.c 4 rfl;have z5:=HX3.out.1.c 5 rfl;have z6:=HX3.out.1.c 6 rfl;have z7:=HX3.out.1.c 7 rfl;have z8:=HX3.out.1.c 8 rfl;have z9:=HX3.out.1.c 9 rfl;have z10:=HX3.out.1.c 10 rfl;have z11:=HX3.out.1.c 11 rfl;have z12:=HX3.out.1.c 12 rfl;go_wp2_with fail;refine (H3.out w3 HX3.out.2.1).mono ?_;rintro e w4 ⟨rfl,hk,hm⟩;have HX4:=h_ (And.intro (HX3.out.1.mv hm HGB.out) (And.intro hk.1 (HX3.out.2.2.trans hm)));clear hk hm H3 z0 z1 z2 z3 z4 z5 z6 z7 z8 z9 z10 z11 z12 HX3;have z11:=HX4.out.1.c 11 rfl;go_wp2_with fail;refine (H4.out w4 HX4.out.2.1.1).mono ?_;rintro e w5 ⟨rfl,hb⟩;have HF:=h_ (And.intro (HX4.out.2.1.below hb) (HX4.out.2.2.trans (Mv.of_below b hb)));clear hb H4 z11;go_wp2_with fail;go_ret;exact ⟨by rw [HR.out];rfl,⟨by rw [HR.out];exact HF.out.1,HSP.out⟩,HF.out.2⟩
    ·go_wp2_with fail;refine H1.out.mono ?_;rintro e w2 ⟨rfl,hb⟩;have HX2:=h_ (And.intro (HX.out.1.below hb) (And.intro (HX.out.2.1.below hb) (HX.out.2.2.trans (Mv.of_below b hb))));clear hb H1 z0 z1 z2 z3 z4 z5 z6 z7 z8 z9 z10 z11 z12 HX;have z0:=HX2.out.1.c 0 rfl;have z1:=HX2.out.1.c 1 rfl;have z2:=HX2.out.1.c 2 rfl;have z3:=HX2.out.1.c 3 rfl;have z4:=HX2.out.1.c 4 rfl;have z5:=HX2.out.1.c 5 rfl;have z6:=HX2.out.1.c 6 rfl;have z7:=HX2.out.1.c 7 rfl;have z8:=HX2.out.1.c 8 rfl;have z9:=HX2.out.1.c 9 rfl;have z10:=HX2.out.1.c 10 rfl;have z11:=HX2.out.1.c 11 rfl;have z12:=HX2.out.1.c 12 rfl;go_wp2_with fail;refine (H2.out w2 HX2.out.2.1.1).mono ?_;rintro e w3 ⟨rfl,hb⟩;have HX3:=h_ (And.intro (HX2.out.1.below hb) (And.intro (HX2.out.2.1.below hb) (HX2.out.2.2.trans (Mv.of_below b hb))));clear hb H2 z0 z1 z2 z3 z4 z5 z6 z7 z8 z9 z10 z11 z12 HX2;have z0:=HX3.out.1.c 0 rfl;have z1:=HX3.out.1.c 1 rfl;have z2:=HX3.out.1.c 2 rfl;have z3:=HX3.out.1.c 3 rfl;have z4:=HX3.out.1.c 4 rfl;have z5:=HX3.out.1.c 5 rfl;have z6:=HX3.out.1.c 6 rfl;have z7:=HX3.out.1.c 7 rfl;have z8:=HX3.out.1.c 8 rfl;have z9:=HX3.out.1.c 9 rfl;have z10:=HX3.out.1.c 10 rfl;have z11:=HX3.out.1.c 11 rfl;have z12:=HX3.out.1.c 12 rfl;go_wp2_with fail;refine (H3.out w3 HX3.out.2.1).mono ?_;rintro e w4 ⟨rfl,hk,hm⟩;have HX4:=h_ (And.intro (HX3.out.1.mv hm HGB.out) (And.intro hk.1 (HX3.out.2.2.trans hm)));clear hk hm H3 z0 z1 z2 z3 z4 z5 z6 z7 z8 z9 z10 z11 z12 HX3;have z11:=HX4.out.1.c 11 rfl;go_wp2_with fail;refine (H4.out w4 HX4.out.2.1.1).mono ?_;rintro e w5 ⟨rfl,hb⟩;have HF:=h_ (And.intro (HX4.out.2.1.below hb) (HX4.out.2.2.trans (Mv.of_below b hb)));clear hb H4 z11;go_wp2_with fail;go_ret;exact ⟨by rw [HR.out];rfl,⟨by rw [HR.out];exact HF.out.1,HSP.out⟩,HF.out.2⟩
end Go.Proofs.YtpgeidpfhakgaaaGreatDoor
namespace Go.Proofs.YtpgeidpfhakgaaaGreatDoor
open Go.RowKit
theorem notN_any (w:World) (b h:Nat) (k p:Int) (S1 S2 S3:ByteArray) (A1 A2 A3 A4:Option Addr) (n1 n2 n3 n4 c1 c2 c3 c4:Nat) (r:Bool) (R:World->Prop) (hc:w.cell? ⟨h,0,none⟩=some (.func (.func 54) #[.pointer (some ⟨b,0,none⟩)] #[])) (hh:h<w.heap.size)
  (HF:Hid (∀W,Below w.heap.size w W->Calls Tryz.prog 54 #[.pointer (some ⟨b,0,none⟩),.agg #[.int .i64 k,.string S1,.string S2,.string S3,.slice A1 n1 c1,.slice A2 n2 c2,.slice A3 n3 c3,.slice A4 n4 c4,.int .i64 p]] W λ e w'=>e=.returned (.bool r)/\R w'/\Mv b W w')) :
  Calls Tryz.prog 167 #[.agg #[.int .i64 k,.string S1,.string S2,.string S3,.slice A1 n1 c1,.slice A2 n2 c2,.slice A3 n3 c3,.slice A4 n4 c4,.int .i64 p],.pointer (some ⟨h,0,none⟩)] w λ e w'=>e=.returned (.bool (!r))/\R w'/\Mv b w w':=by
 obtain ⟨W0,hW0⟩:∃W,W=w.alloc (.cells #[.int .i64 k,.string S1,.string S2,.string S3,.slice A1 n1 c1,.slice A2 n2 c2,.slice A3 n3 c3,.slice A4 n4 c4,.int .i64 p] 27):=⟨_,rfl⟩
 obtain ⟨g0,hg0⟩:∃g,g=w.heap.size:=⟨_,rfl⟩
 have HB:Hid (Below w.heap.size w W0):=by rw [hW0];exact (b_ _ w).alloc (n_ _) _
 have HX:Hid (CB W0 g0 27 [.int .i64 k,.string S1,.string S2,.string S3,.slice A1 n1 c1,.slice A2 n2 c2,.slice A3 n3 c3,.slice A4 n4 c4,.int .i64 p]):=by rw [hW0,hg0];exact CB.new w _ [.int .i64 k,.string S1,.string S2,.string S3,.slice A1 n1 c1,.slice A2 n2 c2,.slice A3 n3 c3,.slice A4 n4 c4,.int .i64 p]
 have c0:W0.cell? ⟨h,0,none⟩=some (.func (.func 54) #[.pointer (some ⟨b,0,none⟩)] #[]):=by rw [World.cell?_of_block (HB.out.block h hh)];exact hc
 have HC:=h_ (HF.out W0 HB.out);have z0:=HX.out.c 0 rfl;have z1:=HX.out.c 1 rfl;have z2:=HX.out.c 2 rfl;have z3:=HX.out.c 3 rfl;have z4:=HX.out.c 4 rfl;have z5:=HX.out.c 5 rfl;have z6:=HX.out.c 6 rfl;have z7:=HX.out.c 7 rfl;have z8:=HX.out.c 8 rfl;clear hc hh HF;go_enter Tryz.func167,Tryz.ntmps167;go_upto_region 1 with fail;rw [<-hW0,<-hg0];clear hW0 hg0;go_wp2_with fail;refine HC.out.mono ?_;rintro e w2 ⟨rfl,hr,hm⟩;have HR:=h_ hr;have HM2:=h_ ((Mv.of_below b HB.out).trans hm);clear hr hm HC HX z0 z1 z2 z3 z4 z5 z6 z7 z8 c0;go_wp2_with fail;go_ret;exact ⟨rfl,HR.out,HM2.out⟩
def allWN {α:Type} (w0:World) (b lvl:Nat) (step:Nat×Nat×Nat->α->Bool×(Nat×Nat×Nat)) (P:Nat×Nat×Nat->Prop) (l:List α) (v:Value):Prop:=∀(i:Nat) (a:α),l[i]?=some a->∃(g og c:Nat) (k p:Int) (S1 S2 S3:ByteArray) (A1 A2 A3 A4:Option Addr) (n1 n2 n3 n4 c1 c2 c3 c4:Nat),v=.slice (some ⟨g,og,none⟩) l.length c/\g<w0.heap.size/\w0.cell? ⟨g,og+i*9,none⟩=some (.int .i64 k)/\w0.cell? ⟨g,og+i*9+1,none⟩=some (.string S1)/\w0.cell? ⟨g,og+i*9+2,none⟩=some (.string S2)/\w0.cell? ⟨g,og+i*9+3,none⟩=some (.string S3)/\w0.cell? ⟨g,og+i*9+4,none⟩=some (.slice A1 n1 c1)/\w0.cell? ⟨g,og+i*9+5,none⟩=some (.slice A2 n2 c2)/\w0.cell? ⟨g,og+i*9+6,none⟩=some (.slice A3 n3 c3)/\w0.cell? ⟨g,og+i*9+7,none⟩=some (.slice A4 n4 c4)/\w0.cell? ⟨g,og+i*9+8,none⟩=some (.int .i64 p) /\
 ∀W s,P s->KS w0 W b lvl s->Calls Tryz.prog 54 #[.pointer (some ⟨b,0,none⟩),.agg #[.int .i64 k,.string S1,.string S2,.string S3,.slice A1 n1 c1,.slice A2 n2 c2,.slice A3 n3 c3,.slice A4 n4 c4,.int .i64 p]] W λ e w'=>e=.returned (.bool (step s a).1)/\(KS w0 w' b lvl (step s a).2/\((step s a).1=true->P (step s a).2))/\Mv b W w'
theorem firstN_any {α:Type} (w0 w:World) (b lvl:Nat) (step:Nat×Nat×Nat->α->Bool×(Nat×Nat×Nat)) (P:Nat×Nat×Nat->Prop) (l:List α) (A:Option Addr) (c h n:Nat) (s0:Nat×Nat×Nat) (hn:l.length=n) (hm:n<=9223372036854775807) (H0:Hid (allWN w0 b lvl step P l (.slice A n c))) (hs:KS w0 w b lvl s0) (hP:P s0) (hc:w.cell? ⟨h,0,none⟩=some (.func (.func 54) #[.pointer (some ⟨b,0,none⟩)] #[])) (hh:h<w.heap.size) (hhb:h≠b) :
  Calls Tryz.prog 199 #[.slice A n c,.func (.func 167) #[] #[.pointer (some ⟨h,0,none⟩)]] w λ e w'=>∃r:Int,e=.returned (.int .i64 r)/\decide (0<=r)=!(foldS step s0 l).1/\(KS w0 w' b lvl (foldS step s0 l).2/\((foldS step s0 l).1=true->P (foldS step s0 l).2))/\Mv b w w':=by
 have HN:=h_ hn;have HM:=h_ hm;have HS:=h_ (And.intro hs hP);have HC0:=h_ (And.intro hc (And.intro hh hhb));clear hn hm hs hc hh hhb hP;go_enter Tryz.func199,Tryz.ntmps199;go_wp2_with fail
 go_loopw [8] (λ iv wr=>∃(i:Nat) (s:Nat×Nat×Nat),i<=n/\iv=.int .i64 (i:Int)/\Hid (foldS step s0 l=foldS step s (l.drop i))/\Hid (KS w0 wr b lvl s/\P s)/\Hid (Mv b w wr)) (λ iv _=>n-(intOf iv).toNat)
 case atStart=>exact ⟨0,s0,Nat.zero_le _,rfl,rfl,HS.out,Mv.refl b w⟩
 case round =>
  obtain ⟨i,s,hi,rfl,HT,HKS,HBW⟩:=hrel
  by_cases him:i<n
  ·have him':(i:Int)<n:=by omega
   have HIM:=h_ him
   obtain ⟨a,ha⟩:∃a,l[i]?=some a:=⟨_,List.getElem?_eq_getElem (by rw [HN.out];exact him)⟩
   have hyc:=H0.out i a ha;rw [HN.out] at hyc;obtain ⟨g,og,c',k,p,S1,S2,S3,A1,A2,A3,A4,n1,n2,n3,n4,c1,c2,c3,c4,hv,hg,y0,y1,y2,y3,y4,y5,y6,y7,y8,hcall⟩:=hyc
   obtain rfl:A=some ⟨g,og,none⟩:=by injection hv
   have hbw:Below w0.heap.size w0 wr:=HKS.out.1.1
   have kb:∀{p:Addr} {u:Value},w0.cell? p=some u->wr.cell? p=some u:=λ hc=>by rw [World.cell?_of_block (hbw.block _ (World.block_lt_of_cell? w0 _ hc))];exact hc
   have u0:=kb y0;have u1:=kb y1;have u2:=kb y2;have u3:=kb y3;have u4:=kb y4;have u5:=kb y5;have u6:=kb y6;have u7:=kb y7;have u8:=kb y8;have HCL:=h_ (notN_any wr b h k p S1 S2 S3 A1 A2 A3 A4 n1 n2 n3 n4 c1 c2 c3 c4 (step s a).1 (λ w'=>KS w0 w' b lvl (step s a).2/\((step s a).1=true->P (step s a).2)) (by rw [World.cell?_of_block (HBW.out.block HC0.out.2.1 HC0.out.2.2)];exact HC0.out.1) (Nat.lt_of_lt_of_le HC0.out.2.1 HBW.out.size) (h_ (λ W hb=>hcall W s HKS.out.2 (HKS.out.1.below hb))))
   have HFD:Hid (foldS step s0 l=if (step s a).1=true then foldS step (step s a).2 (l.drop (i+1)) else (false,(step s a).2)):=by
    show _=_;rw [HT.out,drop_cons2 ha];rfl
   obtain ⟨r,hr⟩:∃r,(step s a).1=r:=⟨_,rfl⟩
   rw [hr] at HCL HFD
   obtain ⟨s2,hs2⟩:∃s2,(step s a).2=s2:=⟨_,rfl⟩
   rw [hs2] at HCL HFD;clear ha hv hg hcall hbw kb hr hs2 HT y0 y1 y2 y3 y4 y5 y6 y7 y8;cases r
   ·go_wp2_with fail;refine HCL.out.mono ?_;rintro e w2 ⟨rfl,hk,hb⟩;have HB2:=h_ (HBW.out.trans hb);have HK2:=h_ hk.1;clear hb hk HCL u0 u1 u2 u3 u4 u5 u6 u7 u8 HBW HKS;go_wp2_with fail;go_ret;refine ⟨_,rfl,?_,?_,HB2.out⟩
    ·rw [HFD.out];simp
    ·rw [HFD.out];exact ⟨HK2.out,λ h=>by simp at h⟩
   ·go_wp2_with fail;refine HCL.out.mono ?_;rintro e w2 ⟨rfl,hk,hb⟩;have HB2:=h_ (HBW.out.trans hb);have HK2:=h_ (And.intro hk.1 (hk.2 trivial));clear hb hk HCL u0 u1 u2 u3 u4 u5 u6 u7 u8 HBW HKS;go_wp2_with fail
    go_roundw
    case rel=>exact ⟨i+1,s2,by have:=HIM.out;omega,by have h1:=HIM.out;have h2:=HM.out;rw [Go.IntWalk.wrap64_in _ ⟨by omega,by omega⟩];rfl,HFD.out,HK2,HB2⟩
    case measure=>have h1:=HIM.out;have h2:=HM.out;rw [Go.IntWalk.wrap64_in _ ⟨by omega,by omega⟩];simp [intOf];omega
  ·have him':¬(i:Int)<n:=by omega
   have HALL:Hid (foldS step s0 l=(true,s)):=by
    show _=_;rw [HT.out,List.drop_eq_nil_of_le (by rw [HN.out];omega)];rfl
   clear hi;go_wp2_with fail;go_ret;refine ⟨_,rfl,?_,?_,HBW.out⟩
   ·rw [HALL.out];rfl
   ·rw [HALL.out];exact ⟨HKS.out.1,λ _=>HKS.out.2⟩
theorem contN_any {α:Type} (w0 w:World) (b lvl:Nat) (step:Nat×Nat×Nat->α->Bool×(Nat×Nat×Nat)) (P:Nat×Nat×Nat->Prop) (l:List α) (A:Option Addr) (c h n:Nat) (s0:Nat×Nat×Nat) (R1:Bool) (R2:Nat×Nat×Nat) (hR:foldS step s0 l=(R1,R2)) (hn:l.length=n) (hm:n<=9223372036854775807) (H0:Hid (allWN w0 b lvl step P l (.slice A n c))) (hs:KS w0 w b lvl s0) (hP:P s0) (hc:w.cell? ⟨h,0,none⟩=some (.func (.func 54) #[.pointer (some ⟨b,0,none⟩)] #[])) (hh:h<w.heap.size) (hhb:h≠b) :
  Calls Tryz.prog 166 #[.slice A n c,.func (.func 167) #[] #[.pointer (some ⟨h,0,none⟩)]] w λ e w'=>e=.returned (.bool (!R1))/\(KS w0 w' b lvl R2/\(R1=true->P R2))/\Mv b w w':=by
 have HC:=h_ (firstN_any w0 w b lvl step P l A c h n s0 hn hm H0 hs hP hc hh hhb);rw [hR] at HC;simp only at HC;clear hn hm H0 hs hP hc hh hhb hR;go_enter Tryz.func166,Tryz.ntmps166;go_wp2_with fail;refine HC.out.mono ?_;rintro e w2 ⟨r,rfl,hr,hb⟩;have HB9:=h_ hb;have HR9:=h_ hr;clear hb hr HC;go_wp2_with fail;go_ret;refine ⟨?_,HB9.out⟩;rw [<-HR9.out];rfl
theorem everyN_any {α:Type} (w0 w:World) (b lvl:Nat) (step:Nat×Nat×Nat->α->Bool×(Nat×Nat×Nat)) (P:Nat×Nat×Nat->Prop) (l:List α) (A:Option Addr) (c n:Nat) (s0:Nat×Nat×Nat) (hn:l.length=n) (hm:n<=9223372036854775807) (H0:Hid (allWN w0 b lvl step P l (.slice A n c))) (hs:KS w0 w b lvl s0) (hP:P s0) :
  Calls Tryz.prog 128 #[.slice A n c,.func (.func 54) #[.pointer (some ⟨b,0,none⟩)] #[]] w λ e w'=>e=.returned (.bool (foldS step s0 l).1)/\(KS w0 w' b lvl (foldS step s0 l).2/\((foldS step s0 l).1=true->P (foldS step s0 l).2))/\Mv b w w':=by
 obtain ⟨W0,hW0⟩:∃W,W=w.alloc (.cells #[.func (.func 54) #[.pointer (some ⟨b,0,none⟩)] #[]] 106):=⟨_,rfl⟩
 obtain ⟨g0,hg0⟩:∃g,g=w.heap.size:=⟨_,rfl⟩
 have HB:Hid (Below w.heap.size w W0):=by rw [hW0];exact (b_ _ w).alloc (n_ _) _
 have HX:Hid (CB W0 g0 106 [.func (.func 54) #[.pointer (some ⟨b,0,none⟩)] #[]]):=by rw [hW0,hg0];exact CB.new w _ [.func (.func 54) #[.pointer (some ⟨b,0,none⟩)] #[]]
 have hne:g0≠b:=by have:=hs.2.lt;omega
 obtain ⟨⟨R1,R2⟩,hR⟩:∃R,foldS step s0 l=R:=⟨_,rfl⟩
 have HC:=h_ (contN_any w0 W0 b lvl step P l A c g0 n s0 R1 R2 hR hn hm H0 (hs.below HB.out) hP (HX.out.c 0 rfl) HX.out.lt hne);rw [hR];simp only;clear hn hm H0 hR HX hs hP hne;go_enter Tryz.func128,Tryz.ntmps128;go_upto_region 1 with fail;rw [<-hW0,<-hg0];clear hW0 hg0;go_wp2_with fail;refine HC.out.mono ?_;rintro e w2 ⟨rfl,hk,hb⟩;have HB9:=h_ ((Mv.of_below b HB.out).trans hb);have HK9:=h_ hk;clear hb hk HC;go_wp2_with fail;go_ret;exact ⟨by cases R1 <;> rfl,HK9.out,HB9.out⟩
end Go.Proofs.YtpgeidpfhakgaaaGreatDoor
namespace Go.Proofs.YtpgeidpfhakgaaaGreatDoor
open Go.RowKit
def GM.len (m:GM):Prop:=m.acts.length<=1000000000000000
mutual
def GN.len:GN->Prop
 |.mk _ _ _ _ en le mo ks _=>en.length<=1000000000000000/\le.length<=1000000000000000/\mo.length<=1000000000000000/\ks.length<=1000000000000000/\(∀m∈mo,m.len)/\GN.lens ks
def GN.lens:List GN->Prop
 |[]=>True
 |x::l=>x.len/\GN.lens l
end
theorem GN.lens_iff:∀{l:List GN},GN.lens l ↔ ∀x∈l,x.len
 |[]=>by rw [GN.lens];simp
 |x::l=>by rw [GN.lens,GN.lens_iff];simp
def ifv (c:Bool) (v:Value):Value:=if c=true then v else undef
theorem ifv_true (v:Value):ifv true v=v:=rfl
theorem ifv_false (v:Value):ifv false v=undef:=rfl
theorem yif {P:Program} {ops:Array Oper} {S:World->Prop} {o:Oper} {a:Act} {v:Value} {c:Bool} (hw:Region.wanted o (yielded ops a.tmps)=c) (h:c=true->∀w,S w->(execOp a.eval o).run P w=.ok (.value v) w):YieldsIf P ops S o (ifv c v) a:=by
 cases c
 ·exact .inr ⟨hw,rfl⟩
 ·exact .inl ⟨hw,h rfl⟩
theorem callq {P:Program} {ops:Array Oper} {Q:Exit->Act->World->Prop} {S:World->Prop} {fuel:Nat} {listed:Array Bool} {a:Act} {w:World} {i:Nat} {o:Oper} {c q:Bool} (T0 T1:World->Prop)
  (ho:ops[i]?=some o) (hr:Region.ready .any ops listed=[i]) (hw:Region.wanted o (yielded ops a.tmps)=c) (h0:c=false->∀w,T0 w->T1 w)
  (hc:c=true->∀K:Act->World->Prop,(∀w',T1 w'->K (a.put o.dst (.bool q)) w')->Oper.wp P o a w K Q)
  (hS:∀w,T1 w->S w) (hT:T0 w)
  (h:∀w',T1 w'->S w'->wpAnyH P .any ops Q S fuel (listed.setIfInBounds i true) (a.put o.dst (ifv c (.bool q))) w') :
  wpAnyH P .any ops Q S (fuel+1) listed a w:=by
 refine wpAnyH_ready (rs:=[i]) hr (by simp) ?_;refine AllReadyH.cons (o:=o) ho (λ K hK=>?_) AllReadyH.nil;cases c
 ·rw [if_neg (by rw [hw];decide)];exact hK.out _ _ (hS _ (h0 rfl _ hT)) (λ s=>h _ (h0 rfl _ hT) s)
 ·rw [if_pos hw];exact hc rfl K (λ w' ht=>hK.out _ _ (hS _ ht) (λ s=>h _ ht s))
abbrev QB (w0 w:World) (b g1 L1:Nat) (V:List Value) (W:World) (t:Nat×Nat×Nat):Prop:=Hid (CB W g1 27 V/\KS w0 W b L1 t/\Mv b w W)
def bdS (lvl:Nat) (s:Nat×Nat×Nat) (ini:List UInt8) (en le:List GA) (mo:List GM) (ks:List GN):Bool×(Nat×Nat×Nat) :=
 if (hdS s ini en le mo).1=true then ndsS (lvl+1) (hdS s ini en le mo).2 ks else (false,(hdS s ini en le mo).2)
theorem bdS_rm {lvl:Nat} {s:Nat×Nat×Nat} {ini:List UInt8} {en le:List GA} {mo:List GM} {ks:List GN} (hs:Rm s) (h:(bdS lvl s ini en le mo ks).1=true):Rm (bdS lvl s ini en le mo ks).2:=by
 unfold bdS at h ⊢
 by_cases c:(hdS s ini en le mo).1=true
 ·rw [if_pos c] at h ⊢;exact ((ndsS_spec ks (lvl+1) _ ((hdS_spec s ini en le mo hs).1 c).1).1 h).1
 ·rw [if_neg c] at h;cases h
def KN (w0:World) (b lvl:Nat) (x:GN):Prop:=∀(w:World) (s:Nat×Nat×Nat) (xs:List Value),KS w0 w b lvl s->Rm s->DxsAt w0 (gNode x) xs->x.rng->x.len->lvl<=12 ->
 Calls Tryz.prog 54 #[.pointer (some ⟨b,0,none⟩),.agg xs.toArray] w λ e w'=>e=.returned (.bool (ndS lvl s x).1)/\(KS w0 w' b lvl (ndS lvl s x).2/\((ndS lvl s x).1=true->Rm (ndS lvl s x).2))/\Mv b w w'
theorem allM_of {w0:World} {b lvl:Nat} {l:List GM} {v:Value} (hb:w0.heap.size<=b) (hx:DxAt w0 (gMoves l) v) (hE:Ee w0) (hr:∀a∈l,a.rng) (hl:∀a∈l,a.len):Hid (allWM w0 b lvl mvS Rm l v):=by
 intro i a ha;obtain ⟨g,og,c,ys,hv,_,_,hg,hy,_,hyc⟩:=DxAt.elem gMove_len (by decide) (show DxAt w0 (.row _ 13 l.length (l.flatMap gMove)) v from hx) ha;obtain ⟨ev,A1,A2,c1,c2,rfl,h1,h2,h3⟩:=move_vals' hy;refine ⟨g,og,c,a.kind,a.wait,a.at_,⟨a.event.toArray⟩,a.guarded,ev,A1,A2,a.acts.length,a.targets.length,c1,c2,hv,hg,hyc 0 _ rfl,hyc 1 _ rfl,hyc 2 _ rfl,hyc 3 _ rfl,hyc 4 _ rfl,hyc 5 _ rfl,hyc 6 _ rfl,hyc 7 _ rfl,hyc 8 _ rfl,hyc 9 _ rfl,hyc 10 _ rfl,hyc 11 _ rfl,hyc 12 _ rfl,λ W s hs hk=>?_⟩;exact kmove_any w0 W b lvl s a ev ⟨a.event.toArray⟩ A1 A2 c1 c2 hE hk hb hs rfl h1 h2 h3 (hr a (List.mem_of_getElem? ha)) (hl a (List.mem_of_getElem? ha))
theorem allN_of {w0:World} {b lvl:Nat} {l:List GN} {v:Value} (hx:DxAt w0 (gKids l) v) (hr:∀a∈l,a.rng) (hl:∀a∈l,a.len) (hlv:lvl<=12) (ih:∀(i:Nat) (a:GN),l[i]?=some a->KN w0 b lvl a):Hid (allWN w0 b lvl (ndS lvl) Rm l v):=by
 intro i a ha;unfold gKids at hx;rw [gNodes_flat] at hx;obtain ⟨g,og,c,ys,hv,_,_,hg,hy,_,hyc⟩:=DxAt.elem gNode_len (by decide) hx ha;have hk:=ih i a ha;have hra:=hr a (List.mem_of_getElem? ha);have hla:=hl a (List.mem_of_getElem? ha);obtain ⟨ka,na,ia,da,ea,la,ma,sa,pa⟩:=a;obtain ⟨A1,A2,A3,A4,c1,c2,c3,c4,rfl,_⟩:=node_v hy;refine ⟨g,og,c,ka,pa,⟨na.toArray⟩,⟨ia.toArray⟩,⟨da.toArray⟩,A1,A2,A3,A4,ea.length,la.length,ma.length,sa.length,c1,c2,c3,c4,hv,hg,hyc 0 _ rfl,hyc 1 _ rfl,hyc 2 _ rfl,hyc 3 _ rfl,hyc 4 _ rfl,hyc 5 _ rfl,hyc 6 _ rfl,hyc 7 _ rfl,hyc 8 _ rfl,λ W s hs hks=>?_⟩;exact hk W s _ hks hs hy hra hla hlv
theorem kbody_any (w0 w:World) (b lvl:Nat) (s:Nat×Nat×Nat) (k p:Int) (nm ini dft:List UInt8) (en le:List GA) (mo:List GM) (ks:List GN) (xs:List Value) (hE:Ee w0) (h:KS w0 w b lvl s) (hb:w0.heap.size<=b) (hs:Rm s) (hx:DxsAt w0 (gNode (.mk k nm ini dft en le mo ks p)) xs) (hr:(GN.mk k nm ini dft en le mo ks p).rng) (hl:(GN.mk k nm ini dft en le mo ks p).len) (hlv:lvl+1<=12) (ih:∀(i:Nat) (a:GN),ks[i]?=some a->KN w0 b (lvl+1) a) :
  Calls Tryz.prog 88 #[.pointer (some ⟨b,0,none⟩),.agg xs.toArray] w λ e w'=>e=.returned (.bool (bdS lvl s ini en le mo ks).1)/\(KS w0 w' b lvl (bdS lvl s ini en le mo ks).2/\((bdS lvl s ini en le mo ks).1=true->Rm (bdS lvl s ini en le mo ks).2))/\Mv b w w':=by
 obtain ⟨A1,A2,A3,A4,Ac1,Ac2,Ac3,Ac4,rfl,a1,a2,a3,a4⟩:=node_v hx;rw [GN.rng] at hr;obtain ⟨_,hri,_,r1,r2,r3,r4⟩:=hr;rw [GN.len] at hl;obtain ⟨l1,l2,l3,l4,l5,l6⟩:=hl;have HSP:=h_ (λ h=>bdS_rm (lvl:=lvl) (ini:=ini) (en:=en) (le:=le) (mo:=mo) (ks:=ks) hs h)
 obtain ⟨N0,hN0⟩:∃N:ByteArray,(⟨nm.toArray⟩:ByteArray)=N:=⟨_,rfl⟩
 obtain ⟨I0,hI0⟩:∃N:ByteArray,(⟨ini.toArray⟩:ByteArray)=N:=⟨_,rfl⟩
 obtain ⟨D0,hD0⟩:∃N:ByteArray,(⟨dft.toArray⟩:ByteArray)=N:=⟨_,rfl⟩
 have eN:txV nm=.string N0:=by rw [<-hN0];rfl
 have eI:txV ini=.string I0:=by rw [<-hI0];rfl
 have eD:txV dft=.string D0:=by rw [<-hD0];rfl
 rw [eN,eI,eD]
 have hIL:I0.data.toList=ini:=by rw [<-hI0]
 have hIS:I0.size<=140737488351232:=by
  have h1:I0.data.toList.length<=140737488351232:=by rw [hIL];exact hri
  exact h1
 obtain ⟨L1,hL1⟩:∃L1,lvl+1=L1:=⟨_,rfl⟩
 have hc1:(lvl:Int)+1=(L1:Int):=by omega
 have hc2:(L1:Int)-1=(lvl:Int):=by omega
 obtain ⟨e0,he0⟩:∃q,I0.toList.isEmpty=q:=⟨_,rfl⟩
 obtain ⟨q0,hq0⟩:∃q,isNm ini=q:=⟨_,rfl⟩
 obtain ⟨⟨q1,s1⟩,hq1⟩:∃q,blkC s en=q:=⟨_,rfl⟩
 obtain ⟨⟨q2,s2⟩,hq2⟩:∃q,blkC s1 le=q:=⟨_,rfl⟩
 obtain ⟨q3,hq3⟩:∃q,decide (s2.2.1+mo.length<=200)=q:=⟨_,rfl⟩
 obtain ⟨s3,hs3⟩:∃q,(s2.1,s2.2.1+mo.length,s2.2.2)=q:=⟨_,rfl⟩
 obtain ⟨⟨q4,s4⟩,hq4⟩:∃q,foldS mvS s3 mo=q:=⟨_,rfl⟩
 obtain ⟨⟨q5,s5⟩,hq5⟩:∃q,foldS (ndS L1) s4 ks=q:=⟨_,rfl⟩
 have HR0:Hid (bdS lvl s ini en le mo ks=if (e0 || q0)=true then (if q1=true then (if q2=true then (if q3=true then (if q4=true then (q5,s5) else (false,s4)) else (false,s3)) else (false,s2)) else (false,s1)) else (false,s)):=by
  show _=_
  have e1:(ini.isEmpty || isNm ini)=(e0 || q0):=by rw [<-he0,<-hq0,Lib.toList_data,hIL]
  unfold bdS hdS;rw [e1,hq1];simp only;rw [hq2];simp only;rw [hs3,hq4]
  by_cases c0:(e0 || q0)=true
  ·rw [if_pos c0,if_pos c0];cases q1
   ·rfl
   ·cases q2
    ·rfl
    ·cases q3
     ·rw [if_neg (of_decide_eq_false hq3)];rfl
     ·rw [if_pos (of_decide_eq_true hq3)];cases q4
      ·rfl
      ·simp only [if_true];rw [ndsS_fold,hL1,hq5]
  ·rw [if_neg c0,if_neg c0];rfl
 obtain ⟨c0,hc0⟩:∃c,(e0 || q0)=c:=⟨_,rfl⟩
 obtain ⟨d1,hd1⟩:∃c,(c0&&q1)=c:=⟨_,rfl⟩
 obtain ⟨d2,hd2⟩:∃c,(d1&&q2)=c:=⟨_,rfl⟩
 obtain ⟨d3,hd3⟩:∃c,(d2&&q3)=c:=⟨_,rfl⟩
 obtain ⟨d4,hd4⟩:∃c,(d3&&q4)=c:=⟨_,rfl⟩
 obtain ⟨d5,hd5⟩:∃c,(d4&&q5)=c:=⟨_,rfl⟩
 obtain ⟨t1,ht1⟩:∃t,(if c0=true then s1 else s)=t:=⟨_,rfl⟩
 obtain ⟨t2,ht2⟩:∃t,(if d1=true then s2 else t1)=t:=⟨_,rfl⟩
 obtain ⟨t3,ht3⟩:∃t,(if d2=true then s3 else t2)=t:=⟨_,rfl⟩
 obtain ⟨t4,ht4⟩:∃t,(if d3=true then s4 else t3)=t:=⟨_,rfl⟩
 obtain ⟨t5,ht5⟩:∃t,(if d4=true then s5 else t4)=t:=⟨_,rfl⟩
 have HR:Hid (bdS lvl s ini en le mo ks=(d5,t5)):=by
  show _=_;rw [HR0.out,hc0,<-ht5,<-ht4,<-ht3,<-ht2,<-ht1,<-hd5,<-hd4,<-hd3,<-hd2,<-hd1]
  cases c0 <;> cases q1 <;> cases q2 <;> cases q3 <;> cases q4 <;> rfl
 have e1:d1=true->c0=true/\q1=true:=λ h=>by rw [<-hd1] at h;simpa using h
 have e2:d2=true->d1=true/\q2=true:=λ h=>by rw [<-hd2] at h;simpa using h
 have e3:d3=true->d2=true/\q3=true:=λ h=>by rw [<-hd3] at h;simpa using h
 have e4:d4=true->d3=true/\q4=true:=λ h=>by rw [<-hd4] at h;simpa using h
 have E1:d1=true->t1=s1:=λ h=>by rw [<-ht1,if_pos (e1 h).1]
 have E2:d2=true->t2=s2:=λ h=>by rw [<-ht2,if_pos (e2 h).1]
 have E3:d3=true->t3=s3:=λ h=>by rw [<-ht3,if_pos (e3 h).1]
 have E4:d4=true->t4=s4:=λ h=>by rw [<-ht4,if_pos (e4 h).1]
 have b1:=blkC_spec s en hs;rw [hq1] at b1;have hm1:q1=true->Rm s1:=λ c=>(b1.1 c).1
 have hm2:q1=true->q2=true->Rm s2:=λ c c2=>by
  have:=blkC_spec s1 le (hm1 c);rw [hq2] at this;exact (this.1 c2).1
 have hm3:q1=true->q2=true->q3=true->Rm s3:=λ c c2 c3=>by
  rw [<-hs3];exact ⟨(hm2 c c2).1,by rw [<-hq3] at c3;exact of_decide_eq_true c3,(hm2 c c2).2.2⟩
 obtain ⟨W1,hW1⟩:∃W,W=w.alloc (.cells #[.int .i64 k,.string N0,.string I0,.string D0,.slice A1 en.length Ac1,.slice A2 le.length Ac2,.slice A3 mo.length Ac3,.slice A4 ks.length Ac4,.int .i64 p] 27):=⟨_,rfl⟩
 obtain ⟨g1,hg1⟩:∃g,g=w.heap.size:=⟨_,rfl⟩
 have hal:Below w.heap.size w W1:=by rw [hW1];exact (b_ _ w).alloc (n_ _) _
 have HX:Hid (CB W1 g1 27 [.int .i64 k,.string N0,.string I0,.string D0,.slice A1 en.length Ac1,.slice A2 le.length Ac2,.slice A3 mo.length Ac3,.slice A4 ks.length Ac4,.int .i64 p]/\KS w0 W1 b lvl s/\Mv b w W1):=⟨by rw [hW1,hg1];exact CB.new w _ [.int .i64 k,.string N0,.string I0,.string D0,.slice A1 en.length Ac1,.slice A2 le.length Ac2,.slice A3 mo.length Ac3,.slice A4 ks.length Ac4,.int .i64 p],h.below hal,Mv.of_below b hal⟩
 have hgb:g1≠b:=by have:=h.2.lt;rw [hg1];exact λ e=>by omega
 have F0:=λ (W:World) (hw:Below w0.heap.size w0 W)=>name_any I0 W hIS (hE.below hw).vr.kw;have F1:=λ (W:World) (hk:KS w0 W b L1 s)=>kblock_any w0 W b L1 s en A1 Ac1 hE hk hb hs a1 r1 l1;have F2:=λ (c:q1=true) (W:World) (hk:KS w0 W b L1 s1)=>kblock_any w0 W b L1 s1 le A2 Ac2 hE hk hb (hm1 c) a2 r2 l2;have F3:=λ (c:q1=true) (c2:q2=true) (W:World) (hk:KS w0 W b L1 s2)=>kcount_any W b 1 s2.2.1 mo.length 200 (hk.2.c 1 rfl) (hk.2.fr 1) (by have:=(hm2 c c2).2.1;omega);have F4:=λ (c:q1=true) (c2:q2=true) (c3:q3=true) (W:World) (hk:KS w0 W b L1 s3)=>everyM_any w0 W b L1 mvS Rm mo A3 Ac3 mo.length s3 rfl (by omega) (allM_of hb a3 hE r3 l5) hk (hm3 c c2 c3);have F5:=λ (hR4:Rm s4) (W:World) (hk:KS w0 W b L1 s4)=>everyN_any w0 W b L1 (ndS L1) Rm ks A4 Ac4 ks.length s4 rfl (by omega) (allN_of a4 (GN.rngs_iff.1 r4) (GN.lens_iff.1 l6) (by omega) (by rw [<-hL1];exact ih)) hk hR4
 have hm4:q1=true->q2=true->q3=true->q4=true->Rm s4:=λ c c2 c3 c4=>by
  have:=mvsS_spec mo s3 (hm3 c c2 c3);rw [hq4] at this;exact (this.1 c4).1
 rw [hIL,hq0] at F0;rw [hq1] at F1;rw [hq2] at F2;rw [hq3] at F3;rw [hq4] at F4;rw [hq5] at F5;simp only at F1 F2 F4 F5;clear b1 hm1 hm2 hm3 hx hri r1 r2 r3 r4 l1 l2 l3 l5 l6 a1 a2 a3 a4 ih hN0 hI0 hD0 eN eI eD hIL hIS hE hs hq0 hq1 hq2 hq3 hq4 hq5
 obtain ⟨n1,hn1⟩:∃n,en.length=n:=⟨_,rfl⟩
 obtain ⟨n2,hn2⟩:∃n,le.length=n:=⟨_,rfl⟩
 obtain ⟨n3,hn3⟩:∃n,mo.length=n:=⟨_,rfl⟩
 obtain ⟨n4,hn4⟩:∃n,ks.length=n:=⟨_,rfl⟩
 rw [hn1] at F1 HX hW1 ⊢;rw [hn2] at F2 HX hW1 ⊢;rw [hn3] at F3 F4 hs3 HX hW1 ⊢;rw [hn4] at F5 HX hW1 ⊢
 obtain ⟨V,hV⟩:∃V:List Value,[.int .i64 k,.string N0,.string I0,.string D0,.slice A1 n1 Ac1,.slice A2 n2 Ac2,.slice A3 n3 Ac3,.slice A4 n4 Ac4,.int .i64 p]=V:=⟨_,rfl⟩
 rw [hV] at HX
 have HC0:Hid (∀W,QB w0 w b g1 L1 V W s->Calls Tryz.prog 86 #[.string I0] W (λ e w'=>e=.returned (.bool q0)/\QB w0 w b g1 L1 V w' s)):=λ W hq=>by
  refine (F0 W hq.out.2.1.1).mono ?_;rintro e w' ⟨rfl,rfl⟩;exact ⟨rfl,hq⟩
 have HC1:Hid (c0=true->∀W,QB w0 w b g1 L1 V W s->Calls Tryz.prog 125 #[.pointer (some ⟨b,0,none⟩),.slice A1 n1 Ac1] W (λ e w'=>e=.returned (.bool q1)/\QB w0 w b g1 L1 V w' t1)):=λ c1 W hq=>by
  refine (F1 W hq.out.2.1).mono ?_;rintro e w' ⟨rfl,hk,hm⟩;have c:=hq.out.1.mv hm hgb;refine ⟨rfl,c,?_,hq.out.2.2.trans hm⟩;rw [<-ht1,if_pos c1];exact hk.1
 have HC2:Hid (d1=true->∀W,QB w0 w b g1 L1 V W t1->Calls Tryz.prog 125 #[.pointer (some ⟨b,0,none⟩),.slice A2 n2 Ac2] W (λ e w'=>e=.returned (.bool q2)/\QB w0 w b g1 L1 V w' t2)):=λ c1 W hq=>by
  rw [E1 c1] at hq;refine (F2 (e1 c1).2 W hq.out.2.1).mono ?_;rintro e w' ⟨rfl,hk,hm⟩;have c:=hq.out.1.mv hm hgb;refine ⟨rfl,c,?_,hq.out.2.2.trans hm⟩;rw [<-ht2,if_pos c1];exact hk.1
 have HC3:Hid (d2=true->∀W,QB w0 w b g1 L1 V W t2->Calls Tryz.prog 87 #[.pointer (some ⟨b,1,none⟩),.int .i64 (n3:Int),.int .i64 200] W (λ e w'=>e=.returned (.bool q3)/\QB w0 w b g1 L1 V w' t3)):=λ c1 W hq=>by
  rw [E2 c1] at hq;refine (F3 (e1 (e2 c1).1).2 (e2 c1).2 W hq.out.2.1).mono ?_;rintro e w' ⟨rfl,rfl⟩;have c:=hq.out.1.other hgb 1 (.int .i64 ((s2.2.1+n3:Nat):Int));refine ⟨rfl,c,?_,hq.out.2.2.trans ((Mv.refl b W).set 1 _)⟩;rw [<-ht3,if_pos c1,<-hs3];exact KS.set1 (n:=s2.1) (m:=s2.2.1) (a:=s2.2.2) hq.out.2.1 hb _
 have HC4:Hid (d3=true->∀W,QB w0 w b g1 L1 V W t3->Calls Tryz.prog 126 #[.slice A3 n3 Ac3,.func (.func 127) #[.pointer (some ⟨b,0,none⟩)] #[]] W (λ e w'=>e=.returned (.bool q4)/\QB w0 w b g1 L1 V w' t4)):=λ c1 W hq=>by
  rw [E3 c1] at hq;refine (F4 (e1 (e2 (e3 c1).1).1).2 (e2 (e3 c1).1).2 (e3 c1).2 W hq.out.2.1).mono ?_;rintro e w' ⟨rfl,hk,hm⟩;have c:=hq.out.1.mv hm hgb;refine ⟨rfl,c,?_,hq.out.2.2.trans hm⟩;rw [<-ht4,if_pos c1];exact hk.1
 have HC5:Hid (d4=true->∀W,QB w0 w b g1 L1 V W t4->Calls Tryz.prog 128 #[.slice A4 n4 Ac4,.func (.func 54) #[.pointer (some ⟨b,0,none⟩)] #[]] W (λ e w'=>e=.returned (.bool q5)/\QB w0 w b g1 L1 V w' t5)):=λ c1 W hq=>by
  rw [E4 c1] at hq;refine (F5 (hm4 (e1 (e2 (e3 (e4 c1).1).1).1).2 (e2 (e3 (e4 c1).1).1).2 (e3 (e4 c1).1).2 (e4 c1).2) W hq.out.2.1).mono ?_;rintro e w' ⟨rfl,hk,hm⟩;have c:=hq.out.1.mv hm hgb;refine ⟨rfl,c,?_,hq.out.2.2.trans hm⟩;rw [<-ht5,if_pos c1];exact hk.1
 have HT:Hid ((c0=false->t1=s)/\(d1=false->t2=t1)/\(d2=false->t3=t2)/\(d3=false->t4=t3)/\(d4=false->t5=t4)):=by
  refine ⟨λ h=>?_,λ h=>?_,λ h=>?_,λ h=>?_,λ h=>?_⟩
  ·rw [<-ht1,h];rfl
  ·rw [<-ht2,h];rfl
  ·rw [<-ht3,h];rfl
  ·rw [<-ht4,h];rfl
  ·rw [<-ht5,h];rfl
 have HDE:=h_ (And.intro hc0 (And.intro hd1 (And.intro hd2 (And.intro hd3 (And.intro hd4 hd5)))))
 have SEE:Hid (∀(W:World) (t:Nat×Nat×Nat),QB w0 w b g1 L1 V W t->W.cell? ⟨g1,2,none⟩=some (.string I0)/\W.cell? ⟨g1,4,none⟩=some (.slice A1 n1 Ac1)/\W.cell? ⟨g1,5,none⟩=some (.slice A2 n2 Ac2)/\W.cell? ⟨g1,6,none⟩=some (.slice A3 n3 Ac3)/\W.cell? ⟨g1,7,none⟩=some (.slice A4 n4 Ac4)):=λ W t hq=>by
  have c:=hq.out.1;rw [<-hV] at c;exact ⟨c.c 2 rfl,c.c 4 rfl,c.c 5 rfl,c.c 6 rfl,c.c 7 rfl⟩
 have x3:=HX.out.2.1.2.c 3 rfl;have f3:=HX.out.2.1.2.fr 3
 obtain ⟨W2,hW2⟩:∃W,W=W1.setCell ⟨b,3,none⟩ (.int .i64 (L1:Int)):=⟨_,rfl⟩
 have HQ0:QB w0 w b g1 L1 V W2 s:=by rw [hW2];exact ⟨HX.out.1.other hgb 3 _,HX.out.2.1.set3 hb L1,HX.out.2.2.trans ((Mv.refl b W1).set 3 _)⟩
 have HQ:QB w0 w b g1 L1 V W2.drew s:=by
  have hd:Below W2.heap.size W2 W2.drew:=(b_ _ W2).drew;exact ⟨HQ0.out.1.below hd,HQ0.out.2.1.below hd,HQ0.out.2.2.trans (Mv.of_below b hd)⟩
 have HBB:=h_ hb;have HLV:=h_ (And.intro hL1 hlv);obtain ⟨z2,z4,z5,z6,z7⟩:=SEE.out W2 s HQ0
 have HFIN:Hid (∀(W:World) (t:Nat×Nat×Nat),QB w0 w b g1 L1 V W t->∃W3,W3=W.setCell ⟨b,3,none⟩ (.int .i64 (lvl:Int))/\W.cell? ⟨b,3,none⟩=some (.int .i64 (L1:Int))/\W.frozen? ⟨b,3,none⟩=false/\Hid (KS w0 W3 b lvl t/\Mv b w W3)):=λ W t hq=>by
  refine ⟨_,rfl,hq.out.2.1.2.c 3 rfl,hq.out.2.1.2.fr 3,?_,?_⟩
  ·exact KS.set3 hq.out.2.1 hb lvl
  ·exact hq.out.2.2.trans ((Mv.refl b W).set 3 _)
 clear hc0 hd1 hd2 hd3 hd4 hd5 ht1 ht2 ht3 ht4 ht5 e1 e2 e3 e4 E1 E2 E3 E4 HR0;clear F0 F1 F2 F3 F4 F5 hm4 hn1 hn2 hn3 hn4 hs3 l4 h hal HX hV hL1 hlv hb hgb HQ0;go_enter Tryz.func88,Tryz.ntmps88;go_upto_region 1 with fail;rw [<-hW1,<-hg1];clear hW1 hg1;go_upto_region 2 with fail
 try rw [hc1]
 try (rw [Go.IntWalk.wrap64_in (L1:Int) (by have:=HLV.out;exact ⟨by omega,by omega⟩)])
 rw [<-hW2];clear hW2 x3 f3 hc1;refine wp_region_held_drew (S:=λ W=>W.cell? ⟨g1,2,none⟩=some (.string I0)/\W.cell? ⟨g1,4,none⟩=some (.slice A1 n1 Ac1)/\W.cell? ⟨g1,5,none⟩=some (.slice A2 n2 Ac2)/\W.cell? ⟨g1,6,none⟩=some (.slice A3 n3 Ac3)/\W.cell? ⟨g1,7,none⟩=some (.slice A4 n4 Ac4)) (by kernel_rfl) (SEE.out _ _ HQ) (λ hHeld=>?_);refine wpAnyH_take (i:=0) (v:=.pointer (some ⟨g1,2,none⟩)) (by simp only [t_,z_];rfl) (by kernel_rfl) (by kernel_rfl) (by kernel_rfl) (by exact λ _ _ _ h=>h) (Or.inl ⟨by rfl,by intro W hSw;obtain ⟨x2,x4,x5,x6,x7⟩:=hSw;go_simp⟩) (by assumption) ?_;simp only [Act.put,u_,v_,k_];refine wpAnyH_take (i:=1) (v:=.string I0) (by simp only [t_,z_,s_];rfl) (by kernel_rfl) (by kernel_rfl) (by kernel_rfl) (by exact λ _ _ _ h=>h) (Or.inl ⟨by rfl,by intro W hSw;obtain ⟨x2,x4,x5,x6,x7⟩:=hSw;go_simp⟩) (by assumption) ?_;simp only [Act.put,u_,v_,k_];refine wpAnyH_take (i:=2) (v:=.bool e0) (by simp only [t_,z_,s_];rfl) (by kernel_rfl) (by kernel_rfl) (by kernel_rfl) (by exact λ _ _ _ h=>h) (Or.inl ⟨by rfl,by intro W hSw;obtain ⟨x2,x4,x5,x6,x7⟩:=hSw;go_simp⟩) (by assumption) ?_;simp only [Act.put,u_,v_,k_];refine wpAnyH_take (i:=3) (v:=.bool e0) (by simp only [t_,z_,s_];rfl) (by kernel_rfl) (by kernel_rfl) (by kernel_rfl) (by exact λ _ _ _ h=>h) (Or.inl ⟨by rfl,by intro W hSw;obtain ⟨x2,x4,x5,x6,x7⟩:=hSw;go_simp⟩) (by assumption) ?_;simp only [Act.put,u_,v_,k_];refine wpAnyH_take (i:=4) (v:=ifv (!e0) (.pointer (some ⟨g1,2,none⟩))) (by simp only [t_,z_,s_];rfl) (by kernel_rfl) (by kernel_rfl) (by kernel_rfl) (by exact λ _ _ _ h=>h) (yif (c:=(!e0)) (by cases e0 <;> rfl) (by intro hc W hSw;obtain ⟨x2,x4,x5,x6,x7⟩:=hSw;cases e0;rotate_left;(exact absurd hc (by decide));(try simp only [Bool.not_false,ifv_true]);go_simp)) (by assumption) ?_;simp only [Act.put,u_,v_,k_];refine wpAnyH_take (i:=5) (v:=ifv (!e0) (.string I0)) (by simp only [t_,z_,s_];rfl) (by kernel_rfl) (by kernel_rfl) (by kernel_rfl) (by exact λ _ _ _ h=>h) (yif (c:=(!e0)) (by cases e0 <;> rfl) (by intro hc W hSw;obtain ⟨x2,x4,x5,x6,x7⟩:=hSw;cases e0;rotate_left;(exact absurd hc (by decide));(try simp only [Bool.not_false,ifv_true]);go_simp)) (by assumption) ?_;simp only [Act.put,u_,v_,k_];refine callq (i:=6) (c:=(!e0)) (q:=q0) (λ W=>QB w0 w b g1 L1 V W s) (λ W=>QB w0 w b g1 L1 V W s) (by simp only [t_,z_,s_];rfl) (by kernel_rfl) (by cases e0 <;> rfl) (λ hc W hq=>hq) ?_ (λ W hq=>SEE.out W _ hq) HQ ?_
 ·intro hc K hK;clear hHeld;cases e0;rotate_left;(exact absurd hc (by decide))
  try simp only [Bool.not_false,ifv_true] at hK ⊢
  go_simp;refine (HC0.out _ HQ).mono ?_;rintro e wa ⟨rfl,hq⟩;exact hK wa hq
 clear HQ hHeld;intro wa HQ hHeld;simp only [Act.put,u_,v_,k_];refine wpAnyH_take (i:=7) (v:=.bool (e0 || q0)) (by simp only [t_,z_,s_];rfl) (by kernel_rfl) (by kernel_rfl) (by kernel_rfl) (by exact λ _ _ _ h=>h) (Or.inl ⟨by rfl,by intro W hSw;clear hSw;cases e0 <;> simp only [Bool.not_false,Bool.not_true,ifv_true,ifv_false,Bool.true_or,Bool.false_or] <;> go_simp⟩) (by assumption) ?_;simp only [Act.put,u_,v_,k_];rw [HDE.out.1];refine wpAnyH_take (i:=8) (v:=.bool c0) (by simp only [t_,z_,s_];rfl) (by kernel_rfl) (by kernel_rfl) (by kernel_rfl) (by exact λ _ _ _ h=>h) (Or.inl ⟨by rfl,by intro W hSw;obtain ⟨x2,x4,x5,x6,x7⟩:=hSw;go_simp⟩) (by assumption) ?_;simp only [Act.put,u_,v_,k_];refine wpAnyH_take (i:=9) (v:=ifv c0 (.pointer (some ⟨b,0,none⟩))) (by simp only [t_,z_,s_];rfl) (by kernel_rfl) (by kernel_rfl) (by kernel_rfl) (by exact λ _ _ _ h=>h) (yif (c:=c0) (by cases c0 <;> rfl) (by intro hc W hSw;obtain ⟨x2,x4,x5,x6,x7⟩:=hSw;subst hc;(try simp only [ifv_true]);go_simp)) (by assumption) ?_;simp only [Act.put,u_,v_,k_];refine wpAnyH_take (i:=10) (v:=ifv c0 (.pointer (some ⟨g1,4,none⟩))) (by simp only [t_,z_,s_];rfl) (by kernel_rfl) (by kernel_rfl) (by kernel_rfl) (by exact λ _ _ _ h=>h) (yif (c:=c0) (by cases c0 <;> rfl) (by intro hc W hSw;obtain ⟨x2,x4,x5,x6,x7⟩:=hSw;subst hc;(try simp only [ifv_true]);go_simp)) (by assumption) ?_;simp only [Act.put,u_,v_,k_];refine wpAnyH_take (i:=11) (v:=ifv c0 (.slice A1 n1 Ac1)) (by simp only [t_,z_,s_];rfl) (by kernel_rfl) (by kernel_rfl) (by kernel_rfl) (by exact λ _ _ _ h=>h) (yif (c:=c0) (by cases c0 <;> rfl) (by intro hc W hSw;obtain ⟨x2,x4,x5,x6,x7⟩:=hSw;subst hc;(try simp only [ifv_true]);go_simp)) (by assumption) ?_;simp only [Act.put,u_,v_,k_];refine callq (i:=12) (c:=c0) (q:=q1) (λ W=>QB w0 w b g1 L1 V W s) (λ W=>QB w0 w b g1 L1 V W t1) (by simp only [t_,z_,s_];rfl) (by kernel_rfl) (by cases c0 <;> rfl) (λ hc W hq=>by rw [HT.out.1 hc];exact hq) ?_ (λ W hq=>SEE.out W _ hq) HQ ?_
 ·intro hc K hK;clear hHeld;subst hc
  try simp only [ifv_true] at hK ⊢
  go_simp;refine (HC1.out rfl _ HQ).mono ?_;rintro e wa ⟨rfl,hq⟩;exact hK wa hq
 clear HQ hHeld;intro wa HQ hHeld;simp only [Act.put,u_,v_,k_];refine wpAnyH_take (i:=13) (v:=.bool (c0&&q1)) (by simp only [t_,z_,s_];rfl) (by kernel_rfl) (by kernel_rfl) (by kernel_rfl) (by exact λ _ _ _ h=>h) (Or.inl ⟨by rfl,by intro W hSw;clear hSw;cases c0 <;> simp only [ifv_true,ifv_false,Bool.true_and,Bool.false_and] <;> go_simp⟩) (by assumption) ?_;simp only [Act.put,u_,v_,k_];rw [HDE.out.2.1];refine wpAnyH_take (i:=14) (v:=.bool d1) (by simp only [t_,z_,s_];rfl) (by kernel_rfl) (by kernel_rfl) (by kernel_rfl) (by exact λ _ _ _ h=>h) (Or.inl ⟨by rfl,by intro W hSw;obtain ⟨x2,x4,x5,x6,x7⟩:=hSw;go_simp⟩) (by assumption) ?_;simp only [Act.put,u_,v_,k_];refine wpAnyH_take (i:=15) (v:=ifv d1 (.pointer (some ⟨b,0,none⟩))) (by simp only [t_,z_,s_];rfl) (by kernel_rfl) (by kernel_rfl) (by kernel_rfl) (by exact λ _ _ _ h=>h) (yif (c:=d1) (by cases d1 <;> rfl) (by intro hc W hSw;obtain ⟨x2,x4,x5,x6,x7⟩:=hSw;subst hc;(try simp only [ifv_true]);go_simp)) (by assumption) ?_;simp only [Act.put,u_,v_,k_];refine wpAnyH_take (i:=16) (v:=ifv d1 (.pointer (some ⟨g1,5,none⟩))) (by simp only [t_,z_,s_];rfl) (by kernel_rfl) (by kernel_rfl) (by kernel_rfl) (by exact λ _ _ _ h=>h) (yif (c:=d1) (by cases d1 <;> rfl) (by intro hc W hSw;obtain ⟨x2,x4,x5,x6,x7⟩:=hSw;subst hc;(try simp only [ifv_true]);go_simp)) (by assumption) ?_;simp only [Act.put,u_,v_,k_];refine wpAnyH_take (i:=17) (v:=ifv d1 (.slice A2 n2 Ac2)) (by simp only [t_,z_,s_];rfl) (by kernel_rfl) (by kernel_rfl) (by kernel_rfl) (by exact λ _ _ _ h=>h) (yif (c:=d1) (by cases d1 <;> rfl) (by intro hc W hSw;obtain ⟨x2,x4,x5,x6,x7⟩:=hSw;subst hc;(try simp only [ifv_true]);go_simp)) (by assumption) ?_;simp only [Act.put,u_,v_,k_];refine callq (i:=18) (c:=d1) (q:=q2) (λ W=>QB w0 w b g1 L1 V W t1) (λ W=>QB w0 w b g1 L1 V W t2) (by simp only [t_,z_,s_];rfl) (by kernel_rfl) (by cases d1 <;> rfl) (λ hc W hq=>by rw [HT.out.2.1 hc];exact hq) ?_ (λ W hq=>SEE.out W _ hq) HQ ?_
 ·intro hc K hK;clear hHeld;subst hc
  try simp only [ifv_true] at hK ⊢
  go_simp;refine (HC2.out rfl _ HQ).mono ?_;rintro e wa ⟨rfl,hq⟩;exact hK wa hq
 clear HQ hHeld;intro wa HQ hHeld;simp only [Act.put,u_,v_,k_];refine wpAnyH_take (i:=19) (v:=.bool (d1&&q2)) (by simp only [t_,z_,s_];rfl) (by kernel_rfl) (by kernel_rfl) (by kernel_rfl) (by exact λ _ _ _ h=>h) (Or.inl ⟨by rfl,by intro W hSw;clear hSw;cases d1 <;> simp only [ifv_true,ifv_false,Bool.true_and,Bool.false_and] <;> go_simp⟩) (by assumption) ?_;simp only [Act.put,u_,v_,k_];rw [HDE.out.2.2.1];refine wpAnyH_take (i:=20) (v:=.bool d2) (by simp only [t_,z_,s_];rfl) (by kernel_rfl) (by kernel_rfl) (by kernel_rfl) (by exact λ _ _ _ h=>h) (Or.inl ⟨by rfl,by intro W hSw;obtain ⟨x2,x4,x5,x6,x7⟩:=hSw;go_simp⟩) (by assumption) ?_;simp only [Act.put,u_,v_,k_];refine wpAnyH_take (i:=21) (v:=ifv d2 (.pointer (some ⟨b,0,none⟩))) (by simp only [t_,z_,s_];rfl) (by kernel_rfl) (by kernel_rfl) (by kernel_rfl) (by exact λ _ _ _ h=>h) (yif (c:=d2) (by cases d2 <;> rfl) (by intro hc W hSw;obtain ⟨x2,x4,x5,x6,x7⟩:=hSw;subst hc;(try simp only [ifv_true]);go_simp)) (by assumption) ?_;simp only [Act.put,u_,v_,k_];refine wpAnyH_take (i:=22) (v:=ifv d2 (.pointer (some ⟨b,0,none⟩))) (by simp only [t_,z_,s_];rfl) (by kernel_rfl) (by kernel_rfl) (by kernel_rfl) (by exact λ _ _ _ h=>h) (yif (c:=d2) (by cases d2 <;> rfl) (by intro hc W hSw;obtain ⟨x2,x4,x5,x6,x7⟩:=hSw;subst hc;(try simp only [ifv_true]);go_simp)) (by assumption) ?_;simp only [Act.put,u_,v_,k_];refine wpAnyH_take (i:=23) (v:=ifv d2 (.pointer (some ⟨b,1,none⟩))) (by simp only [t_,z_,s_];rfl) (by kernel_rfl) (by kernel_rfl) (by kernel_rfl) (by exact λ _ _ _ h=>h) (yif (c:=d2) (by cases d2 <;> rfl) (by intro hc W hSw;obtain ⟨x2,x4,x5,x6,x7⟩:=hSw;subst hc;(try simp only [ifv_true]);go_simp)) (by assumption) ?_;simp only [Act.put,u_,v_,k_];refine wpAnyH_take (i:=24) (v:=ifv d2 (.pointer (some ⟨g1,6,none⟩))) (by simp only [t_,z_,s_];rfl) (by kernel_rfl) (by kernel_rfl) (by kernel_rfl) (by exact λ _ _ _ h=>h) (yif (c:=d2) (by cases d2 <;> rfl) (by intro hc W hSw;obtain ⟨x2,x4,x5,x6,x7⟩:=hSw;subst hc;(try simp only [ifv_true]);go_simp)) (by assumption) ?_;simp only [Act.put,u_,v_,k_];refine wpAnyH_take (i:=25) (v:=ifv d2 (.slice A3 n3 Ac3)) (by simp only [t_,z_,s_];rfl) (by kernel_rfl) (by kernel_rfl) (by kernel_rfl) (by exact λ _ _ _ h=>h) (yif (c:=d2) (by cases d2 <;> rfl) (by intro hc W hSw;obtain ⟨x2,x4,x5,x6,x7⟩:=hSw;subst hc;(try simp only [ifv_true]);go_simp)) (by assumption) ?_;simp only [Act.put,u_,v_,k_];refine wpAnyH_take (i:=26) (v:=ifv d2 (.int .i64 (n3:Int))) (by simp only [t_,z_,s_];rfl) (by kernel_rfl) (by kernel_rfl) (by kernel_rfl) (by exact λ _ _ _ h=>h) (yif (c:=d2) (by cases d2 <;> rfl) (by intro hc W hSw;obtain ⟨x2,x4,x5,x6,x7⟩:=hSw;subst hc;(try simp only [ifv_true]);go_simp)) (by assumption) ?_;simp only [Act.put,u_,v_,k_];refine callq (i:=27) (c:=d2) (q:=q3) (λ W=>QB w0 w b g1 L1 V W t2) (λ W=>QB w0 w b g1 L1 V W t3) (by simp only [t_,z_,s_];rfl) (by kernel_rfl) (by cases d2 <;> rfl) (λ hc W hq=>by rw [HT.out.2.2.1 hc];exact hq) ?_ (λ W hq=>SEE.out W _ hq) HQ ?_
 ·intro hc K hK;clear hHeld;subst hc
  try simp only [ifv_true] at hK ⊢
  go_simp;refine (HC3.out rfl _ HQ).mono ?_;rintro e wa ⟨rfl,hq⟩;exact hK wa hq
 clear HQ hHeld;intro wa HQ hHeld;simp only [Act.put,u_,v_,k_];refine wpAnyH_take (i:=28) (v:=.bool (d2&&q3)) (by simp only [t_,z_,s_];rfl) (by kernel_rfl) (by kernel_rfl) (by kernel_rfl) (by exact λ _ _ _ h=>h) (Or.inl ⟨by rfl,by intro W hSw;clear hSw;cases d2 <;> simp only [ifv_true,ifv_false,Bool.true_and,Bool.false_and] <;> go_simp⟩) (by assumption) ?_;simp only [Act.put,u_,v_,k_];rw [HDE.out.2.2.2.1];refine wpAnyH_take (i:=29) (v:=.bool d3) (by simp only [t_,z_,s_];rfl) (by kernel_rfl) (by kernel_rfl) (by kernel_rfl) (by exact λ _ _ _ h=>h) (Or.inl ⟨by rfl,by intro W hSw;obtain ⟨x2,x4,x5,x6,x7⟩:=hSw;go_simp⟩) (by assumption) ?_;simp only [Act.put,u_,v_,k_];refine wpAnyH_take (i:=30) (v:=ifv d3 (.pointer (some ⟨g1,6,none⟩))) (by simp only [t_,z_,s_];rfl) (by kernel_rfl) (by kernel_rfl) (by kernel_rfl) (by exact λ _ _ _ h=>h) (yif (c:=d3) (by cases d3 <;> rfl) (by intro hc W hSw;obtain ⟨x2,x4,x5,x6,x7⟩:=hSw;subst hc;(try simp only [ifv_true]);go_simp)) (by assumption) ?_;simp only [Act.put,u_,v_,k_];refine wpAnyH_take (i:=31) (v:=ifv d3 (.slice A3 n3 Ac3)) (by simp only [t_,z_,s_];rfl) (by kernel_rfl) (by kernel_rfl) (by kernel_rfl) (by exact λ _ _ _ h=>h) (yif (c:=d3) (by cases d3 <;> rfl) (by intro hc W hSw;obtain ⟨x2,x4,x5,x6,x7⟩:=hSw;subst hc;(try simp only [ifv_true]);go_simp)) (by assumption) ?_;simp only [Act.put,u_,v_,k_];refine wpAnyH_take (i:=32) (v:=ifv d3 (.pointer (some ⟨b,0,none⟩))) (by simp only [t_,z_,s_];rfl) (by kernel_rfl) (by kernel_rfl) (by kernel_rfl) (by exact λ _ _ _ h=>h) (yif (c:=d3) (by cases d3 <;> rfl) (by intro hc W hSw;obtain ⟨x2,x4,x5,x6,x7⟩:=hSw;subst hc;(try simp only [ifv_true]);go_simp)) (by assumption) ?_;simp only [Act.put,u_,v_,k_];refine wpAnyH_take (i:=33) (v:=ifv d3 (.func (.func 127) #[.pointer (some ⟨b,0,none⟩)] #[])) (by simp only [t_,z_,s_];rfl) (by kernel_rfl) (by kernel_rfl) (by kernel_rfl) (by exact λ _ _ _ h=>h) (yif (c:=d3) (by cases d3 <;> rfl) (by intro hc W hSw;obtain ⟨x2,x4,x5,x6,x7⟩:=hSw;subst hc;(try simp only [ifv_true]);go_simp)) (by assumption) ?_;simp only [Act.put,u_,v_,k_];refine callq (i:=34) (c:=d3) (q:=q4) (λ W=>QB w0 w b g1 L1 V W t3) (λ W=>QB w0 w b g1 L1 V W t4) (by simp only [t_,z_,s_];rfl) (by kernel_rfl) (by cases d3 <;> rfl) (λ hc W hq=>by rw [HT.out.2.2.2.1 hc];exact hq) ?_ (λ W hq=>SEE.out W _ hq) HQ ?_
 ·intro hc K hK;clear hHeld;subst hc
  try simp only [ifv_true] at hK ⊢
  go_simp;refine (HC4.out rfl _ HQ).mono ?_;rintro e wa ⟨rfl,hq⟩;exact hK wa hq
 clear HQ hHeld;intro wa HQ hHeld;simp only [Act.put,u_,v_,k_];refine wpAnyH_take (i:=35) (v:=.bool (d3&&q4)) (by simp only [t_,z_,s_];rfl) (by kernel_rfl) (by kernel_rfl) (by kernel_rfl) (by exact λ _ _ _ h=>h) (Or.inl ⟨by rfl,by intro W hSw;clear hSw;cases d3 <;> simp only [ifv_true,ifv_false,Bool.true_and,Bool.false_and] <;> go_simp⟩) (by assumption) ?_;simp only [Act.put,u_,v_,k_];rw [HDE.out.2.2.2.2.1];refine wpAnyH_take (i:=36) (v:=.bool d4) (by simp only [t_,z_,s_];rfl) (by kernel_rfl) (by kernel_rfl) (by kernel_rfl) (by exact λ _ _ _ h=>h) (Or.inl ⟨by rfl,by intro W hSw;obtain ⟨x2,x4,x5,x6,x7⟩:=hSw;go_simp⟩) (by assumption) ?_;simp only [Act.put,u_,v_,k_];refine wpAnyH_take (i:=37) (v:=ifv d4 (.pointer (some ⟨g1,7,none⟩))) (by simp only [t_,z_,s_];rfl) (by kernel_rfl) (by kernel_rfl) (by kernel_rfl) (by exact λ _ _ _ h=>h) (yif (c:=d4) (by cases d4 <;> rfl) (by intro hc W hSw;obtain ⟨x2,x4,x5,x6,x7⟩:=hSw;subst hc;(try simp only [ifv_true]);go_simp)) (by assumption) ?_;simp only [Act.put,u_,v_,k_];refine wpAnyH_take (i:=38) (v:=ifv d4 (.slice A4 n4 Ac4)) (by simp only [t_,z_,s_];rfl) (by kernel_rfl) (by kernel_rfl) (by kernel_rfl) (by exact λ _ _ _ h=>h) (yif (c:=d4) (by cases d4 <;> rfl) (by intro hc W hSw;obtain ⟨x2,x4,x5,x6,x7⟩:=hSw;subst hc;(try simp only [ifv_true]);go_simp)) (by assumption) ?_;simp only [Act.put,u_,v_,k_];refine wpAnyH_take (i:=39) (v:=ifv d4 (.pointer (some ⟨b,0,none⟩))) (by simp only [t_,z_,s_];rfl) (by kernel_rfl) (by kernel_rfl) (by kernel_rfl) (by exact λ _ _ _ h=>h) (yif (c:=d4) (by cases d4 <;> rfl) (by intro hc W hSw;obtain ⟨x2,x4,x5,x6,x7⟩:=hSw;subst hc;(try simp only [ifv_true]);go_simp)) (by assumption) ?_;simp only [Act.put,u_,v_,k_];refine wpAnyH_take (i:=40) (v:=ifv d4 (.func (.func 54) #[.pointer (some ⟨b,0,none⟩)] #[])) (by simp only [t_,z_,s_];rfl) (by kernel_rfl) (by kernel_rfl) (by kernel_rfl) (by exact λ _ _ _ h=>h) (yif (c:=d4) (by cases d4 <;> rfl) (by intro hc W hSw;obtain ⟨x2,x4,x5,x6,x7⟩:=hSw;subst hc;(try simp only [ifv_true]);go_simp)) (by assumption) ?_;simp only [Act.put,u_,v_,k_];refine callq (i:=41) (c:=d4) (q:=q5) (λ W=>QB w0 w b g1 L1 V W t4) (λ W=>QB w0 w b g1 L1 V W t5) (by simp only [t_,z_,s_];rfl) (by kernel_rfl) (by cases d4 <;> rfl) (λ hc W hq=>by rw [HT.out.2.2.2.2 hc];exact hq) ?_ (λ W hq=>SEE.out W _ hq) HQ ?_
 ·intro hc K hK;clear hHeld;subst hc
  try simp only [ifv_true] at hK ⊢
  go_simp;refine (HC5.out rfl _ HQ).mono ?_;rintro e wa ⟨rfl,hq⟩;exact hK wa hq
 clear HQ hHeld;intro wa HQ hHeld;simp only [Act.put,u_,v_,k_];refine wpAnyH_take (i:=42) (v:=.bool (d4&&q5)) (by simp only [t_,z_,s_];rfl) (by kernel_rfl) (by kernel_rfl) (by kernel_rfl) (by exact λ _ _ _ h=>h) (Or.inl ⟨by rfl,by intro W hSw;clear hSw;cases d4 <;> simp only [ifv_true,ifv_false,Bool.true_and,Bool.false_and] <;> go_simp⟩) (by assumption) ?_;simp only [Act.put,u_,v_,k_];rw [HDE.out.2.2.2.2.2];refine wpAnyH_take (i:=43) (v:=.bool d5) (by simp only [t_,z_,s_];rfl) (by kernel_rfl) (by kernel_rfl) (by kernel_rfl) (by exact λ _ _ _ h=>h) (Or.inl ⟨by rfl,by intro W hSw;obtain ⟨x2,x4,x5,x6,x7⟩:=hSw;go_simp⟩) (by assumption) ?_;simp only [Act.put,u_,v_,k_];refine wpAnyH_done (by kernel_rfl) ?_ _;obtain ⟨W3,hW3,y3,f3,HF⟩:=HFIN.out _ _ HQ;clear HC0 HC1 HC2 HC3 HC4 HC5 HFIN HQ hHeld SEE HT HDE z2 z4 z5 z6 z7;go_upto_region 4 with fail
 try rw [hc2]
 try (rw [Go.IntWalk.wrap64_in (lvl:Int) (by have:=HLV.out;exact ⟨by omega,by omega⟩)])
 rw [<-hW3];clear hW3 y3 f3 hc2;go_wp2_with fail;go_ret;exact ⟨by rw [HR.out];rfl,⟨by rw [HR.out];exact HF.out.1,HSP.out⟩,HF.out.2⟩
end Go.Proofs.YtpgeidpfhakgaaaGreatDoor
namespace Go.Proofs.YtpgeidpfhakgaaaGreatDoor
open Go.RowKit Go.ChangeShapes
theorem sgAt_of {n:String} {rest:List (String×DataW Unit)} {W:World} (hg:Tryz.prog.globalNamed n=some 1)
  (h:laidMet Tryz.prog ((n,Rows.laid_pavane_expr_signs)::rest) W):SgAt W:=by
 have e:(Rows.laid_pavane_expr_signs:DataW Unit)=.agg (sgs.map λ k=>.lit (.string k)):=by kernel_rfl
 rw [e] at h;obtain ⟨ps,⟨g',t',cs,fuel,p,q,hg',ht',hvar,hd,_,_⟩,_⟩:=h;obtain rfl:=Option.some.inj (hg.symm.trans hg');obtain rfl:=Option.some.inj ((show (Tryz.prog.globals[1]?).map (·.type)=some 196 by kernel_rfl).symm.trans ht');have hcs:=cells_of_texts (n:=16) Tryz.underlying196 Tryz.underlying9 (by kernel_rfl) (by kernel_rfl) hd;unfold World.var? at hvar;rw [hg] at hvar;simp only [Option.bind_some] at hvar
 split at hvar
 ·rename_i cs' t fr hh;injection hvar with hvar;refine ⟨t,fr,?_⟩;rw [hh,hvar]
  congr 2
  apply Array.toList_inj.1;rw [hcs];rfl
 ·cases hvar
end Go.Proofs.YtpgeidpfhakgaaaGreatDoor
namespace Go.Proofs.YtpgeidpfhakgaaaGreatDoor
open Go.RowKit
theorem rngO {v:Option Ex} (h:∀x,v=some x->x.may):(gxO v).rng:=by
 cases v with
 |none=>show GX.rng (.mk 0 0 [] 0 [] 0);rw [GX.rng,GX.rngs];exact ⟨by decide,by decide,by decide,trivial⟩
 |some x=>exact fine_rng x (h x rfl).1
theorem rngA {a:SyAct} (h:a.good):a.g.rng:=by
 refine ⟨?_,rngO (λ x hx=>?_)⟩
 ·have:=nm_size h.name;show a.name.length<=_;omega
 ·obtain ⟨y,hy,hm⟩:=h.value (λ k2=>by rw [h.raise k2] at hx;cases hx);rw [hy] at hx;injection hx with hx;rw [<-hx];exact hm
theorem rngM {m:SyMove} (h:m.good):m.g.rng:=by
 refine ⟨?_,?_,rngO h.guard,λ a ha=>?_,λ t ht=>?_⟩
 ·show m.event.length<=_;rcases h.event with ⟨_,he⟩|⟨_,he⟩
  ·have:=nm_size he;omega
  ·rw [he];decide
 ·show -9223372036854775808<=m.wait/\m.wait<=9223372036854775807
  rcases h.wait with ⟨_,h1,h2⟩|⟨_,h1⟩ <;> omega
 ·obtain ⟨b,hb,rfl⟩:=List.mem_map.1 ha;exact rngA (h.acts b hb)
 ·have:=nm_size (h.targets t ht);omega
theorem rngN:∀(d:Nat) (x:SyNode),GdN d x->x.g.rng
 |0,x,h=>by rw [GdN] at h;exact h.elim
 |d+1,.mk k nm ini dft en le mo ks p,h=>by
  rw [GdN] at h;obtain ⟨h1,h2⟩:=h;have hn:=nm_size h1;rw [SyNode.g,GN.rng];rcases h2 with ⟨hk,a1,rfl,rfl,rfl,rfl,rfl⟩|⟨hk,rfl,a3,a4,a5,a6,a7⟩
  ·have hd:=nm_size a1;rw [SyNode.gs,GN.rngs];exact ⟨by omega,by decide,by omega,(λ a ha=>by cases ha),(λ a ha=>by cases ha),(λ a ha=>by cases ha),trivial⟩
  ·refine ⟨by omega,?_,by decide,λ a ha=>?_,λ a ha=>?_,λ a ha=>?_,?_⟩
   ·rcases a3 with rfl|a3
    ·decide
    ·have:=nm_size a3;omega
   ·obtain ⟨b,hb,rfl⟩:=List.mem_map.1 ha;exact rngA (a4 b hb)
   ·obtain ⟨b,hb,rfl⟩:=List.mem_map.1 ha;exact rngA (a5 b hb)
   ·obtain ⟨b,hb,rfl⟩:=List.mem_map.1 ha;exact rngM (a6 b hb)
   ·rw [GN.rngs_iff,gs_map];intro x hx;obtain ⟨y,hy,rfl⟩:=List.mem_map.1 hx;exact rngN d y (a7 y hy)
theorem good_rng {c:SyChart} (h:c.good):c.g.rng:=by
 refine ⟨λ v hv=>⟨?_,?_,(h.nums v hv).2⟩,rngN 12 c.root h.node⟩
 ·have:=nm_size (h.names v hv);omega
 ·have:=(h.nums v hv).1;omega
theorem mvA_mem:∀{l:List SyMove} {m:SyMove},m∈l->m.acts.length<=mvA l
 |x::l,m,h=>by
  rw [mvA];rcases List.mem_cons.1 h with rfl|h
  ·omega
  ·have:=mvA_mem h;omega
theorem cNs_len:∀l:List SyNode,l.length<=cNs l
 |[]=>by rw [cNs];exact n_ _
 |.mk _ _ _ _ _ _ _ ks _::l=>by
  have:=cNs_len l;rw [cNs,cN,List.length_cons];omega
mutual
theorem lenN:∀x:SyNode,cN x<=64->cM x<=200->cA x<=400->x.g.len
 |.mk k nm ini dft en le mo ks p,h1,h2,h3=>by
  rw [cN] at h1;rw [cM] at h2;rw [cA] at h3;have h4:=cNs_len ks;rw [SyNode.g,GN.len];refine ⟨by rw [List.length_map];omega,by rw [List.length_map];omega,by rw [List.length_map];omega,by rw [gs_map,List.length_map];omega,λ m hm=>?_,lenNs ks (by omega) (by omega) (by omega)⟩;obtain ⟨b,hb,rfl⟩:=List.mem_map.1 hm;have:=mvA_mem hb;show (b.acts.map SyAct.g).length<=_;rw [List.length_map];omega
theorem lenNs:∀l:List SyNode,cNs l<=64->cMs l<=200->cAs l<=400->GN.lens (SyNode.gs l)
 |[],_,_,_=>by rw [SyNode.gs,GN.lens];trivial
 |x::l,h1,h2,h3=>by
  rw [cNs] at h1;rw [cMs] at h2;rw [cAs] at h3;rw [SyNode.gs,GN.lens];exact ⟨lenN x (by omega) (by omega) (by omega),lenNs l (by omega) (by omega) (by omega)⟩
end
theorem good_len {c:SyChart} (h:c.good):c.g.root.len:=lenN c.root h.nodes h.moves h.acts
end Go.Proofs.YtpgeidpfhakgaaaGreatDoor
namespace Go.Proofs.YtpgeidpfhakgaaaGreatDoor
open Go.RowKit
theorem ndS_no {lvl:Nat} {s:Nat×Nat×Nat} {k p:Int} {nm ini dft:List UInt8} {en le:List GA} {mo:List GM} {ks:List GN} (h:(decide (s.1+1<=64)&&decide (lvl<12)&&isNm nm)=false):ndS lvl s (.mk k nm ini dft en le mo ks p)=(false,(s.1+1,s.2)):=by
 rw [ndS,if_neg (by rw [h];decide)]
theorem ndS_body {lvl:Nat} {s:Nat×Nat×Nat} {k p:Int} {nm ini dft:List UInt8} {en le:List GA} {mo:List GM} {ks:List GN} (h:(decide (s.1+1<=64)&&decide (lvl<12)&&isNm nm)=true) (hk:k=1∨k=2):ndS lvl s (.mk k nm ini dft en le mo ks p)=if dft.isEmpty=true then bdS lvl (s.1+1,s.2) ini en le mo ks else (false,(s.1+1,s.2)):=by
 rw [ndS,if_pos h,if_pos hk];rfl
theorem ndS_hist {lvl:Nat} {s:Nat×Nat×Nat} {k p:Int} {nm ini dft:List UInt8} {en le:List GA} {mo:List GM} {ks:List GN} (h:(decide (s.1+1<=64)&&decide (lvl<12)&&isNm nm)=true) (hk:k=3∨k=4):ndS lvl s (.mk k nm ini dft en le mo ks p)=(isNm dft&&(ini.isEmpty&&en.isEmpty&&le.isEmpty&&mo.isEmpty&&ks.isEmpty),(s.1+1,s.2)):=by
 rw [ndS,if_pos h,if_neg (by omega),if_pos hk]
theorem ndS_none {lvl:Nat} {s:Nat×Nat×Nat} {k p:Int} {nm ini dft:List UInt8} {en le:List GA} {mo:List GM} {ks:List GN} (h:(decide (s.1+1<=64)&&decide (lvl<12)&&isNm nm)=true) (h1:k≠1) (h2:k≠2) (h3:k≠3) (h4:k≠4):ndS lvl s (.mk k nm ini dft en le mo ks p)=(false,(s.1+1,s.2)):=by
 rw [ndS,if_pos h,if_neg (by omega),if_neg (by omega)]
theorem knode_any (w0 w:World) (b lvl:Nat) (s:Nat×Nat×Nat) (k p:Int) (nm ini dft:List UInt8) (en le:List GA) (mo:List GM) (ks:List GN) (xs:List Value) (hE:Ee w0) (h:KS w0 w b lvl s) (hb:w0.heap.size<=b) (hs:Rm s) (hx:DxsAt w0 (gNode (.mk k nm ini dft en le mo ks p)) xs) (hr:(GN.mk k nm ini dft en le mo ks p).rng) (hl:(GN.mk k nm ini dft en le mo ks p).len) (hlv:lvl<=12) (ih:lvl+1<=12->∀(i:Nat) (a:GN),ks[i]?=some a->KN w0 b (lvl+1) a) :
  Calls Tryz.prog 54 #[.pointer (some ⟨b,0,none⟩),.agg xs.toArray] w λ e w'=>e=.returned (.bool (ndS lvl s (.mk k nm ini dft en le mo ks p)).1)/\(KS w0 w' b lvl (ndS lvl s (.mk k nm ini dft en le mo ks p)).2/\((ndS lvl s (.mk k nm ini dft en le mo ks p)).1=true->Rm (ndS lvl s (.mk k nm ini dft en le mo ks p)).2))/\Mv b w w':=by
 have HSP:=h_ (λ h=>((ndS_spec (.mk k nm ini dft en le mo ks p) lvl s hs).1 h).1);have HB0:=h_ (λ (q:s.1+1<=64) (c:lvl<12) (W:World) (hk:KS w0 W b lvl (s.1+1,s.2))=>kbody_any w0 W b lvl (s.1+1,s.2) k p nm ini dft en le mo ks xs hE hk hb ⟨q,hs.2⟩ hx hr hl c (ih c));obtain ⟨A1,A2,A3,A4,c1,c2,c3,c4,rfl,_⟩:=node_v hx;rw [GN.rng] at hr;obtain ⟨hrn,hri,hrd,_⟩:=hr
 obtain ⟨N0,hN0⟩:∃N:ByteArray,(⟨nm.toArray⟩:ByteArray)=N:=⟨_,rfl⟩
 obtain ⟨I0,hI0⟩:∃N:ByteArray,(⟨ini.toArray⟩:ByteArray)=N:=⟨_,rfl⟩
 obtain ⟨D0,hD0⟩:∃N:ByteArray,(⟨dft.toArray⟩:ByteArray)=N:=⟨_,rfl⟩
 have eN:txV nm=.string N0:=by rw [<-hN0];rfl
 have eI:txV ini=.string I0:=by rw [<-hI0];rfl
 have eD:txV dft=.string D0:=by rw [<-hD0];rfl
 rw [eN,eI,eD] at HB0 ⊢
 have hNL:N0.data.toList=nm:=by rw [<-hN0]
 have hIL:I0.data.toList=ini:=by rw [<-hI0]
 have hDL:D0.data.toList=dft:=by rw [<-hD0]
 have hNS:N0.size<=140737488351232:=by
  have h1:N0.data.toList.length<=140737488351232:=by rw [hNL];exact hrn
  exact h1
 have hDS:D0.size<=140737488351232:=by
  have h1:D0.data.toList.length<=140737488351232:=by rw [hDL];exact hrd
  exact h1
 obtain ⟨q1,hq1⟩:∃q,decide (s.1+1<=64)=q:=⟨_,rfl⟩
 obtain ⟨LV,hLV⟩:∃L:Int,(lvl:Int)=L:=⟨_,rfl⟩
 obtain ⟨q2,hq2⟩:∃q,decide (LV ≥ 12)=q:=⟨_,rfl⟩
 have hq2':decide (lvl<12)=!q2:=by
  rw [<-hq2,<-hLV]
  by_cases c:lvl<12
  ·rw [decide_eq_true c,decide_eq_false (by omega)];rfl
  ·rw [decide_eq_false c,decide_eq_true (by omega)];rfl
 obtain ⟨q3,hq3⟩:∃q,isNm nm=q:=⟨_,rfl⟩
 obtain ⟨d0,hd0⟩:∃d,D0.toList.isEmpty=d:=⟨_,rfl⟩
 have hd0':dft.isEmpty=d0:=by rw [<-hd0,Lib.toList_data,hDL]
 obtain ⟨⟨qb,sb⟩,hqb⟩:∃q,bdS lvl (s.1+1,s.2) ini en le mo ks=q:=⟨_,rfl⟩
 obtain ⟨q4,hq4⟩:∃q,isNm dft=q:=⟨_,rfl⟩
 obtain ⟨X,hX⟩:∃X,ndS lvl s (.mk k nm ini dft en le mo ks p)=X:=⟨_,rfl⟩
 have HNO:=h_ (λ (c:(q1 && !q2&&q3)=false)=>ndS_no (lvl:=lvl) (s:=s) (k:=k) (p:=p) (nm:=nm) (ini:=ini) (dft:=dft) (en:=en) (le:=le) (mo:=mo) (ks:=ks) (by rw [hq1,hq2',hq3];exact c));have HBO:=h_ (λ (c:(q1 && !q2&&q3)=true) (hk:k=1∨k=2)=>ndS_body (lvl:=lvl) (s:=s) (p:=p) (nm:=nm) (ini:=ini) (dft:=dft) (en:=en) (le:=le) (mo:=mo) (ks:=ks) (by rw [hq1,hq2',hq3];exact c) hk);have HHI:=h_ (λ (c:(q1 && !q2&&q3)=true) (hk:k=3∨k=4)=>ndS_hist (lvl:=lvl) (s:=s) (p:=p) (nm:=nm) (ini:=ini) (dft:=dft) (en:=en) (le:=le) (mo:=mo) (ks:=ks) (by rw [hq1,hq2',hq3];exact c) hk);have HNN:=h_ (λ (c:(q1 && !q2&&q3)=true) h1 h2 h3 h4=>ndS_none (k:=k) (lvl:=lvl) (s:=s) (p:=p) (nm:=nm) (ini:=ini) (dft:=dft) (en:=en) (le:=le) (mo:=mo) (ks:=ks) (by rw [hq1,hq2',hq3];exact c) h1 h2 h3 h4);rw [hX] at HNO HSP ⊢;rw [hX,hd0',hqb] at HBO
 have hbl:(ini.isEmpty&&en.isEmpty&&le.isEmpty&&mo.isEmpty&&ks.isEmpty)=(I0.toList.isEmpty&&((en.length:Int)==0)&&((le.length:Int)==0)&&((mo.length:Int)==0)&&((ks.length:Int)==0)):=by
  rw [Lib.toList_data,hIL,len_beq en,len_beq le,len_beq mo,len_beq ks]
 obtain ⟨n1,hn1⟩:∃n,en.length=n:=⟨_,rfl⟩
 obtain ⟨n2,hn2⟩:∃n,le.length=n:=⟨_,rfl⟩
 obtain ⟨n3,hn3⟩:∃n,mo.length=n:=⟨_,rfl⟩
 obtain ⟨n4,hn4⟩:∃n,ks.length=n:=⟨_,rfl⟩
 rw [hn1,hn2,hn3,hn4] at hbl HB0 ⊢
 obtain ⟨q5,hq5⟩:∃q:Bool,(I0.toList.isEmpty&&((n1:Int)==0)&&((n2:Int)==0)&&((n3:Int)==0)&&((n4:Int)==0))=q:=⟨_,rfl⟩
 rw [hX,hq4,hbl,hq5] at HHI;rw [hX] at HNN
 obtain ⟨K,hK⟩:∃K,k=K:=⟨_,rfl⟩
 have hkd:K=1∨K=2∨K=3∨K=4∨(K≠1/\K≠2/\K≠3/\K≠4):=by omega
 rw [hK] at HB0 HBO HHI HNN ⊢
 obtain ⟨W1,hW1⟩:∃W,W=w.alloc (.cells #[.int .i64 K,.string N0,.string I0,.string D0,.slice A1 n1 c1,.slice A2 n2 c2,.slice A3 n3 c3,.slice A4 n4 c4,.int .i64 p] 27):=⟨_,rfl⟩
 obtain ⟨g1,hg1⟩:∃g,g=w.heap.size:=⟨_,rfl⟩
 have hal:Below w.heap.size w W1:=by rw [hW1];exact (b_ _ w).alloc (n_ _) _
 have hc1:CB W1 g1 27 [.int .i64 K,.string N0,.string I0,.string D0,.slice A1 n1 c1,.slice A2 n2 c2,.slice A3 n3 c3,.slice A4 n4 c4,.int .i64 p]:=by rw [hW1,hg1];exact CB.new w _ [.int .i64 K,.string N0,.string I0,.string D0,.slice A1 n1 c1,.slice A2 n2 c2,.slice A3 n3 c3,.slice A4 n4 c4,.int .i64 p]
 have hk1:KS w0 W1 b lvl s:=h.below hal
 have hgb:g1≠b:=by have:=h.2.lt;rw [hg1];exact λ e=>by omega
 obtain ⟨W2,hW2⟩:∃W,W=W1.setCell ⟨b,0,none⟩ (.int .i64 ((s.1+1:Nat):Int)):=⟨_,rfl⟩
 have hk2:KS w0 W2 b lvl (s.1+1,s.2):=by
  rw [hW2];exact KS.set0 (n:=s.1) (m:=s.2.1) (a:=s.2.2) hk1 hb _
 have HC2:Hid (CB W2 g1 27 [.int .i64 K,.string N0,.string I0,.string D0,.slice A1 n1 c1,.slice A2 n2 c2,.slice A3 n3 c3,.slice A4 n4 c4,.int .i64 p]):=by rw [hW2];exact hc1.other hgb 0 _
 have HK2:=h_ (And.intro hk2 (show Mv b w W2 from by rw [hW2];exact (Mv.of_below b hal).trans ((Mv.refl b W1).set 0 _)));have HCN:=h_ (kcount_any W1 b 0 s.1 1 64 (hk1.2.c 0 rfl) (hk1.2.fr 0) (by have:=hs.1;omega));rw [hq1,<-hW2] at HCN;have HNM:=h_ (name_any N0 W2 hNS (hE.below hk2.1).vr.kw);rw [hNL,hq3] at HNM;have HDN:=h_ (name_any D0 W2 hDS (hE.below hk2.1).vr.kw);rw [hDL,hq4] at HDN
 have HBD:Hid (q1=true->q2=false->Calls Tryz.prog 88 #[.pointer (some ⟨b,0,none⟩),.agg #[.int .i64 K,.string N0,.string I0,.string D0,.slice A1 n1 c1,.slice A2 n2 c2,.slice A3 n3 c3,.slice A4 n4 c4,.int .i64 p]] W2 λ e w'=>e=.returned (.bool qb)/\(KS w0 w' b lvl sb)/\Mv b w w'):=λ c1 c2=>by
  have z:=HB0.out (by rw [<-hq1] at c1;exact of_decide_eq_true c1) (by rw [c2] at hq2';exact of_decide_eq_true hq2') W2 hk2;rw [hqb] at z;refine Calls.mono z ?_;rintro e w' ⟨rfl,hk,hm⟩;exact ⟨rfl,hk.1,HK2.out.2.trans hm⟩
 have HBL:=h_ (bodiless_any W2 K p N0 I0 D0 A1 A2 A3 A4 n1 n2 n3 n4 c1 c2 c3 c4);rw [hq5] at HBL;have x3:=HK2.out.1.2.c 3 rfl;have z0:=HC2.out.c 0 rfl;have z1:=HC2.out.c 1 rfl;have z2:=HC2.out.c 2 rfl;have z3:=HC2.out.c 3 rfl;have z4:=HC2.out.c 4 rfl;have z5:=HC2.out.c 5 rfl;have z6:=HC2.out.c 6 rfl;have z7:=HC2.out.c 7 rfl;have z8:=HC2.out.c 8 rfl;rw [hLV] at x3;have HDD:=h_ (And.intro hX (And.intro hq1 (And.intro hq3 (And.intro hq4 hqb))));clear HB0 hx hE h hb hs hl hlv ih hrn hri hrd hN0 hI0 hD0 eN eI eD hNL hIL hDL hNS hDS hq1 hq2' hq3 hq4 hq5 hqb hd0' hbl hn1 hn2 hn3 hn4 hK hX hal hc1 hk1 hk2 hW2 hgb hLV;go_enter Tryz.func54,Tryz.ntmps54;go_upto_region 1 with fail;rw [<-hW1,<-hg1];clear hW1 hg1;cases q1
 ·clear hq2 hd0;go_wp2_with fail;refine HCN.out.mono ?_;rintro e w2 ⟨rfl,rfl⟩;go_wp2_with fail;go_ret;exact ⟨by rw [HNO.out rfl];rfl,⟨by rw [HNO.out rfl];exact HK2.out.1,HSP.out⟩,HK2.out.2⟩
 ·cases q2
  ·cases q3
   ·clear hd0;go_wp2_with fail;refine HCN.out.mono ?_;rintro e w2 ⟨rfl,rfl⟩;go_wp2_with fail;refine HNM.out.mono ?_;rintro e w3 ⟨rfl,rfl⟩;go_wp2_with fail;go_ret;exact ⟨by rw [HNO.out rfl];rfl,⟨by rw [HNO.out rfl];exact HK2.out.1,HSP.out⟩,HK2.out.2⟩
   ·rcases hkd with rfl|rfl|rfl|rfl|⟨k1,k2,k3,k4⟩
    ·cases d0
     ·go_wp2_with fail;refine HCN.out.mono ?_;rintro e w2 ⟨rfl,rfl⟩;go_wp2_with fail;refine HNM.out.mono ?_;rintro e w3 ⟨rfl,rfl⟩;go_wp2_with fail;go_ret;exact ⟨by rw [HBO.out (by simp) (by simp)];rfl,⟨by rw [HBO.out (by simp) (by simp)];exact HK2.out.1,HSP.out⟩,HK2.out.2⟩
     ·go_wp2_with fail;refine HCN.out.mono ?_;rintro e w2 ⟨rfl,rfl⟩;go_wp2_with fail;refine HNM.out.mono ?_;rintro e w3 ⟨rfl,rfl⟩;go_wp2_with fail;refine (HBD.out (by simp) (by simp)).mono ?_;rintro e w4 ⟨rfl,hk,hm⟩;have HF:=h_ (And.intro hk hm);clear hk hm HBD HDN HBL HNM HCN;go_wp2_with fail;go_ret;exact ⟨by rw [HBO.out (by simp) (by simp)];rfl,⟨by rw [HBO.out (by simp) (by simp)];exact HF.out.1,HSP.out⟩,HF.out.2⟩
    ·cases d0
     ·go_wp2_with fail;refine HCN.out.mono ?_;rintro e w2 ⟨rfl,rfl⟩;go_wp2_with fail;refine HNM.out.mono ?_;rintro e w3 ⟨rfl,rfl⟩;go_wp2_with fail;go_ret;exact ⟨by rw [HBO.out (by simp) (by simp)];rfl,⟨by rw [HBO.out (by simp) (by simp)];exact HK2.out.1,HSP.out⟩,HK2.out.2⟩
     ·go_wp2_with fail;refine HCN.out.mono ?_;rintro e w2 ⟨rfl,rfl⟩;go_wp2_with fail;refine HNM.out.mono ?_;rintro e w3 ⟨rfl,rfl⟩;go_wp2_with fail;refine (HBD.out (by simp) (by simp)).mono ?_;rintro e w4 ⟨rfl,hk,hm⟩;have HF:=h_ (And.intro hk hm);clear hk hm HBD HDN HBL HNM HCN;go_wp2_with fail;go_ret;exact ⟨by rw [HBO.out (by simp) (by simp)];rfl,⟨by rw [HBO.out (by simp) (by simp)];exact HF.out.1,HSP.out⟩,HF.out.2⟩
    ·clear hd0;cases q4
     ·go_wp2_with fail;refine HCN.out.mono ?_;rintro e w2 ⟨rfl,rfl⟩;go_wp2_with fail;refine HNM.out.mono ?_;rintro e w3 ⟨rfl,rfl⟩;go_wp2_with fail;refine HDN.out.mono ?_;rintro e w4 ⟨rfl,rfl⟩;go_wp2_with fail;go_ret;exact ⟨by rw [HHI.out (by simp) (by simp)];rfl,⟨by rw [HHI.out (by simp) (by simp)];exact HK2.out.1,HSP.out⟩,HK2.out.2⟩
     ·go_wp2_with fail;refine HCN.out.mono ?_;rintro e w2 ⟨rfl,rfl⟩;go_wp2_with fail;refine HNM.out.mono ?_;rintro e w3 ⟨rfl,rfl⟩;go_wp2_with fail;refine HDN.out.mono ?_;rintro e w4 ⟨rfl,rfl⟩;go_wp2_with fail;refine HBL.out.mono ?_;rintro e w5 ⟨rfl,hb⟩;have HF:=h_ (And.intro (HK2.out.1.below hb) (HK2.out.2.trans (Mv.of_below b hb)));clear hb HBD HDN HBL HNM HCN;go_wp2_with fail;go_ret;exact ⟨by rw [HHI.out (by simp) (by simp)];rfl,⟨by rw [HHI.out (by simp) (by simp)];exact HF.out.1,HSP.out⟩,HF.out.2⟩
    ·clear hd0;cases q4
     ·go_wp2_with fail;refine HCN.out.mono ?_;rintro e w2 ⟨rfl,rfl⟩;go_wp2_with fail;refine HNM.out.mono ?_;rintro e w3 ⟨rfl,rfl⟩;go_wp2_with fail;refine HDN.out.mono ?_;rintro e w4 ⟨rfl,rfl⟩;go_wp2_with fail;go_ret;exact ⟨by rw [HHI.out (by simp) (by simp)];rfl,⟨by rw [HHI.out (by simp) (by simp)];exact HK2.out.1,HSP.out⟩,HK2.out.2⟩
     ·go_wp2_with fail;refine HCN.out.mono ?_;rintro e w2 ⟨rfl,rfl⟩;go_wp2_with fail;refine HNM.out.mono ?_;rintro e w3 ⟨rfl,rfl⟩;go_wp2_with fail;refine HDN.out.mono ?_;rintro e w4 ⟨rfl,rfl⟩;go_wp2_with fail;refine HBL.out.mono ?_;rintro e w5 ⟨rfl,hb⟩;have HF:=h_ (And.intro (HK2.out.1.below hb) (HK2.out.2.trans (Mv.of_below b hb)));clear hb HBD HDN HBL HNM HCN;go_wp2_with fail;go_ret;exact ⟨by rw [HHI.out (by simp) (by simp)];rfl,⟨by rw [HHI.out (by simp) (by simp)];exact HF.out.1,HSP.out⟩,HF.out.2⟩
    ·clear hd0;go_wp2_with fail;refine HCN.out.mono ?_;rintro e w2 ⟨rfl,rfl⟩;go_wp2_with fail;refine HNM.out.mono ?_;rintro e w3 ⟨rfl,rfl⟩;go_wp2_with fail;go_ret;exact ⟨by rw [HNN.out (by simp) (by simpa using k1) (by simpa using k2) (by simpa using k3) (by simpa using k4)];rfl,⟨by rw [HNN.out (by simp) (by simpa using k1) (by simpa using k2) (by simpa using k3) (by simpa using k4)];exact HK2.out.1,HSP.out⟩,HK2.out.2⟩
  ·clear hd0;go_wp2_with fail;refine HCN.out.mono ?_;rintro e w2 ⟨rfl,rfl⟩;go_wp2_with fail;go_ret;exact ⟨by rw [HNO.out rfl];rfl,⟨by rw [HNO.out rfl];exact HK2.out.1,HSP.out⟩,HK2.out.2⟩
theorem kn_all (w0:World) (b:Nat) (hE:Ee w0) (hb:w0.heap.size<=b):∀(d lvl:Nat) (x:GN),lvl+d=12->KN w0 b lvl x
 |0,lvl,.mk k nm ini dft en le mo ks p=>λ hd w s xs h hs hx hr hl hlv=>knode_any w0 w b lvl s k p nm ini dft en le mo ks xs hE h hb hs hx hr hl hlv (λ c=>absurd c (by omega))
 |d+1,lvl,.mk k nm ini dft en le mo ks p=>λ hd w s xs h hs hx hr hl hlv=>knode_any w0 w b lvl s k p nm ini dft en le mo ks xs hE h hb hs hx hr hl hlv (λ _ _ a _=>kn_all w0 b hE hb d (lvl+1) a (by omega))
end Go.Proofs.YtpgeidpfhakgaaaGreatDoor
namespace Go.Proofs.YtpgeidpfhakgaaaGreatDoor
open Go.RowKit
theorem istree_any (w:World) (c:GC) (xs:List Value) (hE:Ee w) (hx:DxsAt w (gChart c) xs) (hr:c.rng) (hl:c.root.len) :
  Calls Tryz.prog 29 #[.agg xs.toArray] w λ e w'=>e=.returned (.bool (okC c))/\Below w.heap.size w w':=by
 have HR0:=h_ (okC_of c)
 obtain ⟨X,hX⟩:∃X,okC c=X:=⟨_,rfl⟩
 rw [hX] at HR0 ⊢;clear hX;obtain ⟨vs,k,nm,ini,dft,en,le,mo,ks,p⟩:=c;obtain ⟨hrv,hrn⟩:=hr;simp only at hrv hrn hl HR0;unfold gChart at hx;obtain ⟨vx,xs,rfl,dv,dn⟩:=hx.uncons;have HND0:=λ (b:Nat) (W:World) (hb:w.heap.size<=b) (hk:KS w W b 0 (0,0,0))=>kn_all w b hE hb 12 0 (.mk k nm ini dft en le mo ks p) rfl W (0,0,0) xs hk ⟨by decide,by decide,by decide⟩ dn hrn hl (by omega);obtain ⟨A1,A2,A3,A4,c1,c2,c3,c4,rfl,_⟩:=node_v dn;obtain ⟨A0,c0,rfl,hc1,hc2⟩:=DxAt.slice (show DxAt w (.row 74 3 vs.length (vs.flatMap dvVar)) vx from dv)
 have hml:vs.length<=9223372036854775807:=by
  have:maxLen<=9223372036854775807:=by decide
  omega
 obtain ⟨N0,hN⟩:=str_of nm;obtain ⟨I0,hI⟩:=str_of ini;obtain ⟨D0,hD⟩:=str_of dft;rw [hN,hI,hD] at HND0 ⊢
 obtain ⟨q1,hq1⟩:∃q,decide (vs.length<=16)=q:=⟨_,rfl⟩
 obtain ⟨q2,hq2⟩:∃q,vs.all okV=q:=⟨_,rfl⟩
 obtain ⟨⟨q4,s4⟩,hq4⟩:∃q,ndS 0 (0,0,0) (.mk k nm ini dft en le mo ks p)=q:=⟨_,rfl⟩
 rw [hq4] at HND0
 obtain ⟨n0,hn0⟩:∃n,vs.length=n:=⟨_,rfl⟩
 obtain ⟨n1,hn1⟩:∃n,en.length=n:=⟨_,rfl⟩
 obtain ⟨n2,hn2⟩:∃n,le.length=n:=⟨_,rfl⟩
 obtain ⟨n3,hn3⟩:∃n,mo.length=n:=⟨_,rfl⟩
 obtain ⟨n4,hn4⟩:∃n,ks.length=n:=⟨_,rfl⟩
 obtain ⟨LV,hLV⟩:∃L:Int,(n0:Int)=L:=⟨_,rfl⟩
 have hq1':decide (LV<=16)=q1:=by
  rw [<-hq1,<-hLV,hn0]
  by_cases z:n0<=16
  ·rw [decide_eq_true z,decide_eq_true (by omega)]
  ·rw [decide_eq_false z,decide_eq_false (by omega)]
 obtain ⟨q3,hq3⟩:∃q:Bool,(k==1)=q:=⟨_,rfl⟩
 have hq3':decide (k=1)=q3:=by rw [dec_beq];exact hq3
 have HR:Hid (X=(q1&&q2&&q3&&q4)):=by
  show _=_;rw [HR0.out,hq1,hq2,hq4,<-hq3'];rfl
 obtain ⟨K,hK⟩:∃K,k=K:=⟨_,rfl⟩
 rw [hn1,hn2,hn3,hn4,hK] at HND0;rw [hK] at hq3;rw [hn0,hn1,hn2,hn3,hn4,hK]
 obtain ⟨W1,hW1⟩:∃W,W=w.alloc (.cells #[.slice A0 n0 c0,.int .i64 K,.string N0,.string I0,.string D0,.slice A1 n1 c1,.slice A2 n2 c2,.slice A3 n3 c3,.slice A4 n4 c4,.int .i64 p] 29):=⟨_,rfl⟩
 obtain ⟨g1,hg1⟩:∃g,g=w.heap.size:=⟨_,rfl⟩
 have hal:Below w.heap.size w W1:=by rw [hW1];exact (b_ _ w).alloc (n_ _) _
 have HX:Hid (CB W1 g1 29 [.slice A0 n0 c0,.int .i64 K,.string N0,.string I0,.string D0,.slice A1 n1 c1,.slice A2 n2 c2,.slice A3 n3 c3,.slice A4 n4 c4,.int .i64 p]):=by rw [hW1,hg1];exact CB.new w _ [.slice A0 n0 c0,.int .i64 K,.string N0,.string I0,.string D0,.slice A1 n1 c1,.slice A2 n2 c2,.slice A3 n3 c3,.slice A4 n4 c4,.int .i64 p]
 have HB:=h_ hal;have HV0:=everyV_any W1 vs A0 c0 n0 hn0 (by omega) (by rw [<-hn0];exact allV_of dv hE hrv hal);rw [hq2] at HV0;have HV:=h_ HV0;have HND:=h_ HND0
 have SEE:Hid (∀W,Below W1.heap.size W1 W->W.cell? ⟨g1,0,none⟩=some (.slice A0 n0 c0)/\W.cell? ⟨g1,1,none⟩=some (.int .i64 K)/\W.cell? ⟨g1,2,none⟩=some (.string N0)/\W.cell? ⟨g1,3,none⟩=some (.string I0)/\W.cell? ⟨g1,4,none⟩=some (.string D0)/\W.cell? ⟨g1,5,none⟩=some (.slice A1 n1 c1)/\W.cell? ⟨g1,6,none⟩=some (.slice A2 n2 c2)/\W.cell? ⟨g1,7,none⟩=some (.slice A3 n3 c3)/\W.cell? ⟨g1,8,none⟩=some (.slice A4 n4 c4)/\W.cell? ⟨g1,9,none⟩=some (.int .i64 p)):=λ W hb=>by
  have z:=HX.out.below hb;exact ⟨z.c 0 rfl,z.c 1 rfl,z.c 2 rfl,z.c 3 rfl,z.c 4 rfl,z.c 5 rfl,z.c 6 rfl,z.c 7 rfl,z.c 8 rfl,z.c 9 rfl⟩
 have hLW:w.heap.size<=W1.heap.size:=hal.size;clear HR0 HND0 HV0 hE hrv hrn hl dv dn hN hI hD hc1 hc2 hml hq1 hq2 hq4 hn0 hn1 hn2 hn3 hn4 hq3' hK hal hx;go_enter Tryz.func29,Tryz.ntmps29;go_upto_region 1 with fail;rw [<-hW1,<-hg1];clear hW1 hg1;have HLW:=h_ hLW;clear hLW;obtain ⟨y0,y1,y2,y3,y4,y5,y6,y7,y8,y9⟩:=SEE.out W1 (b_ _ W1);cases q1
 ·go_wp2_with fail;go_ret;exact ⟨by rw [HR.out];rfl,HB.out⟩
 ·cases q2
  ·go_wp2_with fail;refine HV.out.mono ?_;rintro e w2 ⟨rfl,hb⟩;have HF:=h_ hb;obtain ⟨z0,z1,z2,z3,z4,z5,z6,z7,z8,z9⟩:=SEE.out w2 hb;clear hb HV y0 y1 y2 y3 y4 y5 y6 y7 y8 y9;go_wp2_with fail;go_ret;exact ⟨by rw [HR.out];rfl,HB.out.trans (HF.out.mono HLW.out)⟩
  ·cases q3
   ·go_wp2_with fail;refine HV.out.mono ?_;rintro e w2 ⟨rfl,hb⟩;have HF:=h_ hb;obtain ⟨z0,z1,z2,z3,z4,z5,z6,z7,z8,z9⟩:=SEE.out w2 hb;clear hb HV y0 y1 y2 y3 y4 y5 y6 y7 y8 y9;go_wp2_with fail;go_ret;exact ⟨by rw [HR.out];rfl,HB.out.trans (HF.out.mono HLW.out)⟩
   ·go_wp2_with fail;refine HV.out.mono ?_;rintro e w2 ⟨rfl,hb⟩;have HF:=h_ hb;obtain ⟨z0,z1,z2,z3,z4,z5,z6,z7,z8,z9⟩:=SEE.out w2 hb;clear hb HV y0 y1 y2 y3 y4 y5 y6 y7 y8 y9
    obtain ⟨W3,hW3⟩:∃W,W=w2.alloc (.cells #[.int .i64 0,.int .i64 0,.int .i64 0,.int .i64 0] 105):=⟨_,rfl⟩
    obtain ⟨g3,hg3⟩:∃g,g=w2.heap.size:=⟨_,rfl⟩
    have HK3:Hid (Below W1.heap.size W1 W3/\W1.heap.size<=g3/\KS w W3 g3 0 (0,0,0)):=by
     have hb3:Below W1.heap.size W1 W3:=by rw [hW3];exact HF.out.trans ((b_ _ w2).alloc (by have:=HF.out.size;omega) _)
     refine ⟨hb3,?_,HB.out.trans (hb3.mono HLW.out),?_⟩
     ·have:=HF.out.size;rw [hg3];omega
     ·rw [hW3,hg3];exact CB.new w2 _ [.int .i64 0,.int .i64 0,.int .i64 0,.int .i64 0]
    obtain ⟨u0,u1,u2,u3,u4,u5,u6,u7,u8,u9⟩:=SEE.out W3 HK3.out.1;rw [hW3] at u0 u1 u2 u3 u4 u5 u6 u7 u8 u9;go_wp2_with fail;rw [<-hW3,<-hg3];clear hW3 hg3 u0 u1 u2 u3 u4 u5 u6 u7 u8 u9;refine (HND.out g3 W3 (Nat.le_trans HLW.out HK3.out.2.1) HK3.out.2.2).mono ?_;rintro e w4 ⟨rfl,hk,hm⟩;have HF4:=h_ (hm.belowB HK3.out.1 HK3.out.2.1 HK3.out.1.size);clear hk hm HND HK3;go_wp2_with fail;go_ret;exact ⟨by rw [HR.out];rfl,HB.out.trans (HF4.out.mono HLW.out)⟩
end Go.Proofs.YtpgeidpfhakgaaaGreatDoor
