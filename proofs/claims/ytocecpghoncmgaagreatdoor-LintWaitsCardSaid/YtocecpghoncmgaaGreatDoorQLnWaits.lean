import Derived.Test.YtocecpghoncmgaaGreatDoorQh
import Derived.Test.YtocecpghoncmgaaGreatDoorQZxN
import Derived.Test.YtocecpghoncmgaaGreatDoorQLnP
set_option maxHeartbeats 12800000
set_option maxRecDepth 20000
namespace Go.Proofs.YtocecpghoncmgaaGreatDoor
open Go.RowKit
theorem sbody1_pl (w:World) (b:Nat) (K:Kx) (V D:Int) (s:Ss) (gn jn gs gx gp base:Nat) (T:TypeId) (pre:List Value) (kc nmv dfv pv:Value) (x:SyB) (ki:List SyNode) (h:PS w b K V D (.ok () s)) (hN:NS w gn jn gs base T pre kc nmv dfv pv x ki) (hpre:pre.length=jn)
  (hgx:CB w gx 182 [.pointer (some ⟨gn,jn,none⟩)]) (hgp:CB w gp 176 [.pointer (some ⟨b,0,none⟩)])
  (hw:bgn clWs s=true) (hbn:b<gn) (hbs:b<gs) (hns:gn≠gs) (hnB:gn<base) (hsB:gs<base) (hBw:base<=w.heap.size) (hmv:x.moves.length<=1000000) (hpl:plT K.xs=true) :
  Calls Tryz.prog 174 #[.pointer (some ⟨gp,0,none⟩),.pointer (some ⟨gx,0,none⟩),.pointer (some ⟨gs,0,none⟩)] w (ClEnd w b K V D s gn jn gs base T pre kc nmv dfv pv x ki):=by
 have HC:=h_ (sclause_pl w b K V D s gn jn gs base T pre kc nmv dfv pv x ki h hN hpre hw hbn hbs hns hnB hsB hBw hmv hpl);have y0:=hgp.c 0 rfl;have y1:=hgx.c 0 rfl;clear h hN hgx hgp;go_enter Tryz.func174,Tryz.ntmps174;go_wp2_with fail;refine HC.out.mono ?_;rintro e w1 ⟨rfl,hh⟩;have HH:=h_ hh;clear hh HC y0 y1;go_wp2_with fail;go_end0;exact ⟨rfl,HH.out⟩
theorem body_clauses_pl (w:World) (b:Nat) (K:Kx) (V D:Int) (m:Rs Unit) (gn jn gs gx gp gu base:Nat) (T:TypeId) (pre:List Value) (kc nmv dfv pv:Value) (Wb:World) (x:SyB) (h:B1 b K V D gn jn gs gx gp gu base T pre kc nmv dfv pv Wb x m w) (hpre:pre.length=jn)
  (hbn:b<gn) (hbs:b<gs) (hns:gn≠gs) (hnB:gn<base) (hsB:gs<base) (hxB:gx<base) (hpB:gp<base) (huB:gu<base) (hnx:gx≠b/\gx≠gn/\gx≠gs) (hnp:gp≠b/\gp≠gn/\gp≠gs) (hnu:gu≠b/\gu≠gn/\gu≠gs) (hpl:plT K.xs=true) :
  Calls Tryz.prog 112 #[.pointer (some ⟨b,0,none⟩),.func (.func 174) #[] #[.pointer (some ⟨gp,0,none⟩),.pointer (some ⟨gx,0,none⟩),.pointer (some ⟨gs,0,none⟩)],.slice (some ⟨gu,0,none⟩) clWs.length clWs.length] w λ e w'=>e=.returned (.tuple #[])/\∃y,(m.go (It clauseS x)).is y/\B1 b K V D gn jn gs gx gp gu base T pre kc nmv dfv pv Wb y (m.go (It clauseS x)).void w':=by
 refine each_it b K D gu clWs _ _ (λ _ _=>by kernel_rfl) clauseS clauseS_goes (B1 b K V D gn jn gs gx gp gu base T pre kc nmv dfv pv Wb) (λ x m w hi=>⟨V,hi.ps⟩) (λ x m w hi=>hi.tx) (λ x m w w' hi hb=>hi.below hb) clauseS_stop clauseS_goon ?_ x m w h (by decide);intro x s W hi hbg;obtain ⟨t,l,hs,hl,_⟩:=hi.ps.head rfl;refine (sbody1_pl W b K V D s gn jn gs gx gp base T pre kc nmv dfv pv x [] hi.ps hi.ns hpre hi.gx hi.gp hbg hbn hbs hns hnB hsB hi.sz (by have:=hi.len s rfl;omega) hpl).mono ?_;rintro e w' ⟨rfl,y,h1,h2,h3,h4,h5⟩;refine ⟨rfl,y,h1,h2,h3,hi.tx.ch h4 (by omega),hi.gp.ch h4 (by omega),hi.gx.ch h4 (by omega),hi.ch.trans h4,λ s' e=>?_,Nat.le_trans hi.sz h4.size⟩;have:=step_left clauseS_steps (λ y s'=>clauseS_goon x s y s' t l hs hl hbg) e;have:=hi.len s rfl;omega
theorem sbody_pl (w:World) (b:Nat) (K:Kx) (V D:Int) (d:Nat) (m:Rs Unit) (gn jn:Nat) (T:TypeId) (pre:List Value) (kc nmv dfv pv:Value) (h:PS w b K V D m) (hD:0<=D/\D<=12) (hnd:(∃s,m=.ok () s)->NodeC b K (D+1) d)
  (hcell:CB w gn T (pre++ndC kc nmv (.string ⟨#[]⟩) dfv (.slice none 0 0) (.slice none 0 0) (.slice none 0 0) (.slice none 0 0) pv)) (hpre:pre.length=jn) (hbn:b<gn) (hpl:plT K.xs=true) :
  Calls Tryz.prog 115 #[.pointer (some ⟨b,0,none⟩),.pointer (some ⟨gn,jn,none⟩)] w (BdEnd w b K V D d m gn T pre kc nmv dfv pv):=by
 obtain ⟨gp,hgp⟩:∃g,g=w.heap.size:=⟨_,rfl⟩
 obtain ⟨gx,hgx⟩:∃g,g=w.heap.size+1:=⟨_,rfl⟩
 obtain ⟨gs,hgs⟩:∃g,g=w.heap.size+1+1:=⟨_,rfl⟩
 obtain ⟨W1,hW1⟩:∃W1,W1=(w.alloc (.cells #[.pointer (some ⟨b,0,none⟩)] 176)).alloc (.cells #[.pointer (some ⟨gn,jn,none⟩)] 182):=⟨_,rfl⟩
 have hsz1:(w.alloc (.cells #[.pointer (some ⟨b,0,none⟩)] 176)).heap.size=w.heap.size+1:=by simp
 have hsz2:W1.heap.size=w.heap.size+1+1:=by rw [hW1];simp
 obtain ⟨W0,hW0⟩:∃W0,W0=W1.alloc (.cells #[.bool false,.bool false,.bool false] 219):=⟨_,rfl⟩
 have hsz3:W0.heap.size=w.heap.size+3:=by rw [hW0];simp [hsz2]
 have HGP:Hid (CB W0 gp 176 [.pointer (some ⟨b,0,none⟩)]):=by rw [hW0,hW1,hgp];exact ((CB.new w _ [.pointer (some ⟨b,0,none⟩)]).alloc _).alloc _
 have HGX:Hid (CB W0 gx 182 [.pointer (some ⟨gn,jn,none⟩)]):=by
  have:=CB.new (w.alloc (.cells #[.pointer (some ⟨b,0,none⟩)] 176)) 182 [.pointer (some ⟨gn,jn,none⟩)];rw [hsz1,<-hgx] at this;rw [hW0,hW1];exact this.alloc _
 have HGS:Hid (CB W0 gs 219 [.bool false,.bool false,.bool false]):=by
  have:=CB.new W1 219 [.bool false,.bool false,.bool false];rw [hsz2,<-hgs] at this;rw [hW0];exact this
 have HB0:Hid (Below w.heap.size w W0):=by rw [hW0,hW1];exact (((b_ _ w).alloc (n_ _) _).alloc (by simp) _).alloc (by simp;omega) _
 have hbw:=h.blt;have hnw:=hcell.lt;have HP:=h_ (h.below HB0.out);have HCL:=h_ (hcell.below HB0.out);have HND:=h_ hnd;have HPRE:=h_ hpre
 have hbx:b<gx:=by omega
 have hbp:b<gp:=by omega
 have hbs:b<gs:=by omega
 obtain ⟨r,hr,_,_,hrD,_⟩:=HP.out.out;have y8:=hr.c8;rw [hrD] at y8;have yf:=hr.fr 8;have yp:=HGP.out.c 0 rfl;have ew:IntKind.i64.wrap (D+1)=D+1:=IntWalk.i64_in _ (by constructor <;> omega)
 have ew2:IntKind.i64.wrap (D+1-1)=D:=by rw [show D+1-1=D from by omega];exact IntWalk.i64_in _ (by constructor <;> omega)
 have EW2:=h_ ew2
 obtain ⟨W2,hW2⟩:∃W2,W2=(W0.setCell ⟨b,8,none⟩ (.int .i64 (D+1))).alloc (.cells #[.string ⟨#[105,110,105,116,105,97,108]⟩,.string ⟨#[101,110,116,101,114]⟩,.string ⟨#[108,101,97,118,101]⟩,.string ⟨#[111,110]⟩,.string ⟨#[97,108,119,97,121,115]⟩,.string ⟨#[97,102,116,101,114]⟩] 9):=⟨_,rfl⟩
 obtain ⟨gu,hgu⟩:∃g,g=W0.heap.size:=⟨_,rfl⟩
 have hm1:Mv b W0 (W0.setCell ⟨b,8,none⟩ (.int .i64 (D+1))):=(Mv.refl b W0).set 8 _
 have hb2:Below W0.heap.size (W0.setCell ⟨b,8,none⟩ (.int .i64 (D+1))) W2:=by rw [hW2];exact (b_ _ _).alloc (by simp) _
 have hb2':Below (W0.setCell ⟨b,8,none⟩ (.int .i64 (D+1))).heap.size (W0.setCell ⟨b,8,none⟩ (.int .i64 (D+1))) W2:=by rw [hW2];exact (b_ _ _).alloc (n_ _) _
 have HM2:Hid (Mv b W0 W2):=hm1.trans (Mv.of b hb2')
 have hsz4:W2.heap.size=gu+1:=by rw [hW2,hgu];simp
 have hguv:gu=w.heap.size+3:=by omega
 have HT1:Hid (CB W2 gu 9 (clWs.map txV)):=by
  have:=CB.new (W0.setCell ⟨b,8,none⟩ (.int .i64 (D+1))) 9 (clWs.map txV);rw [show (W0.setCell ⟨b,8,none⟩ (.int .i64 (D+1))).heap.size=W0.heap.size from by simp] at this;rw [hW2,hgu];exact this
 have HB1:Hid (B1 b K V (D+1) gn jn gs gx gp gu (gu+1) T pre kc nmv dfv pv W2 SyB.none m W2):=by
  refine ⟨(HP.out.lev (D+1)).below hb2',⟨⟨_,_,_,_,[],[],[],[],HCL.out.mv HM2.out (by omega),?_⟩,HGS.out.mv HM2.out (by omega)⟩,HT1.out,HGP.out.mv HM2.out (by omega),HGX.out.mv HM2.out (by omega),Ch.refl _ _,λ s e=>?_,by omega⟩
  ·exact Q4.nil _ _ _ _ _ _ _ _ _ _
  ·subst e;have h1:=HP.out.left_le;have h2:=HP.out.ok.n;show 0+_<=_;omega
 have HC1:=h_ (body_clauses_pl W2 b K V (D+1) m gn jn gs gx gp gu (gu+1) T pre kc nmv dfv pv W2 SyB.none HB1.out hpre hbn hbs (by omega) (by omega) (by omega) (by omega) (by omega) (by omega) (by omega) (by omega) (by omega) hpl)
 have hord:w.heap.size<=gp/\gp<gx/\gx<gs/\gs<gu:=by omega
 have hW2l:gu+1<=W2.heap.size:=by omega
 have HS0:Hid (W0.heap.size=gu):=hgu.symm;have HW2:=h_ hW2;have HCH2:Hid (Ch (λ k=>k=b∨k=gn) w W2):=(Ch.of_below HB0.out).trans ((Ch.of_mv HM2.out).mono (λ k _ h=>.inl h));clear h hcell hnd hr hpre hrD hm1 hb2 hb2' ew2 hsz3 hsz4 hsz2 hsz1 hgu hW2 hguv;go_enter Tryz.func115,Tryz.ntmps115;go_upto_region 2 with fail;rw [<-hW1,<-hW0,<-hgs,<-hgx,<-hgp];clear hW1 hW0 hgs hgx hgp;have hs0:=HS0.out;go_wp2_with fail;rw [<-HW2.out];clear HW2 HS0 hs0;refine HC1.out.mono ?_;rintro e w3 ⟨rfl,x,hx,hb1⟩
 obtain ⟨m1,hm1⟩:∃m1,(m.go (It clauseS SyB.none)).void=m1:=⟨_,rfl⟩
 rw [hm1] at hb1;have HX:=h_ hx;have HM1:=h_ hm1;have HB1':=h_ hb1;have yp3:=hb1.gp.c 0 rfl
 obtain ⟨gk,hgk⟩:∃g,g=w3.heap.size:=⟨_,rfl⟩
 obtain ⟨W4,hW4⟩:∃W4,W4=w3.alloc (.cells #[.string ⟨#[115,116,97,116,101]⟩,.string ⟨#[112,97,114,97,108,108,101,108]⟩,.string ⟨#[104,105,115,116,111,114,121]⟩,.string ⟨#[100,101,101,112]⟩] 9):=⟨_,rfl⟩
 have hb4:Below w3.heap.size w3 W4:=by rw [hW4];exact (b_ _ w3).alloc (n_ _) _
 have hgk1:gu+1<=gk:=by rw [hgk];exact hb1.sz
 have HB2:Hid (B2 b K V (D+1) gn jn gs gx gp gk (gu+1) T pre kc nmv dfv pv x W4 [] m1 W4):=by
  refine ⟨hb1.ps.below hb4,by rw [hgk];exact hb1.ns.k.below hb4,?_,hb1.gp.below hb4,hb1.gx.below hb4,Ch.refl _ _,λ s e=>?_,Nat.le_trans hb1.sz hb4.size⟩
  ·rw [hW4,hgk];exact CB.new w3 9 (kidWs.map txV)
  ·have:=hb1.len s e;show 0+_<=_;omega
 have HN1:Hid ((∃s,m1=.ok () s)->NodeC b K (D+1) d):=λ ⟨s,e⟩=>HND.out (by
  rw [<-HM1.out] at e
  cases hm:m with
  |out=>rw [hm] at e;cases e
  |bad c p=>rw [hm] at e;cases e
  |ok u s0=>exact ⟨s0,rfl⟩)
 have HC2:=h_ (body_kids W4 b K V (D+1) d m1 gn jn gs gx gp gk (gu+1) T pre kc nmv dfv pv x W4 [] HB2.out HPRE.out HN1.out hbn hbs (by omega) (by omega) (by omega) (by omega) (by omega) hbx hbp (by omega) (by omega) (by omega));have HCH4:Hid (Ch (λ k=>k=b∨k=gn) w W4):=(HCH2.out.trans2 hb1.ch (λ j hj hh=>by omega)).trans (Ch.of_below hb4);clear hx hb1 hm1 hb4 HC1 yp y8 yf ew;go_wp2_with fail;rw [<-hW4,<-hgk];clear hW4 hgk;refine HC2.out.mono ?_;rintro e w5 ⟨rfl,l,hl,hb2⟩
 obtain ⟨m2,hm2⟩:∃m2,(m1.go (It (kidS (nodeR d)) [])).void=m2:=⟨_,rfl⟩
 rw [hm2] at hb2;have HL:=h_ hl;have HM2E:=h_ hm2;have HB2':=h_ hb2;have yp5:=hb2.gp.c 0 rfl;obtain ⟨r,hr,_,_,hrD,_⟩:=hb2.ps.out;have y8:=hr.c8;rw [hrD] at y8;have yf:=hr.fr 8;have ew2:=EW2.out;clear hl hb2 hm2 hr hrD HC2 yp3;go_wp2_with fail;go_end0;have hR:=body_eq HX.out HM1.out HL.out HM2E.out;have hm5:Mv b w5 (w5.setCell ⟨b,8,none⟩ (.int .i64 D)):=(Mv.refl b w5).set 8 _;obtain ⟨v1,v2,v3,v4,F1,F2,F3,F4,c1,c2,_⟩:=HB2'.out.ns.ex;have hc3:=c2.ch (Ch.of_mv hm5) (λ g hg _ e=>by have e':g=b:=e;omega);refine ⟨rfl,(x,l),?_,?_,⟨v1,v2,v3,v4,F1,F2,F3,F4,c1.mv hm5 (by omega),?_⟩,?_⟩
 ·rw [hR];exact go_ok_is _ _
 ·rw [hR,go_ok_void];exact HB2'.out.ps.lev D
 ·have hle:w.heap.size<=gu+1:=by omega
  exact { hc3 with l1:=λ g hg=>Nat.le_trans hle (hc3.l1 g hg),l2:=λ g hg=>Nat.le_trans hle (hc3.l2 g hg),l3:=λ g hg=>Nat.le_trans hle (hc3.l3 g hg),l4:=λ g hg=>Nat.le_trans hle (hc3.l4 g hg) }
 ·exact (HCH4.out.trans2 HB2'.out.ch (λ j hj hh=>by omega)).trans ((Ch.of_mv hm5).mono (λ k _ h=>.inl h))
theorem sstate1_pl (w:World) (b:Nat) (K:Kx) (V D:Int) (d:Nat) (m:Rs Unit) (gp gn:Nat) (kc nmv dfv pv:Value) (h:PS w b K V D m) (hD:0<=D/\D<=12) (hnd:(∃s,m=.ok () s)->NodeC b K (D+1) d)
  (hgp:CB w gp 176 [.pointer (some ⟨b,0,none⟩)]) (hcell:CB w gn 27 (ndC kc nmv (.string ⟨#[]⟩) dfv (.slice none 0 0) (.slice none 0 0) (.slice none 0 0) (.slice none 0 0) pv)) (hbn:b<gn) (hpl:plT K.xs=true) :
  Calls Tryz.prog 268 #[.pointer (some ⟨gp,0,none⟩),.pointer (some ⟨gn,0,none⟩)] w (BdEnd w b K V D d m gn 27 [] kc nmv dfv pv):=by
 have HC:=h_ (sbody_pl w b K V D d m gn 0 27 [] kc nmv dfv pv h hD hnd hcell rfl hbn hpl);have y0:=hgp.c 0 rfl;clear h hgp hcell hnd;go_enter Tryz.func268,Tryz.ntmps268;go_wp2_with fail;refine HC.out.mono ?_;rintro e w1 ⟨rfl,hh⟩;have HH:=h_ hh;clear hh HC y0;go_wp2_with fail;go_end0;exact ⟨rfl,HH.out⟩
theorem sstate_pl (w:World) (b:Nat) (K:Kx) (V D:Int) (m:Rs Unit) (h:PS w b K V D m) (kd:Nat) (d:Nat) (hD:D=12-(d:Int)) (hd12:d<=12) (hnd:d≠0->NodeC b K (D+1) (d-1)) (hpl:plT K.xs=true) :
  Calls Tryz.prog 224 #[.pointer (some ⟨b,0,none⟩),.int .i64 (kd:Int)] w (StEnd w b K V D (m.go λ s=>(namedR d s).bind λ y s1=>innerR (nodeR (d-1)) kd y s1)):=by
 obtain ⟨gp,hgp⟩:∃g,g=w.heap.size:=⟨_,rfl⟩
 obtain ⟨gr,hgr⟩:∃g,g=w.heap.size+1:=⟨_,rfl⟩
 obtain ⟨W0,hW0⟩:∃W0,W0=(w.alloc (.cells #[.pointer (some ⟨b,0,none⟩)] 176)).alloc (.cells #[.int .i64 0,.string ⟨#[]⟩,.string ⟨#[]⟩,.string ⟨#[]⟩,.slice none 0 0,.slice none 0 0,.slice none 0 0,.slice none 0 0,.int .i64 0] 27):=⟨_,rfl⟩
 have hsz:(w.alloc (.cells #[.pointer (some ⟨b,0,none⟩)] 176)).heap.size=w.heap.size+1:=by simp
 have HGP:Hid (CB W0 gp 176 [.pointer (some ⟨b,0,none⟩)]):=by rw [hW0,hgp];exact (CB.new w _ [.pointer (some ⟨b,0,none⟩)]).alloc _
 have HR:Hid (CB W0 gr 27 zNode):=by rw [hW0,hgr,<-hsz];exact CB.new _ _ zNode
 have HB0:Hid (Below w.heap.size w W0):=by rw [hW0];exact ((b_ _ w).alloc (n_ _) _).alloc (by simp) _
 have hbw:=h.blt
 have hgpw:w.heap.size<=gp:=by omega
 have hgrp:gp<gr:=by omega
 have HC1:=h_ (snamed_any W0 b K V D m (h.below HB0.out) kd d hD hd12);have HND:=h_ hnd;have HDD:=h_ (And.intro hD hd12);have yp:=HGP.out.c 0 rfl;clear h hD hnd;go_enter Tryz.func224,Tryz.ntmps224;go_upto_region 1 with fail;rw [<-hW0,<-hgr,<-hgp];clear hW0 hgp hgr hsz;go_wp2_with fail;refine HC1.out.mono ?_;rintro e w1 ⟨x,p,rfl,his,hp,hm⟩;obtain ⟨X,hX⟩:=str_of x;have HX:=h_ hX;unfold nNode;rw [hX]
 obtain ⟨gn,hgn⟩:∃g,g=w1.heap.size:=⟨_,rfl⟩
 obtain ⟨W1,hW1⟩:∃W1,W1=w1.alloc (.cells #[.int .i64 (kd:Int),.string X,.string ⟨#[]⟩,.string ⟨#[]⟩,.slice none 0 0,.slice none 0 0,.slice none 0 0,.slice none 0 0,.int .i64 p] 27):=⟨_,rfl⟩
 have hb1:Below w1.heap.size w1 W1:=by rw [hW1];exact (b_ _ w1).alloc (n_ _) _
 have HN1:Hid (CB W1 gn 27 (ndC (.int .i64 (kd:Int)) (.string X) (.string ⟨#[]⟩) (.string ⟨#[]⟩) (.slice none 0 0) (.slice none 0 0) (.slice none 0 0) (.slice none 0 0) (.int .i64 p))):=by rw [hW1,hgn];exact CB.new w1 _ _
 have HGP1:=h_ ((HGP.out.mv hm (by omega)).below hb1);have HR1:=h_ ((HR.out.mv hm (by omega)).below hb1);have HM1:Hid (Mv b w W1):=((Mv.of b HB0.out).trans hm).trans (Mv.of b hb1);have HIS:=h_ his
 obtain ⟨m1,hm1⟩:∃m1,(m.go (namedR d)).void=m1:=⟨_,rfl⟩
 rw [hm1] at hp;have HM1E:=h_ hm1;have HP1:=h_ (hp.below hb1)
 have hgn1:gr<gn:=by have:=(HR.out.mv hm (by omega)).lt;omega
 obtain ⟨m2,hm2⟩:∃m2,m1.go (mustR 4 [123])=m2:=⟨_,rfl⟩
 have HM2E:=h_ hm2
 obtain ⟨nd,hndd⟩:∃nd,d-1=nd:=⟨_,rfl⟩
 have HNDD:=h_ hndd
 obtain ⟨m3,hm3⟩:∃m3,(m2.go (bodyR (nodeR nd))).void=m3:=⟨_,rfl⟩
 have HM3E:=h_ hm3
 have HOK:Hid ((∃s,m2=.ok () s)->NodeC b K (D+1) nd):=λ ⟨s,e⟩=>by
  rw [<-HNDD.out];refine HND.out (λ h0=>?_);rw [<-HM2E.out,<-HM1E.out,h0] at e
  cases m with
  |out=>cases e
  |bad c p=>cases e
  |ok u s1 =>
   obtain ⟨c,p,e1⟩:=namedR_zero s1;have e2:((namedR 0 s1).void).go (mustR 4 [123])=.ok () s:=e;rw [e1] at e2;cases e2
 have HC2:Hid (Calls Tryz.prog 110 #[.pointer (some ⟨b,0,none⟩),.func (.func 268) #[] #[.pointer (some ⟨gp,0,none⟩),.pointer (some ⟨gn,0,none⟩)]] W1 λ e w'=>e=.returned (.tuple #[])/\∃z:SyB×List SyNode,(m2.go (bodyR (nodeR nd))).is z/\PS w' b K V D (m3.go (mustR 4 [125])) /\
   (∃v1 v2 v3 v4 F1 F2 F3 F4,CB w' gn 27 (ndC (.int .i64 (kd:Int)) (.string X) (txV z.1.initial) (.string ⟨#[]⟩) v1 v2 v3 v4 (.int .i64 p))/\Q4 w' W1.heap.size (dvActs true z.1.enter) (dvActs true z.1.leave) (dvMoves true z.1.moves) (dvKids true z.2) v1 v2 v3 v4 F1 F2 F3 F4)/\Ch (λ k=>k=b∨k=gn) W1 w'):=by
  refine senclosed_any W1 b _ _ (λ _ _=>by kernel_rfl) (λ W=>PS W b K V D m2/\Mv b W1 W)
   (λ W=>∃z:SyB×List SyNode,(m2.go (bodyR (nodeR nd))).is z/\PS W b K V D m3/\(∃v1 v2 v3 v4 F1 F2 F3 F4,CB W gn 27 (ndC (.int .i64 (kd:Int)) (.string X) (txV z.1.initial) (.string ⟨#[]⟩) v1 v2 v3 v4 (.int .i64 p))/\Q4 W W1.heap.size (dvActs true z.1.enter) (dvActs true z.1.leave) (dvMoves true z.1.moves) (dvKids true z.2) v1 v2 v3 v4 F1 F2 F3 F4)/\Ch (λ k=>k=b∨k=gn) W1 W) _ ?_ ?_ ?_
  ·have:=sneed_any W1 b K V D m1 HP1.out ⟨#[123]⟩ 4 (tells_sg (by decide)) (by decide);rw [<-HM2E.out];exact this
  ·rintro W ⟨hp,hm⟩;have hs:=World.grownBy.size hm;refine (sstate1_pl W b K V D nd m2 gp gn _ _ _ _ hp (by have:=HDD.out;omega) HOK.out (HGP1.out.mv hm (by omega)) (HN1.out.mv hm (by omega)) (by omega) hpl).mono ?_;rintro e w' ⟨rfl,z,c1,c2,⟨v1,v2,v3,v4,F1,F2,F3,F4,c3,c4⟩,c5⟩;rw [HM3E.out] at c2;exact ⟨rfl,z,c1,c2,⟨v1,v2,v3,v4,F1,F2,F3,F4,c3,{ c4 with l1:=λ g hg=>Nat.le_trans hs (c4.l1 g hg),l2:=λ g hg=>Nat.le_trans hs (c4.l2 g hg),l3:=λ g hg=>Nat.le_trans hs (c4.l3 g hg),l4:=λ g hg=>Nat.le_trans hs (c4.l4 g hg) }⟩,((Ch.of_mv hm).mono (λ _ _ h=>.inl h)).trans c5⟩
  ·rintro W ⟨z,c1,c2,⟨v1,v2,v3,v4,F1,F2,F3,F4,c3,c4⟩,c5⟩;refine (sneed_any W b K V D m3 c2 ⟨#[125]⟩ 4 (tells_sg (by decide)) (by decide)).mono ?_;rintro e w' ⟨rfl,hp,hm⟩;have hbW1:=HP1.out.blt;exact ⟨rfl,z,c1,hp,⟨v1,v2,v3,v4,F1,F2,F3,F4,c3.mv hm (by omega),c4.ch (Ch.of_mv hm) (λ g hg _ e=>by have e':g=b:=e;omega)⟩,c5.trans ((Ch.of_mv hm).mono (λ _ _ h=>.inl h))⟩
 have yp1:=HGP1.out.c 0 rfl;clear hp hm hb1 hX his hm1 hm2 hm3 hndd HC1 HOK HND HGP HR yp;go_upto_region 2 with fail;rw [<-hW1,<-hgn];clear hW1 hgn;go_wp2_with fail;refine HC2.out.mono ?_;rintro e w5 ⟨rfl,z,c1,c2,⟨v1,v2,v3,v4,F1,F2,F3,F4,c3,c4⟩,c5⟩;obtain ⟨Y,hY⟩:=str_of z.1.initial;have HY:=h_ hY;rw [hY] at c3;obtain ⟨A1,k1,rfl,_⟩:=c4.a1.slice;obtain ⟨A2,k2,rfl,_⟩:=c4.a2.slice;obtain ⟨A3,k3,rfl,_⟩:=c4.a3.slice;obtain ⟨A4,k4,rfl,_⟩:=c4.a4.slice;have HZ:=h_ c1;have HP5:=h_ c2;have HQ4:=h_ c4;have HCH5:=h_ c5;have HN5:=h_ c3;have HR5:=h_ (HR1.out.ch c5 (by have:=HP1.out.blt;omega));have n0:=c3.c 0 rfl;have n1:=c3.c 1 rfl;have n2:=c3.c 2 rfl;have n3:=c3.c 3 rfl;have n4:=c3.c 4 rfl;have n5:=c3.c 5 rfl;have n6:=c3.c 6 rfl;have n7:=c3.c 7 rfl;have n8:=c3.c 8 rfl;clear c1 c2 c3 c4 c5 hY HC2 yp1;have q0:=HR5.out.c 0 rfl;have q1:=HR5.out.c 1 rfl;have q2:=HR5.out.c 2 rfl;have q3:=HR5.out.c 3 rfl;have q4:=HR5.out.c 4 rfl;have q5:=HR5.out.c 5 rfl;have q6:=HR5.out.c 6 rfl;have q7:=HR5.out.c 7 rfl;have q8:=HR5.out.c 8 rfl;have f0:=HR5.out.fr 0;have f1:=HR5.out.fr 1;have f2:=HR5.out.fr 2;have f3:=HR5.out.fr 3;have f4:=HR5.out.fr 4;have f5:=HR5.out.fr 5;have f6:=HR5.out.fr 6;have f7:=HR5.out.fr 7;have f8:=HR5.out.fr 8;go_wp2_with fail;have hres:=HR5.out.all [.int .i64 (kd:Int),.string X,.string Y,.string ⟨#[]⟩,.slice A1 z.1.enter.length k1,.slice A2 z.1.leave.length k2,.slice A3 z.1.moves.length k3,.slice A4 z.2.length k4,.int .i64 p] rfl
 have hgrw:w.heap.size<=gr:=by omega
 have hmv5:Mv b w w5:=((Ch.of_mv HM1.out).trans2 HCH5.out (S1:=λ k=>k=b∨k=gn) (λ j hj hh=>hh.elim id (λ e=>by omega))).mv (λ k _ h=>h);have hmf:=sets_put hmv5 hgrw 0 [.int .i64 (kd:Int),.string X,.string Y,.string ⟨#[]⟩,.slice A1 z.1.enter.length k1,.slice A2 z.1.leave.length k2,.slice A3 z.1.moves.length k3,.slice A4 z.2.length k4,.int .i64 p];have hpf:=HP5.out.sets (g:=gr) (by omega) 0 [.int .i64 (kd:Int),.string X,.string Y,.string ⟨#[]⟩,.slice A1 z.1.enter.length k1,.slice A2 z.1.leave.length k2,.slice A3 z.1.moves.length k3,.slice A4 z.2.length k4,.int .i64 p];have hq:=HQ4.out.ch (Ch.many (S:=(·=gr)) (.inl rfl) [.int .i64 (kd:Int),.string X,.string Y,.string ⟨#[]⟩,.slice A1 z.1.enter.length k1,.slice A2 z.1.leave.length k2,.slice A3 z.1.moves.length k3,.slice A4 z.2.length k4,.int .i64 p] 0 (Ch.refl _ w5)) (λ g hg _ e=>by have e':g=gr:=e;have:=HR1.out.lt;omega);have hle:w.heap.size<=W1.heap.size:=World.grownBy.size HM1.out;simp only [sets,Nat.reduceAdd] at hres hmf hpf hq;refine bodyPost_ret (resNode rfl _ rfl hres) rfl ?_;have hEQ:=state_eq (kd:=kd) HIS.out HM1E.out HM2E.out HZ.out HM3E.out;refine ⟨nodeOf kd (x,p) z,_,rfl,?_,rfl,?_,?_,hmf⟩
 ·exact rep_node { hq with l1:=λ g hg=>Nat.le_trans hle (hq.l1 g hg),l2:=λ g hg=>Nat.le_trans hle (hq.l2 g hg),l3:=λ g hg=>Nat.le_trans hle (hq.l3 g hg),l4:=λ g hg=>Nat.le_trans hle (hq.l4 g hg) } HX.out HY.out
 ·rw [HNDD.out,hEQ];exact go_ok_is _ _
 ·rw [HNDD.out,hEQ,go_ok_void];exact hpf
theorem snode_step_pl (b:Nat) (K:Kx) (hpl:plT K.xs=true) (D:Int) (d:Nat) (hD:D=12-(d:Int)) (hd12:d<=12) (hnd:d≠0->NodeC b K (D+1) (d-1)):NodeC b K D d:=by
 intro w V s h hkb;show Calls _ _ _ _ (StEnd w b K V D (nodeR d s));obtain ⟨t,l,hs,hlt,_,_,_⟩:=h.head rfl;have hwd:=(word_bgn kidWs_kw hs hlt 1 (by decide)).1 hkb
 have e1:∀u,isKw u=true->isAt 2 u s.ts=decide (t.text=u):=λ u hu=>by rw [hs];exact tells_kw hu t hlt
 have k1:=e1 wState (by decide);have k2:=e1 wParallel (by decide);have k3:=e1 wHistory (by decide);have k4:=e1 wDeep (by decide)
 have h5:kindOf s.ts≠5:=by
  intro h5
  have n:∀u,isAt 2 u s.ts=false:=λ u=>by
   rw [hs] at h5 ⊢;show isTk 2 u t=false;unfold isTk;rw [show t.kind=5 from h5];rfl
  unfold kidWs at hwd;simp only [wordAt,n] at hwd;simp at hwd
 have hcl:(t.text=wState/\nodeK s.ts=1)∨(t.text=wParallel/\nodeK s.ts=2)∨(t.text=wHistory/\nodeK s.ts=3)∨(t.text=wDeep/\nodeK s.ts=4):=by
  unfold kidWs at hwd;unfold nodeK;simp only [wordAt,k1,k2,k3,k4,decide_eq_true_eq] at hwd ⊢
  by_cases c1:t.text=wState
  ·exact .inl ⟨c1,if_pos c1⟩
  ·rw [if_neg c1] at hwd ⊢
   by_cases c2:t.text=wParallel
   ·exact .inr (.inl ⟨c2,if_pos c2⟩)
   ·rw [if_neg c2] at hwd ⊢
    by_cases c3:t.text=wHistory
    ·exact .inr (.inr (.inl ⟨c3,if_pos c3⟩))
    ·rw [if_neg c3] at hwd ⊢
     by_cases c4:t.text=wDeep
     ·exact .inr (.inr (.inr ⟨c4,if_pos c4⟩))
     ·rw [if_neg c4] at hwd;exact absurd rfl hwd
 obtain ⟨gr,hgr⟩:∃g,g=w.heap.size:=⟨_,rfl⟩
 obtain ⟨W0,hW0⟩:∃W0,W0=w.alloc (.cells #[.int .i64 0,.string ⟨#[]⟩,.string ⟨#[]⟩,.string ⟨#[]⟩,.slice none 0 0,.slice none 0 0,.slice none 0 0,.slice none 0 0,.int .i64 0] 27):=⟨_,rfl⟩
 have HR:Hid (CB W0 gr 27 zNode):=by rw [hW0,hgr];exact CB.new w _ zNode
 have HB0:Hid (Below w.heap.size w W0):=by rw [hW0];exact (b_ _ w).alloc (n_ _) _
 have hbw:=h.blt
 have hgrw:w.heap.size<=gr:=by omega
 have HC0:=h_ (stake_any W0 b K V D (.ok () s) (h.below HB0.out) (λ s' e=>by cases e;exact h5));have HCL:=h_ hcl;have HS:=h_ hs;have HND:=h_ hnd;have HDD:=h_ (And.intro hD hd12);clear h hs hlt hwd e1 k1 k2 k3 k4 h5 hcl hnd hD hkb hd12;go_enter Tryz.func177,Tryz.ntmps177;go_upto_region 1 with fail;rw [<-hW0,<-hgr];clear hW0 hgr;go_wp2_with fail;refine HC0.out.mono ?_;rintro e w1 ⟨t',rfl,htok,hp,hm⟩;obtain rfl:=head_tok htok HS.out;obtain ⟨X,hX⟩:=str_of t'.text
 have e2:X.toList=t'.text:=by
  rw [Lib.toList_data];unfold txV at hX;injection hX with hX;rw [<-hX]
 have HE2:=h_ e2;unfold tkV;rw [hX]
 have hfl:∀w,(Instr.field 131 (.agg #[.int .i64 t'.kind,.string X,.int .i64 t'.num,.int .i64 t'.at_]) 1).run Tryz.prog w=.ok (.string X) w:=λ w=>by kernel_rfl
 have HP1:Hid (PS w1 b K V D (.ok () s.drop)):=hp;have HR1:=h_ (HR.out.mv hm (by omega));have HM1:Hid (Mv b w w1):=(Mv.of b HB0.out).trans hm;have q0:=HR1.out.c 0 rfl;clear hp hm hX htok HC0 HR e2 q0;rcases HCL.out with ⟨ht,hq⟩|⟨ht,hq⟩|⟨ht,hq⟩|⟨ht,hq⟩
 ·
  have d1:(X.toList == [115,116,97,116,101])=true:=by rw [HE2.out,ht];rfl
  have hQ:=node_inner (d:=d) hq (by decide)
  have HC:Hid (Calls Tryz.prog 224 #[.pointer (some ⟨b,0,none⟩),.int .i64 1] w1 (StEnd w1 b K V D (nodeR d s))):=by
   rw [hQ];exact sstate_pl w1 b K V D _ HP1.out 1 d HDD.out.1 HDD.out.2 HND.out hpl
  clear ht hq hQ HCL HND;go_wp2_with fail;refine HC.out.mono ?_;rintro e w2 ⟨x,ys,rfl,hrp,hl,his,hp,hm⟩
  have zo:∀u∈ys,u.oneCell'=true:=by obtain ⟨F2,f1,_,_⟩:=hrp;exact f1.ones
  obtain ⟨y0,y1,y2,y3,y4,y5,y6,y7,y8,rfl⟩:=cells9 hl;have st:∀y∈[y0,y1,y2,y3,y4,y5,y6,y7,y8],∀(w:World) (a:Addr),(store a y).run Tryz.prog w=stored Tryz.prog w a y .plain:=λ y hy w a=>run_store _ w a y .plain (zo y hy);have s0:=st y0 (by simp);have s1:=st y1 (by simp);have s2:=st y2 (by simp);have s3:=st y3 (by simp);have s4:=st y4 (by simp);have s5:=st y5 (by simp);have s6:=st y6 (by simp);have s7:=st y7 (by simp);have s8:=st y8 (by simp);have HR2:=h_ (HR1.out.mv hm (by omega));have hgw1:gr<w1.heap.size:=HR1.out.lt;have HRP:=h_ hrp;have HIS:=h_ his;have HP2:=h_ hp;have HM2:=h_ (HM1.out.trans hm);have hs1:w.heap.size<=w1.heap.size:=World.grownBy.size HM1.out;clear st zo hl hrp his hp hm HC HR1 HP1;have q0:=HR2.out.c 0 rfl;have q1:=HR2.out.c 1 rfl;have q2:=HR2.out.c 2 rfl;have q3:=HR2.out.c 3 rfl;have q4:=HR2.out.c 4 rfl;have q5:=HR2.out.c 5 rfl;have q6:=HR2.out.c 6 rfl;have q7:=HR2.out.c 7 rfl;have q8:=HR2.out.c 8 rfl;have f0:=HR2.out.fr 0;have f1:=HR2.out.fr 1;have f2:=HR2.out.fr 2;have f3:=HR2.out.fr 3;have f4:=HR2.out.fr 4;have f5:=HR2.out.fr 5;have f6:=HR2.out.fr 6;have f7:=HR2.out.fr 7;have f8:=HR2.out.fr 8;go_wp2_with fail;have hres:=HR2.out.all [y0,y1,y2,y3,y4,y5,y6,y7,y8] rfl;have hmf:=sets_put HM2.out hgrw 0 [y0,y1,y2,y3,y4,y5,y6,y7,y8];have hpf:=HP2.out.sets (g:=gr) (by omega) 0 [y0,y1,y2,y3,y4,y5,y6,y7,y8];have hrf:=HRP.out.ch (Ch.many (S:=(·=gr)) (.inl rfl) [y0,y1,y2,y3,y4,y5,y6,y7,y8] 0 (Ch.refl _ w2)) (λ g hg _ e=>by have e':g=gr:=e;omega);simp only [sets,Nat.reduceAdd] at hres hmf hpf hrf;refine bodyPost_ret (resNode rfl _ rfl hres) rfl ?_;exact ⟨x,_,rfl,hrf.mono hs1,rfl,HIS.out,hpf,hmf⟩
 ·
  have d1:(X.toList == [115,116,97,116,101])=false:=by rw [HE2.out,ht];rfl
  have d2:(X.toList == [112,97,114,97,108,108,101,108])=true:=by rw [HE2.out,ht];rfl
  have hQ:=node_inner (d:=d) hq (by decide)
  have HC:Hid (Calls Tryz.prog 224 #[.pointer (some ⟨b,0,none⟩),.int .i64 2] w1 (StEnd w1 b K V D (nodeR d s))):=by
   rw [hQ];exact sstate_pl w1 b K V D _ HP1.out 2 d HDD.out.1 HDD.out.2 HND.out hpl
  clear ht hq hQ HCL HND;go_wp2_with fail;refine HC.out.mono ?_;rintro e w2 ⟨x,ys,rfl,hrp,hl,his,hp,hm⟩
  have zo:∀u∈ys,u.oneCell'=true:=by obtain ⟨F2,f1,_,_⟩:=hrp;exact f1.ones
  obtain ⟨y0,y1,y2,y3,y4,y5,y6,y7,y8,rfl⟩:=cells9 hl;have st:∀y∈[y0,y1,y2,y3,y4,y5,y6,y7,y8],∀(w:World) (a:Addr),(store a y).run Tryz.prog w=stored Tryz.prog w a y .plain:=λ y hy w a=>run_store _ w a y .plain (zo y hy);have s0:=st y0 (by simp);have s1:=st y1 (by simp);have s2:=st y2 (by simp);have s3:=st y3 (by simp);have s4:=st y4 (by simp);have s5:=st y5 (by simp);have s6:=st y6 (by simp);have s7:=st y7 (by simp);have s8:=st y8 (by simp);have HR2:=h_ (HR1.out.mv hm (by omega));have hgw1:gr<w1.heap.size:=HR1.out.lt;have HRP:=h_ hrp;have HIS:=h_ his;have HP2:=h_ hp;have HM2:=h_ (HM1.out.trans hm);have hs1:w.heap.size<=w1.heap.size:=World.grownBy.size HM1.out;clear st zo hl hrp his hp hm HC HR1 HP1;have q0:=HR2.out.c 0 rfl;have q1:=HR2.out.c 1 rfl;have q2:=HR2.out.c 2 rfl;have q3:=HR2.out.c 3 rfl;have q4:=HR2.out.c 4 rfl;have q5:=HR2.out.c 5 rfl;have q6:=HR2.out.c 6 rfl;have q7:=HR2.out.c 7 rfl;have q8:=HR2.out.c 8 rfl;have f0:=HR2.out.fr 0;have f1:=HR2.out.fr 1;have f2:=HR2.out.fr 2;have f3:=HR2.out.fr 3;have f4:=HR2.out.fr 4;have f5:=HR2.out.fr 5;have f6:=HR2.out.fr 6;have f7:=HR2.out.fr 7;have f8:=HR2.out.fr 8;go_wp2_with fail;have hres:=HR2.out.all [y0,y1,y2,y3,y4,y5,y6,y7,y8] rfl;have hmf:=sets_put HM2.out hgrw 0 [y0,y1,y2,y3,y4,y5,y6,y7,y8];have hpf:=HP2.out.sets (g:=gr) (by omega) 0 [y0,y1,y2,y3,y4,y5,y6,y7,y8];have hrf:=HRP.out.ch (Ch.many (S:=(·=gr)) (.inl rfl) [y0,y1,y2,y3,y4,y5,y6,y7,y8] 0 (Ch.refl _ w2)) (λ g hg _ e=>by have e':g=gr:=e;omega);simp only [sets,Nat.reduceAdd] at hres hmf hpf hrf;refine bodyPost_ret (resNode rfl _ rfl hres) rfl ?_;exact ⟨x,_,rfl,hrf.mono hs1,rfl,HIS.out,hpf,hmf⟩
 ·
  have d1:(X.toList == [115,116,97,116,101])=false:=by rw [HE2.out,ht];rfl
  have d2:(X.toList == [112,97,114,97,108,108,101,108])=false:=by rw [HE2.out,ht];rfl
  have d3:(X.toList == [104,105,115,116,111,114,121])=true:=by rw [HE2.out,ht];rfl
  have hQ:=node_hist (d:=d) hq (by decide)
  have HC:Hid (Calls Tryz.prog 225 #[.pointer (some ⟨b,0,none⟩),.int .i64 3] w1 (StEnd w1 b K V D (nodeR d s))):=by
   rw [hQ];exact shistory_any w1 b K V D _ HP1.out 3 d HDD.out.1 HDD.out.2
  clear ht hq hQ HCL HND;go_wp2_with fail;refine HC.out.mono ?_;rintro e w2 ⟨x,ys,rfl,hrp,hl,his,hp,hm⟩
  have zo:∀u∈ys,u.oneCell'=true:=by obtain ⟨F2,f1,_,_⟩:=hrp;exact f1.ones
  obtain ⟨y0,y1,y2,y3,y4,y5,y6,y7,y8,rfl⟩:=cells9 hl;have st:∀y∈[y0,y1,y2,y3,y4,y5,y6,y7,y8],∀(w:World) (a:Addr),(store a y).run Tryz.prog w=stored Tryz.prog w a y .plain:=λ y hy w a=>run_store _ w a y .plain (zo y hy);have s0:=st y0 (by simp);have s1:=st y1 (by simp);have s2:=st y2 (by simp);have s3:=st y3 (by simp);have s4:=st y4 (by simp);have s5:=st y5 (by simp);have s6:=st y6 (by simp);have s7:=st y7 (by simp);have s8:=st y8 (by simp);have HR2:=h_ (HR1.out.mv hm (by omega));have hgw1:gr<w1.heap.size:=HR1.out.lt;have HRP:=h_ hrp;have HIS:=h_ his;have HP2:=h_ hp;have HM2:=h_ (HM1.out.trans hm);have hs1:w.heap.size<=w1.heap.size:=World.grownBy.size HM1.out;clear st zo hl hrp his hp hm HC HR1 HP1;have q0:=HR2.out.c 0 rfl;have q1:=HR2.out.c 1 rfl;have q2:=HR2.out.c 2 rfl;have q3:=HR2.out.c 3 rfl;have q4:=HR2.out.c 4 rfl;have q5:=HR2.out.c 5 rfl;have q6:=HR2.out.c 6 rfl;have q7:=HR2.out.c 7 rfl;have q8:=HR2.out.c 8 rfl;have f0:=HR2.out.fr 0;have f1:=HR2.out.fr 1;have f2:=HR2.out.fr 2;have f3:=HR2.out.fr 3;have f4:=HR2.out.fr 4;have f5:=HR2.out.fr 5;have f6:=HR2.out.fr 6;have f7:=HR2.out.fr 7;have f8:=HR2.out.fr 8;go_wp2_with fail;have hres:=HR2.out.all [y0,y1,y2,y3,y4,y5,y6,y7,y8] rfl;have hmf:=sets_put HM2.out hgrw 0 [y0,y1,y2,y3,y4,y5,y6,y7,y8];have hpf:=HP2.out.sets (g:=gr) (by omega) 0 [y0,y1,y2,y3,y4,y5,y6,y7,y8];have hrf:=HRP.out.ch (Ch.many (S:=(·=gr)) (.inl rfl) [y0,y1,y2,y3,y4,y5,y6,y7,y8] 0 (Ch.refl _ w2)) (λ g hg _ e=>by have e':g=gr:=e;omega);simp only [sets,Nat.reduceAdd] at hres hmf hpf hrf;refine bodyPost_ret (resNode rfl _ rfl hres) rfl ?_;exact ⟨x,_,rfl,hrf.mono hs1,rfl,HIS.out,hpf,hmf⟩
 ·
  have d1:(X.toList == [115,116,97,116,101])=false:=by rw [HE2.out,ht];rfl
  have d2:(X.toList == [112,97,114,97,108,108,101,108])=false:=by rw [HE2.out,ht];rfl
  have d3:(X.toList == [104,105,115,116,111,114,121])=false:=by rw [HE2.out,ht];rfl
  have hQ:=node_hist (d:=d) hq (by decide)
  have HC:Hid (Calls Tryz.prog 225 #[.pointer (some ⟨b,0,none⟩),.int .i64 4] w1 (StEnd w1 b K V D (nodeR d s))):=by
   rw [hQ];exact shistory_any w1 b K V D _ HP1.out 4 d HDD.out.1 HDD.out.2
  clear ht hq hQ HCL HND;go_wp2_with fail;refine HC.out.mono ?_;rintro e w2 ⟨x,ys,rfl,hrp,hl,his,hp,hm⟩
  have zo:∀u∈ys,u.oneCell'=true:=by obtain ⟨F2,f1,_,_⟩:=hrp;exact f1.ones
  obtain ⟨y0,y1,y2,y3,y4,y5,y6,y7,y8,rfl⟩:=cells9 hl;have st:∀y∈[y0,y1,y2,y3,y4,y5,y6,y7,y8],∀(w:World) (a:Addr),(store a y).run Tryz.prog w=stored Tryz.prog w a y .plain:=λ y hy w a=>run_store _ w a y .plain (zo y hy);have s0:=st y0 (by simp);have s1:=st y1 (by simp);have s2:=st y2 (by simp);have s3:=st y3 (by simp);have s4:=st y4 (by simp);have s5:=st y5 (by simp);have s6:=st y6 (by simp);have s7:=st y7 (by simp);have s8:=st y8 (by simp);have HR2:=h_ (HR1.out.mv hm (by omega));have hgw1:gr<w1.heap.size:=HR1.out.lt;have HRP:=h_ hrp;have HIS:=h_ his;have HP2:=h_ hp;have HM2:=h_ (HM1.out.trans hm);have hs1:w.heap.size<=w1.heap.size:=World.grownBy.size HM1.out;clear st zo hl hrp his hp hm HC HR1 HP1;have q0:=HR2.out.c 0 rfl;have q1:=HR2.out.c 1 rfl;have q2:=HR2.out.c 2 rfl;have q3:=HR2.out.c 3 rfl;have q4:=HR2.out.c 4 rfl;have q5:=HR2.out.c 5 rfl;have q6:=HR2.out.c 6 rfl;have q7:=HR2.out.c 7 rfl;have q8:=HR2.out.c 8 rfl;have f0:=HR2.out.fr 0;have f1:=HR2.out.fr 1;have f2:=HR2.out.fr 2;have f3:=HR2.out.fr 3;have f4:=HR2.out.fr 4;have f5:=HR2.out.fr 5;have f6:=HR2.out.fr 6;have f7:=HR2.out.fr 7;have f8:=HR2.out.fr 8;go_wp2_with fail;have hres:=HR2.out.all [y0,y1,y2,y3,y4,y5,y6,y7,y8] rfl;have hmf:=sets_put HM2.out hgrw 0 [y0,y1,y2,y3,y4,y5,y6,y7,y8];have hpf:=HP2.out.sets (g:=gr) (by omega) 0 [y0,y1,y2,y3,y4,y5,y6,y7,y8];have hrf:=HRP.out.ch (Ch.many (S:=(·=gr)) (.inl rfl) [y0,y1,y2,y3,y4,y5,y6,y7,y8] 0 (Ch.refl _ w2)) (λ g hg _ e=>by have e':g=gr:=e;omega);simp only [sets,Nat.reduceAdd] at hres hmf hpf hrf;refine bodyPost_ret (resNode rfl _ rfl hres) rfl ?_;exact ⟨x,_,rfl,hrf.mono hs1,rfl,HIS.out,hpf,hmf⟩
theorem snode_pl (b:Nat) (K:Kx) (hpl:plT K.xs=true):∀(d:Nat) (D:Int),D=12-(d:Int)->d<=12->NodeC b K D d
 |0,D,hD,h12=>snode_step_pl b K hpl D 0 hD h12 (λ h=>absurd rfl h)
 |d+1,D,hD,h12=>snode_step_pl b K hpl D (d+1) hD h12 (λ _=>snode_pl b K hpl d (D+1) (by omega) (by omega))
theorem schart1_pl (w:World) (b:Nat) (K:Kx) (V:Int) (m:Rs Unit) (gp gc:Nat) (kc nmv dfv pv:Value) (h:PS w b K V 0 m) (hV:∀s,m=.ok () s->V=0) (hgp:CB w gp 176 [.pointer (some ⟨b,0,none⟩)])
  (hcell:CB w gc 29 (.slice none 0 0::ndC kc nmv (.string ⟨#[]⟩) dfv (.slice none 0 0) (.slice none 0 0) (.slice none 0 0) (.slice none 0 0) pv)) (hbp:b<gp) (hbc:b<gc) (hcp:gc≠gp) (hpl:plT K.xs=true) :
  Calls Tryz.prog 111 #[.pointer (some ⟨gp,0,none⟩),.pointer (some ⟨gc,0,none⟩)] w (CkEnd w b K m gc kc nmv dfv pv):=by
 obtain ⟨gu,hgu⟩:∃g,g=w.heap.size:=⟨_,rfl⟩
 obtain ⟨W0,hW0⟩:∃W0,W0=w.alloc (.cells #[.string ⟨#[118,97,114]⟩] 9):=⟨_,rfl⟩
 have hb0:Below w.heap.size w W0:=by rw [hW0];exact (b_ _ w).alloc (n_ _) _
 have hcw:=hcell.lt;have hpw:=hgp.lt
 have HB3:Hid (B3 w b K 0 gc gp gu (ndC kc nmv (.string ⟨#[]⟩) dfv (.slice none 0 0) (.slice none 0 0) (.slice none 0 0) (.slice none 0 0) pv) [] m W0):=by
  refine ⟨⟨V,h.below hb0,λ s e=>⟨hV s e,Nat.zero_le _⟩⟩,⟨.slice none 0 0,[],hcell.below hb0,?_,List.nodup_nil,λ g hg=>(by cases hg)⟩,?_,hgp.below hb0,Ch.of_below hb0⟩
  ·unfold dvVars DvAt;exact ⟨[],[],World.ownsRow_nil _ 0 _ _,rfl,DvsAt.nil _⟩
  ·rw [hW0,hgu];exact CB.new w 9 ([wVar].map txV)
 have HC1:=h_ (no_vars hpl m HB3.out);have yp:=hgp.c 0 rfl
 have hgu':w.heap.size<=gu:=by omega
 clear h hV hgp hcell hb0;go_enter Tryz.func111,Tryz.ntmps111;go_wp2_with fail;rw [<-hW0,<-hgu];clear hW0 hgu;refine HC1.out.mono ?_;rintro e w2 ⟨rfl,l,hl,hb3⟩
 obtain ⟨m1,hm1⟩:∃m1,(m.go (It varS [])).void=m1:=⟨_,rfl⟩
 rw [hm1] at hb3;obtain ⟨V1,hp1,_⟩:=hb3.ps;obtain ⟨v,F,c1,c2,c3,c4⟩:=hb3.row;have yp2:=hb3.gp.c 0 rfl;have HL:=h_ hl;have HM1E:=h_ hm1;have HCH:=h_ hb3.ch;have HV:=h_ (And.intro c2 (And.intro c3 c4));have huw:=hb3.tx.lt;have HC2:=h_ (sbody_pl w2 b K V1 0 11 m1 gc 1 29 [v] kc nmv dfv pv hp1 (by omega) (λ _=>snode_pl b K hpl 11 (0+1) (by decide) (by decide)) c1 rfl hbc hpl);clear hl hb3 hm1 hp1 c1 c2 c3 c4 HC1 yp HB3;go_wp2_with fail;refine HC2.out.mono ?_;rintro e w3 ⟨rfl,z,hz,hp,⟨v1,v2,v3,v4,F1,F2,F3,F4,d1,d2⟩,d3⟩;have HZ:=h_ hz;have HP3:=h_ hp;have HD1:=h_ d1;have HD2:=h_ d2;have HD3:=h_ d3;clear hz hp d1 d2 d3 HC2 yp2;go_wp2_with fail;go_end0;obtain ⟨c2,c3,c4⟩:=HV.out;have hR:=chR_eq HL.out HM1E.out HZ.out;have hv:=c2.ch HD3.out (λ g hg e=>by have:=c4 g hg;rcases e with e|e <;> omega);have hd1:=HD1.out;obtain ⟨A0,k0,rfl,_⟩:=hv.slice;obtain ⟨A1,k1,rfl,_⟩:=HD2.out.a1.slice;obtain ⟨A2,k2,rfl,_⟩:=HD2.out.a2.slice;obtain ⟨A3,k3,rfl,_⟩:=HD2.out.a3.slice;obtain ⟨A4,k4,rfl,_⟩:=HD2.out.a4.slice;refine ⟨rfl,l,z,?_,⟨V1,?_⟩,⟨A0,A1,A2,A3,A4,_,_,_,_,_,k0,k1,k2,k3,k4,hd1,?_⟩,?_⟩
 ·rw [hR];exact go_ok_is _ _
 ·rw [hR,go_ok_void];exact HP3.out
 ·exact rep_five hv c3 (λ g hg=>⟨by have:=c4 g hg;omega,c2.lt g hg⟩) (by omega) HD2.out
 ·exact (HCH.out.mono (S':=λ k=>k=b∨k=gc) (λ k hk e=>by rcases e with e|e|e <;> omega)).trans HD3.out
theorem schart_pl (w:World) (b:Nat) (K:Kx) (m:Rs Unit) (h:PS w b K 0 0 m) (hpl:plT K.xs=true) :
  Calls Tryz.prog 60 #[.pointer (some ⟨b,0,none⟩)] w (ChEnd w b K (m.go chartR)):=by
 obtain ⟨gp,hgp⟩:∃g,g=w.heap.size:=⟨_,rfl⟩
 obtain ⟨gr,hgr⟩:∃g,g=w.heap.size+1:=⟨_,rfl⟩
 obtain ⟨gc,hgc⟩:∃g,g=w.heap.size+1+1:=⟨_,rfl⟩
 obtain ⟨Wa,hWa⟩:∃W,W=w.alloc (.cells #[.pointer (some ⟨b,0,none⟩)] 176):=⟨_,rfl⟩
 obtain ⟨Wb,hWb⟩:∃W,W=Wa.alloc (.cells #[.slice none 0 0,.int .i64 0,.string ⟨#[]⟩,.string ⟨#[]⟩,.string ⟨#[]⟩,.slice none 0 0,.slice none 0 0,.slice none 0 0,.slice none 0 0,.int .i64 0] 29):=⟨_,rfl⟩
 obtain ⟨W0,hW0⟩:∃W,W=Wb.alloc (.cells #[.slice none 0 0,.int .i64 0,.string ⟨#[]⟩,.string ⟨#[]⟩,.string ⟨#[]⟩,.slice none 0 0,.slice none 0 0,.slice none 0 0,.slice none 0 0,.int .i64 0] 29):=⟨_,rfl⟩
 have hsa:Wa.heap.size=w.heap.size+1:=by rw [hWa];simp
 have hsb:Wb.heap.size=w.heap.size+1+1:=by rw [hWb];simp [hsa]
 have HGP:Hid (CB W0 gp 176 [.pointer (some ⟨b,0,none⟩)]):=by rw [hW0,hWb,hWa,hgp];exact ((CB.new w _ [.pointer (some ⟨b,0,none⟩)]).alloc _).alloc _
 have HR:Hid (CB W0 gr 29 [.slice none 0 0,.int .i64 0,.string ⟨#[]⟩,.string ⟨#[]⟩,.string ⟨#[]⟩,.slice none 0 0,.slice none 0 0,.slice none 0 0,.slice none 0 0,.int .i64 0]):=by
  have:=CB.new Wa 29 [.slice none 0 0,.int .i64 0,.string ⟨#[]⟩,.string ⟨#[]⟩,.string ⟨#[]⟩,.slice none 0 0,.slice none 0 0,.slice none 0 0,.slice none 0 0,.int .i64 0];rw [hsa,<-hgr] at this;rw [hW0,hWb];exact this.alloc _
 have HC:Hid (CB W0 gc 29 [.slice none 0 0,.int .i64 0,.string ⟨#[]⟩,.string ⟨#[]⟩,.string ⟨#[]⟩,.slice none 0 0,.slice none 0 0,.slice none 0 0,.slice none 0 0,.int .i64 0]):=by
  have:=CB.new Wb 29 [.slice none 0 0,.int .i64 0,.string ⟨#[]⟩,.string ⟨#[]⟩,.string ⟨#[]⟩,.slice none 0 0,.slice none 0 0,.slice none 0 0,.slice none 0 0,.int .i64 0];rw [hsb,<-hgc] at this;rw [hW0];exact this
 have HB0:Hid (Below w.heap.size w W0):=by rw [hW0,hWb,hWa];exact (((b_ _ w).alloc (n_ _) _).alloc (by simp) _).alloc (by simp;omega) _
 have hbw:=h.blt
 have hord:w.heap.size<=gp/\gp<gr/\gr<gc:=by omega
 have yp:=HGP.out.c 0 rfl;have HC0:=h_ (sneed_any W0 b K 0 0 m (h.below HB0.out) ⟨#[99,104,97,114,116]⟩ 2 (tells_kw (by decide)) (by decide));clear h hsa hsb;go_enter Tryz.func60,Tryz.ntmps60;go_upto_region 2 with fail;rw [<-hWa,<-hWb,<-hW0,<-hgc,<-hgr,<-hgp];clear hWa hWb hW0 hgc hgr hgp;go_wp2_with fail;refine HC0.out.mono ?_;rintro e w1 ⟨rfl,hp,hm⟩
 obtain ⟨m1,hm1⟩:∃m1,m.go (mustR 2 wChart)=m1:=⟨_,rfl⟩
 replace hp:PS w1 b K 0 0 m1:=by rw [<-hm1];exact hp
 have HM1E:=h_ hm1;have HGP1:=h_ (HGP.out.mv hm (by omega));have HR1:=h_ (HR.out.mv hm (by omega));have HC1:=h_ (HC.out.mv hm (by omega));have HM1:=h_ ((Mv.of b HB0.out).trans hm);have HCN:=h_ (snamed_any w1 b K 0 0 m1 hp 1 12 (by decide) (by decide));have yp1:=HGP1.out.c 0 rfl;clear hp hm hm1 HC0 HGP HR HC yp HB0;go_wp2_with fail;refine HCN.out.mono ?_;rintro e w2 ⟨x,p,rfl,his,hp,hm⟩;obtain ⟨X,hX⟩:=str_of x;have HX:=h_ hX;unfold nNode;rw [hX];have HIS:=h_ his
 obtain ⟨m2,hm2⟩:∃m2,(m1.go (namedR 12)).void=m2:=⟨_,rfl⟩
 rw [hm2] at hp;have HM2E:=h_ hm2;have HC2:=h_ (HC1.out.mv hm (by omega))
 obtain ⟨W2,hW2⟩:∃W2,W2=sets w2 gc 1 [.int .i64 1,.string X,.string ⟨#[]⟩,.string ⟨#[]⟩,.slice none 0 0,.slice none 0 0,.slice none 0 0,.slice none 0 0,.int .i64 p]:=⟨_,rfl⟩
 have hm2':Mv gc w2 W2:=by rw [hW2];exact sets_mv _ _ _ _
 have HP2:Hid (PS W2 b K 0 0 m2):=hp.ch (Ch.of_mv hm2') (λ k e=>by have e':k=gc:=e;omega)
 have HN2:Hid (CB W2 gc 29 (.slice none 0 0::ndC (.int .i64 1) (.string X) (.string ⟨#[]⟩) (.string ⟨#[]⟩) (.slice none 0 0) (.slice none 0 0) (.slice none 0 0) (.slice none 0 0) (.int .i64 p))):=by
  rw [hW2];exact CB.many _ 1 HC2.out (by simp)
 have HGP2:=h_ ((HGP1.out.mv hm (by omega)).mv hm2' (by omega));have HR2:=h_ ((HR1.out.mv hm (by omega)).mv hm2' (by omega))
 have HM2:Hid (Mv b w W2):=by rw [hW2];exact sets_put (HM1.out.trans hm) (by omega) _ _
 have e1:=HC2.out.c 1 rfl;have e2:=HC2.out.c 2 rfl;have e3:=HC2.out.c 3 rfl;have e4:=HC2.out.c 4 rfl;have e5:=HC2.out.c 5 rfl;have e6:=HC2.out.c 6 rfl;have e7:=HC2.out.c 7 rfl;have e8:=HC2.out.c 8 rfl;have e9:=HC2.out.c 9 rfl;have f1:=HC2.out.fr 1;have f2:=HC2.out.fr 2;have f3:=HC2.out.fr 3;have f4:=HC2.out.fr 4;have f5:=HC2.out.fr 5;have f6:=HC2.out.fr 6;have f7:=HC2.out.fr 7;have f8:=HC2.out.fr 8;have f9:=HC2.out.fr 9
 obtain ⟨m3,hm3⟩:∃m3,m2.go (mustR 4 [123])=m3:=⟨_,rfl⟩
 have HM3E:=h_ hm3
 obtain ⟨m4,hm4⟩:∃m4,(m3.go chR).void=m4:=⟨_,rfl⟩
 have HM4E:=h_ hm4
 obtain ⟨m5,hm5⟩:∃m5,m4.go (mustR 4 [125])=m5:=⟨_,rfl⟩
 have HM5E:=h_ hm5
 have HC3:Hid (Calls Tryz.prog 110 #[.pointer (some ⟨b,0,none⟩),.func (.func 111) #[] #[.pointer (some ⟨gp,0,none⟩),.pointer (some ⟨gc,0,none⟩)]] W2 λ e w'=>e=.returned (.tuple #[])/\∃(l:List SyVar) (z:SyB×List SyNode),(m3.go chR).is (l,z)/\(∃V,PS w' b K V 0 m5) /\
   (∃(A0 A1 A2 A3 A4:Option Addr) (n0 n1 n2 n3 n4 k0 k1 k2 k3 k4:Nat),CB w' gc 29 (.slice A0 n0 k0::ndC (.int .i64 1) (.string X) (txV z.1.initial) (.string ⟨#[]⟩) (.slice A1 n1 k1) (.slice A2 n2 k2) (.slice A3 n3 k3) (.slice A4 n4 k4) (.int .i64 p)) /\
    Rep w' W2.heap.size [dvVars l,dvActs true z.1.enter,dvActs true z.1.leave,dvMoves true z.1.moves,dvKids true z.2] [.slice A0 n0 k0,.slice A1 n1 k1,.slice A2 n2 k2,.slice A3 n3 k3,.slice A4 n4 k4])/\Ch (λ k=>k=b∨k=gc) W2 w'):=by
  refine senclosed_any W2 b _ _ (λ _ _=>by kernel_rfl) (λ W=>PS W b K 0 0 m3/\Mv b W2 W) (λ W=>∃(l:List SyVar) (z:SyB×List SyNode),(m3.go chR).is (l,z)/\(∃V,PS W b K V 0 m4) /\
   (∃(A0 A1 A2 A3 A4:Option Addr) (n0 n1 n2 n3 n4 k0 k1 k2 k3 k4:Nat),CB W gc 29 (.slice A0 n0 k0::ndC (.int .i64 1) (.string X) (txV z.1.initial) (.string ⟨#[]⟩) (.slice A1 n1 k1) (.slice A2 n2 k2) (.slice A3 n3 k3) (.slice A4 n4 k4) (.int .i64 p)) /\
    Rep W W2.heap.size [dvVars l,dvActs true z.1.enter,dvActs true z.1.leave,dvMoves true z.1.moves,dvKids true z.2] [.slice A0 n0 k0,.slice A1 n1 k1,.slice A2 n2 k2,.slice A3 n3 k3,.slice A4 n4 k4])/\Ch (λ k=>k=b∨k=gc) W2 W) _ ?_ ?_ ?_
  ·have:=sneed_any W2 b K 0 0 m2 HP2.out ⟨#[123]⟩ 4 (tells_sg (by decide)) (by decide);rw [<-HM3E.out];exact this
  ·rintro W ⟨hp,hm⟩;have hs:=World.grownBy.size hm;refine (schart1_pl W b K 0 m3 gp gc _ _ _ _ hp (λ _ _=>rfl) (HGP2.out.mv hm (by omega)) (HN2.out.mv hm (by omega)) (by omega) (by omega) (by omega) hpl).mono ?_;rintro e w' ⟨rfl,l,z,c1,⟨V,c2⟩,⟨A0,A1,A2,A3,A4,n0,n1,n2,n3,n4,k0,k1,k2,k3,k4,c3,c4⟩,c5⟩;rw [HM4E.out] at c2;exact ⟨rfl,l,z,c1,⟨V,c2⟩,⟨A0,A1,A2,A3,A4,n0,n1,n2,n3,n4,k0,k1,k2,k3,k4,c3,c4.mono hs⟩,((Ch.of_mv hm).mono (λ _ _ h=>.inl h)).trans c5⟩
  ·rintro W ⟨l,z,c1,⟨V,c2⟩,⟨A0,A1,A2,A3,A4,n0,n1,n2,n3,n4,k0,k1,k2,k3,k4,c3,c4⟩,c5⟩;refine (sneed_any W b K V 0 m4 c2 ⟨#[125]⟩ 4 (tells_sg (by decide)) (by decide)).mono ?_;rintro e w' ⟨rfl,hp,hm⟩
   replace hp:PS w' b K V 0 m5:=by rw [<-HM5E.out];exact hp
   have hbW:=HP2.out.blt;exact ⟨rfl,l,z,c1,⟨V,hp⟩,⟨A0,A1,A2,A3,A4,n0,n1,n2,n3,n4,k0,k1,k2,k3,k4,c3.mv hm (by omega),c4.mv hm hbW⟩,c5.trans ((Ch.of_mv hm).mono (λ _ _ h=>.inl h))⟩
 have yp2:=HGP2.out.c 0 rfl;have HW2:=h_ hW2;clear hp hm hX his hm2 hm3 hm4 hm5 HCN hm2' HR1 HC1 HM1 hW2;go_upto_region 4 with fail;have hW2:=HW2.out;simp only [sets,Nat.reduceAdd] at hW2;rw [<-hW2];clear hW2 HW2 e1 e2 e3 e4 e5 e6 e7 e8 e9 f1 f2 f3 f4 f5 f6 f7 f8 f9 HC2 yp1 HGP1;go_wp2_with fail;refine HC3.out.mono ?_;rintro e w5 ⟨rfl,l,z,c1,⟨V,c2⟩,⟨A0,A1,A2,A3,A4,n0,n1,n2,n3,n4,k0,k1,k2,k3,k4,c3,c4⟩,c5⟩;obtain ⟨Y,hY⟩:=str_of z.1.initial;rw [hY] at c3;have HY:=h_ hY;have HZ:=h_ c1;have HN5:=h_ c3;have HRP:=h_ c4;have HGP5:=h_ (HGP2.out.ch c5 (by omega));have HR5:=h_ (HR2.out.ch c5 (by omega));have HMV5:Hid (Mv b w w5):=((Ch.of_mv HM2.out).trans2 c5 (S1:=λ k=>k=b∨k=gc) (λ j hj hh=>hh.elim id (λ e=>by omega))).mv (λ k _ h=>h);have HP5:=h_ c2;have HCW:=h_ (snow_any w5 b K V 0 m5 c2);have yp5:=HGP5.out.c 0 rfl;have hszW2:w.heap.size<=W2.heap.size:=World.grownBy.size HM2.out;have hgcW2:gc<W2.heap.size:=HN2.out.lt;have HQ:=h_ (λ m=>chart_eq (m:=m) (p:=p) (x:=x) (l:=l) (z:=z) (m1:=m1) (m2:=m2) (m3:=m3) (m4:=m4) (m5:=m5));clear c1 c2 c3 c4 c5 hY HC3 HGP2 HR2 HM2 HN2 HP2 yp2;go_wp2_with fail;refine HCW.out.mono ?_;rintro e w6 ⟨t,rfl,htok,hb6⟩;obtain ⟨tX,htX⟩:=str_of t.text;unfold tkV;rw [htX]
 have hfl:∀w,(Instr.field 131 (.agg #[.int .i64 t.kind,.string tX,.int .i64 t.num,.int .i64 t.at_]) 0).run Tryz.prog w=.ok (.int .i64 t.kind) w:=λ w=>by kernel_rfl
 have HN6:=h_ (HN5.out.below hb6);have HGP6:=h_ (HGP5.out.below hb6);have HR6:=h_ (HR5.out.below hb6);have HMV6:=h_ (HMV5.out.trans (Mv.of b hb6));have HP6:=h_ (HP5.out.below hb6);have HRP6:=h_ (HRP.out.below hb6);have HTOK:=h_ htok;have HEQ:=h_ (HQ.out m HM1E.out HIS.out HM2E.out HM3E.out HZ.out HM4E.out HM5E.out);clear htok hb6 htX HCW HN5 HGP5 HR5 HMV5 HP5 HRP yp5 HQ HM1E HIS HM2E HM3E HZ HM4E HM5E
 obtain ⟨dd,hdd⟩:∃dd,(t.kind != 5)=dd:=⟨_,rfl⟩
 have HDD:=h_ hdd;clear hdd
 cases dd with
 |true =>
  have hk:t.kind≠5:=by have:=HDD.out;simpa using this
  have hne:(t.kind != 5)=true:=HDD.out;have yp6:=HGP6.out.c 0 rfl;have HCU:=h_ (sunfit_any w6 b K V 0 m5 HP6.out);have HKK:=h_ hk;clear hk;go_wp2_with fail;refine HCU.out.mono ?_;rintro e w7 ⟨rfl,hp,hm⟩;have HN7:=h_ (HN6.out.mv hm (by omega));have HR7:=h_ (HR6.out.mv hm (by omega));have HMV7:=h_ (HMV6.out.trans hm);have HRP7:=h_ (HRP6.out.mv hm (by omega));have HP7:=h_ hp;clear hp hm HCU yp6 HN6 HR6 HMV6 HRP6 HP6 hfl hne;have n0x:=HN7.out.c 0 rfl;have n1x:=HN7.out.c 1 rfl;have n2x:=HN7.out.c 2 rfl;have n3x:=HN7.out.c 3 rfl;have n4x:=HN7.out.c 4 rfl;have n5x:=HN7.out.c 5 rfl;have n6x:=HN7.out.c 6 rfl;have n7x:=HN7.out.c 7 rfl;have n8x:=HN7.out.c 8 rfl;have n9x:=HN7.out.c 9 rfl;have q0:=HR7.out.c 0 rfl;have q1:=HR7.out.c 1 rfl;have q2:=HR7.out.c 2 rfl;have q3:=HR7.out.c 3 rfl;have q4:=HR7.out.c 4 rfl;have q5:=HR7.out.c 5 rfl;have q6:=HR7.out.c 6 rfl;have q7:=HR7.out.c 7 rfl;have q8:=HR7.out.c 8 rfl;have q9:=HR7.out.c 9 rfl;have f0:=HR7.out.fr 0;have f1:=HR7.out.fr 1;have f2:=HR7.out.fr 2;have f3:=HR7.out.fr 3;have f4:=HR7.out.fr 4;have f5:=HR7.out.fr 5;have f6:=HR7.out.fr 6;have f7:=HR7.out.fr 7;have f8:=HR7.out.fr 8;have f9:=HR7.out.fr 9;go_wp2_with fail
  have hgrw:w.heap.size<=gr:=by omega
  have hres:=HR7.out.all [.slice A0 n0 k0,.int .i64 1,.string X,.string Y,.string ⟨#[]⟩,.slice A1 n1 k1,.slice A2 n2 k2,.slice A3 n3 k3,.slice A4 n4 k4,.int .i64 p] rfl;have hmf:=sets_put HMV7.out hgrw 0 [.slice A0 n0 k0,.int .i64 1,.string X,.string Y,.string ⟨#[]⟩,.slice A1 n1 k1,.slice A2 n2 k2,.slice A3 n3 k3,.slice A4 n4 k4,.int .i64 p];have hpf:=HP7.out.sets (g:=gr) (by omega) 0 [.slice A0 n0 k0,.int .i64 1,.string X,.string Y,.string ⟨#[]⟩,.slice A1 n1 k1,.slice A2 n2 k2,.slice A3 n3 k3,.slice A4 n4 k4,.int .i64 p];have hrf:=HRP7.out.ch (Ch.many (S:=(·=gr)) (.inl rfl) [.slice A0 n0 k0,.int .i64 1,.string X,.string Y,.string ⟨#[]⟩,.slice A1 n1 k1,.slice A2 n2 k2,.slice A3 n3 k3,.slice A4 n4 k4,.int .i64 p] 0 (Ch.refl _ w7)) (λ g hg _ e=>by have e':g=gr:=e;omega);simp only [sets,Nat.reduceAdd] at hres hmf hpf hrf;refine bodyPost_ret (resChart rfl _ rfl hres) rfl ?_;refine ⟨⟨l,nodeOf 1 (x,p) z⟩,_,rfl,rep_chart (hrf.mono hszW2) HX.out HY.out,rfl,?_,⟨V,?_⟩,hmf⟩
  ·rw [HEQ.out,end_no HTOK.out HKK.out];intro y s e
   cases m5 with
   |out=>cases e
   |bad c p=>cases e
   |ok u s5=>exact absurd e wrong_ne
  ·rw [HEQ.out,end_no HTOK.out HKK.out,wrong_govoid];exact hpf
 |false =>
  have hk:t.kind=5:=by have:=HDD.out;simpa using this
  have hne:(t.kind != 5)=false:=HDD.out;have HKK:=h_ hk;clear hk;have n0x:=HN6.out.c 0 rfl;have n1x:=HN6.out.c 1 rfl;have n2x:=HN6.out.c 2 rfl;have n3x:=HN6.out.c 3 rfl;have n4x:=HN6.out.c 4 rfl;have n5x:=HN6.out.c 5 rfl;have n6x:=HN6.out.c 6 rfl;have n7x:=HN6.out.c 7 rfl;have n8x:=HN6.out.c 8 rfl;have n9x:=HN6.out.c 9 rfl;have q0:=HR6.out.c 0 rfl;have q1:=HR6.out.c 1 rfl;have q2:=HR6.out.c 2 rfl;have q3:=HR6.out.c 3 rfl;have q4:=HR6.out.c 4 rfl;have q5:=HR6.out.c 5 rfl;have q6:=HR6.out.c 6 rfl;have q7:=HR6.out.c 7 rfl;have q8:=HR6.out.c 8 rfl;have q9:=HR6.out.c 9 rfl;have f0:=HR6.out.fr 0;have f1:=HR6.out.fr 1;have f2:=HR6.out.fr 2;have f3:=HR6.out.fr 3;have f4:=HR6.out.fr 4;have f5:=HR6.out.fr 5;have f6:=HR6.out.fr 6;have f7:=HR6.out.fr 7;have f8:=HR6.out.fr 8;have f9:=HR6.out.fr 9;go_wp2_with fail
  have hgrw:w.heap.size<=gr:=by omega
  have hres:=HR6.out.all [.slice A0 n0 k0,.int .i64 1,.string X,.string Y,.string ⟨#[]⟩,.slice A1 n1 k1,.slice A2 n2 k2,.slice A3 n3 k3,.slice A4 n4 k4,.int .i64 p] rfl;have hmf:=sets_put HMV6.out hgrw 0 [.slice A0 n0 k0,.int .i64 1,.string X,.string Y,.string ⟨#[]⟩,.slice A1 n1 k1,.slice A2 n2 k2,.slice A3 n3 k3,.slice A4 n4 k4,.int .i64 p];have hpf:=HP6.out.sets (g:=gr) (by omega) 0 [.slice A0 n0 k0,.int .i64 1,.string X,.string Y,.string ⟨#[]⟩,.slice A1 n1 k1,.slice A2 n2 k2,.slice A3 n3 k3,.slice A4 n4 k4,.int .i64 p];have hrf:=HRP6.out.ch (Ch.many (S:=(·=gr)) (.inl rfl) [.slice A0 n0 k0,.int .i64 1,.string X,.string Y,.string ⟨#[]⟩,.slice A1 n1 k1,.slice A2 n2 k2,.slice A3 n3 k3,.slice A4 n4 k4,.int .i64 p] 0 (Ch.refl _ w6)) (λ g hg _ e=>by have e':g=gr:=e;omega);simp only [sets,Nat.reduceAdd] at hres hmf hpf hrf;refine bodyPost_ret (resChart rfl _ rfl hres) rfl ?_;refine ⟨⟨l,nodeOf 1 (x,p) z⟩,_,rfl,rep_chart (hrf.mono hszW2) HX.out HY.out,rfl,?_,⟨V,?_⟩,hmf⟩
  ·rw [HEQ.out,end_ok HTOK.out HKK.out];exact go_ok_is _ _
  ·rw [HEQ.out,end_ok HTOK.out HKK.out,go_ok_void];exact hpf
theorem sparse_pl (w:World) (s:ByteArray) (hVr:Vars w) (hV:Vs w) (hpl:plT (scF s.data.toList).1=true) {c0:SyChart} {s0:Ss} (hok:syF s.data.toList=.ok c0 s0) :
  Calls Tryz.prog 33 #[.string s] w (SpEnd w (syF s.data.toList)):=by
 obtain ⟨g1,hg1⟩:∃g,g=w.heap.size:=⟨_,rfl⟩
 obtain ⟨g2,hg2⟩:∃g,g=w.heap.size+1:=⟨_,rfl⟩
 obtain ⟨Wa,hWa⟩:∃W,W=w.alloc (.cells #[.slice none 0 0,.int .i64 0,.string ⟨#[]⟩,.string ⟨#[]⟩,.string ⟨#[]⟩,.slice none 0 0,.slice none 0 0,.slice none 0 0,.slice none 0 0,.int .i64 0] 29):=⟨_,rfl⟩
 obtain ⟨W0,hW0⟩:∃W,W=Wa.alloc (.cells #[.int .i64 0,.int .i64 0] 34):=⟨_,rfl⟩
 have hsa:Wa.heap.size=w.heap.size+1:=by rw [hWa];simp
 have HX:Hid (CB W0 g1 29 zChart):=by rw [hW0,hWa,hg1];exact (CB.new w _ zChart).alloc _
 have HF:Hid (CB W0 g2 34 [.int .i64 0,.int .i64 0]):=by
  have:=CB.new Wa 34 [.int .i64 0,.int .i64 0];rw [hsa,<-hg2] at this;rw [hW0];exact this
 have HB0:Hid (Below w.heap.size w W0):=by rw [hW0,hWa];exact ((b_ _ w).alloc (n_ _) _).alloc (by simp) _
 have hord:w.heap.size<=g1/\g1<g2:=by omega
 obtain ⟨S,hS⟩:∃S,scF s.data.toList=S:=⟨_,rfl⟩
 have HT:=h_ (tokens_vars W0 s (hVr.below HB0.out) S hS);have hlen:=scF_len s.data.toList;have HLX:=h_ (scF_lex s.data.toList).1;have HLT:=h_ (scF_lexT s.data.toList);have HEN:=h_ (@scF_ends s.data.toList);have HVV:=h_ (λ (W:World) (hb:Below w.heap.size w W)=>hV.below hb)
 have hkw:0<w.heap.size/\1<w.heap.size:=⟨hV.kw.lt,hV.sg.lt⟩
 have HRR:Hid (syF s.data.toList=if S.2.1=0 then syR S.1 else .bad S.2.1 S.2.2):=by show _=_;unfold syF;rw [hS]
 obtain ⟨R,hR⟩:∃R,syF s.data.toList=R:=⟨_,rfl⟩
 rw [hR] at HRR hok ⊢;rw [hS] at hlen HLX HLT HEN hpl;have HOK:=h_ hok;clear hok;obtain ⟨xs,sc,sp⟩:=S;simp only at HT hlen HLX HLT HEN HRR hpl;have HPL:=h_ hpl;clear hpl
 obtain ⟨n,hn⟩:∃n,xs.length=n:=⟨_,rfl⟩
 have HLN:=h_ hn;rw [hn] at hlen HT;clear hVr hV hS hR hn hsa;go_enter Tryz.func33,Tryz.ntmps33;go_upto_region 1 with fail;rw [<-hWa,<-hW0,<-hg2,<-hg1];clear hWa hW0 hg1 hg2;go_wp2_with fail;refine HT.out.mono ?_;rintro e w1 ⟨A,c,rfl,hA0,hnc,hcm,htr,hb⟩
 obtain ⟨g5,hg5⟩:∃g,g=w1.heap.size:=⟨_,rfl⟩
 obtain ⟨W1,hW1⟩:∃W1,W1=w1.alloc (.cells #[.int .i64 sc,.int .i64 sp] 34):=⟨_,rfl⟩
 have hb1:Below w1.heap.size w1 W1:=by rw [hW1];exact (b_ _ w1).alloc (n_ _) _
 have HG1:Hid (FtB W1 g5 (.int .i64 sc) (.int .i64 sp)):=by rw [hW1,hg5];exact FtB.new _ _ _
 have HX1:=h_ ((HX.out.below hb).below hb1);have HF1:=h_ ((HF.out.below hb).below hb1);have HB1:=h_ ((HB0.out.trans (hb.mono HB0.out.size)).trans (hb1.mono (by have:=HB0.out.size;have:=hb.size;omega)));have HTK1:Hid (TkAt W1 A n xs):=(htr.reads).at.below hb1;have hs1:=hb.size;have hs1':=hb1.size
 have hg25:g2<g5:=by have:=HF.out.lt;omega
 have HTKL:Hid (∀g o,A=some ⟨g,o,none⟩->0<n->g<g5):=λ g o e hn0=>by
  obtain ⟨t,ht⟩:=((htr.reads).at:TkAt w1 A n xs).get hn0;obtain ⟨g',o',e',x0,_⟩:=((htr.reads).at:TkAt w1 A n xs).2 0 t ht;rw [e] at e';injection e' with e';injection e' with e1 _;rw [e1,hg5];exact World.block_lt_of_cell? w1 _ x0
 have y0:=HG1.out.c0;have y1:=HG1.out.c1;have a0:=HX1.out.c 0 rfl;have a1:=HX1.out.c 1 rfl;have a2:=HX1.out.c 2 rfl;have a3:=HX1.out.c 3 rfl;have a4:=HX1.out.c 4 rfl;have a5:=HX1.out.c 5 rfl;have a6:=HX1.out.c 6 rfl;have a7:=HX1.out.c 7 rfl;have a8:=HX1.out.c 8 rfl;have a9:=HX1.out.c 9 rfl;have f0:=HX1.out.fr 0;have f1:=HX1.out.fr 1;have f2:=HX1.out.fr 2;have f3:=HX1.out.fr 3;have f4:=HX1.out.fr 4;have f5:=HX1.out.fr 5;have f6:=HX1.out.fr 6;have f7:=HX1.out.fr 7;have f8:=HX1.out.fr 8;have f9:=HX1.out.fr 9;have k0:=HF1.out.c 0 rfl;have k1:=HF1.out.c 1 rfl;have j0:=HF1.out.fr 0;have j1:=HF1.out.fr 1;clear hb hb1 HT HX HF HB0 htr hA0 hcm;go_upto_region 2 with fail;rw [<-hW1,<-hg5];clear hW1 hg5
 by_cases h0:sc=0
 ·subst h0;have HE:=h_ (HEN.out rfl)
  have HRS:Hid (R=syR xs):=by show _=_;rw [HRR.out,if_pos rfl]
  obtain ⟨b,hb6⟩:∃g,g=W1.heap.size:=⟨_,rfl⟩
  obtain ⟨W2,hW2⟩:∃W2,W2=W1.alloc (.cells #[.slice A n c,.int .i64 0,.int .i64 0,.int .i64 0,.int .i64 0,.int .i64 0,.int .i64 0,.int .i64 0,.int .i64 0] 122):=⟨_,rfl⟩
  have hb2:Below W1.heap.size W1 W2:=by rw [hW2];exact (b_ _ W1).alloc (n_ _) _
  have hsw:=HB1.out.size
  have hg5b:g5<b:=by have:=HG1.out.lt;omega
  have HP2:Hid (PS W2 b ⟨A,n,c,xs⟩ 0 0 (.ok () ⟨xs,0,0,0⟩)):=by
   refine PS.start (by rw [hW2,hb6];exact CB.new W1 _ [.slice A n c,.int .i64 0,.int .i64 0,.int .i64 0,.int .i64 0,.int .i64 0,.int .i64 0,.int .i64 0,.int .i64 0]) (HTK1.out.below hb2) (λ g o e=>?_) ((HVV.out W1 HB1.out).below hb2) (by omega) (by omega) HE.out HLX.out HLT.out;have:=HTKL.out g o e (by rw [<-HLN.out];exact (ends_at HE.out).2);omega
  have HC:=h_ (schart_pl W2 b ⟨A,n,c,xs⟩ _ HP2.out HPL.out);have HX2:=h_ (HX1.out.below hb2);have HF2:=h_ (HF1.out.below hb2);have HB2:=h_ (HB1.out.trans (hb2.mono HB1.out.size));clear hb2 HRR HEN HP2 HTKL;go_upto_region 5 with fail;rw [<-hW2,<-hb6];clear hW2 hb6 a0 a1 a2 a3 a4 a5 a6 a7 a8 a9 f0 f1 f2 f3 f4 f5 f6 f7 f8 f9 k0 k1 j0 j1 y0 y1 HX1 HF1 HB1 HTK1 HG1;go_wp2_with fail;refine HC.out.mono ?_;rintro e w3 ⟨cc,ys,rfl,hrp,hl,his,⟨V,hp⟩,hm⟩;rw [syR_start,<-HRS.out] at his hp
  have zo:∀u∈ys,u.oneCell'=true:=by obtain ⟨F2,f1,_,_⟩:=hrp;exact f1.ones
  obtain ⟨z0,z1,z2,z3,z4,z5,z6,z7,z8,z9,rfl⟩:=cells10 hl
  obtain ⟨g7,hg7⟩:∃g,g=w3.heap.size:=⟨_,rfl⟩
  obtain ⟨W4,hW4⟩:∃W4,W4=w3.alloc (.cells #[z0,z1,z2,z3,z4,z5,z6,z7,z8,z9] 29):=⟨_,rfl⟩
  have hb4:Below w3.heap.size w3 W4:=by rw [hW4];exact (b_ _ w3).alloc (n_ _) _
  have HN4:Hid (CB W4 g7 29 [z0,z1,z2,z3,z4,z5,z6,z7,z8,z9]):=by rw [hW4,hg7];exact CB.new w3 _ [z0,z1,z2,z3,z4,z5,z6,z7,z8,z9]
  have HX4:=h_ ((HX2.out.mv hm (by omega)).below hb4);have HF4:=h_ ((HF2.out.mv hm (by omega)).below hb4);have HP4:=h_ (hp.below hb4);have hs2:=HB2.out.size;have hs3:=World.grownBy.size hm;have HB4:Hid (Below w.heap.size w W4):=(((Ch.of_below HB2.out (S:=λ k=>k=b)).trans (Ch.of_mv hm)).trans (Ch.of_below hb4)).below (λ k hk e=>by omega);have HRP:=h_ (hrp.below hb4);have HIS:=h_ his
  have hg7b:b<g7:=by rw [hg7];exact hp.blt
  have hsW2:g2<W2.heap.size:=HF2.out.lt;have HCF:=h_ (sfailed_any W4 b _ V 0 _ HP4.out);have hnew:∀v∈[z0,z1,z2,z3,z4,z5,z6,z7,z8,z9],v.oneCell'=true:=zo;have st:∀y∈[z0,z1,z2,z3,z4,z5,z6,z7,z8,z9],∀(w:World) (a:Addr),(store a y).run Tryz.prog w=stored Tryz.prog w a y .plain:=λ y hy w a=>run_store _ w a y .plain (zo y hy);have s0:=st z0 (by simp);have s1:=st z1 (by simp);have s2:=st z2 (by simp);have s3:=st z3 (by simp);have s4:=st z4 (by simp);have s5:=st z5 (by simp);have s6:=st z6 (by simp);have s7:=st z7 (by simp);have s8:=st z8 (by simp);have s9:=st z9 (by simp);clear hrp hl his hp hm hb4 HC HX2 HF2 HB2 st zo hnew;go_upto_region 6 with fail;rw [<-hW4,<-hg7];clear hW4 hg7;have a0:=HX4.out.c 0 rfl;have a1:=HX4.out.c 1 rfl;have a2:=HX4.out.c 2 rfl;have a3:=HX4.out.c 3 rfl;have a4:=HX4.out.c 4 rfl;have a5:=HX4.out.c 5 rfl;have a6:=HX4.out.c 6 rfl;have a7:=HX4.out.c 7 rfl;have a8:=HX4.out.c 8 rfl;have a9:=HX4.out.c 9 rfl;have f0:=HX4.out.fr 0;have f1:=HX4.out.fr 1;have f2:=HX4.out.fr 2;have f3:=HX4.out.fr 3;have f4:=HX4.out.fr 4;have f5:=HX4.out.fr 5;have f6:=HX4.out.fr 6;have f7:=HX4.out.fr 7;have f8:=HX4.out.fr 8;have f9:=HX4.out.fr 9;have k0:=HF4.out.c 0 rfl;have k1:=HF4.out.c 1 rfl;have j0:=HF4.out.fr 0;have j1:=HF4.out.fr 1
  cases R with
  |out=>exact absurd rfl HP4.out.notOut
  |bad cc pp=>exact absurd HOK.out (by intro e;cases e)
  |ok c s9 =>
   have p0:=HN4.out.c 0 rfl;have p1:=HN4.out.c 1 rfl;have p2:=HN4.out.c 2 rfl;have p3:=HN4.out.c 3 rfl;have p4:=HN4.out.c 4 rfl;have p5:=HN4.out.c 5 rfl;have p6:=HN4.out.c 6 rfl;have p7:=HN4.out.c 7 rfl;have p8:=HN4.out.c 8 rfl;have p9:=HN4.out.c 9 rfl;obtain rfl:=HIS.out c s9 rfl;go_wp2_with fail;refine HCF.out.mono ?_;rintro e w5 ⟨rfl,rfl⟩;have hw:(Rs.ok c s9:Rs SyChart).void.wrong?=false:=rfl;rw [hw];clear HCF hw;go_wp2_with fail
   have hle:w.heap.size<=W2.heap.size:=by omega
   obtain ⟨W9,hW9⟩:∃W,W=sets (sets W4 g1 0 [z0,z1,z2,z3,z4,z5,z6,z7,z8,z9]) g2 0 [.int .i64 0,.int .i64 0]:=⟨_,rfl⟩
   have hS1:CB W9 g1 29 [z0,z1,z2,z3,z4,z5,z6,z7,z8,z9]:=by rw [hW9];exact (HX4.out.all [z0,z1,z2,z3,z4,z5,z6,z7,z8,z9] rfl).mv (sets_mv _ g2 0 _) (by omega)
   have hS2:FtB W9 g2 (.int .i64 0) (.int .i64 0):=by rw [hW9];exact (HF4.out.mv (sets_mv _ g1 0 _) (by omega)).all [.int .i64 0,.int .i64 0] rfl
   have hP9:Below w.heap.size w W9:=by rw [hW9];exact sets_below (sets_below HB4.out (by omega) 0 _) (by omega) 0 _
   have hC9:Ch (λ k=>k=g1∨k=g2) W4 W9:=by rw [hW9];exact Ch.many (.inl (.inr rfl)) _ 0 (Ch.many (.inl (.inl rfl)) _ 0 (Ch.refl _ _))
   simp only [sets,Nat.reduceAdd] at hW9;rw [<-hW9];clear hW9;refine bodyPost_ret (resCF (w:=W9) rfl _ rfl rfl hS1 hS2) rfl ?_;exact ⟨_,rfl,(HRP.out.ch hC9 (λ g hg _ e=>by rcases e with e|e <;> omega)).mono hle,rfl,hP9,λ c p e=>by cases e⟩
 ·exact absurd HOK.out (by rw [HRR.out,if_neg h0];intro e;cases e)
theorem lsound_pl (w:World) (s:ByteArray) (hE:Ee w) {c:SyChart} {r:Ss} (hR:syF s.data.toList=.ok c r) (hpl:plT (scF s.data.toList).1=true) (hv:c.vars=[]) (hn:plN c.root=true) (a p:Int) (hck:ckR c.g=(a,p)) :
  Calls Tryz.prog 14 #[.string s] w λ e w'=>∃y0 y1 y2 y3 y4 y5 y6 y7 y8 y9,e=.returned (.tuple #[.agg #[y0,y1,y2,y3,y4,y5,y6,y7,y8,y9],.agg #[.int .i64 a,.int .i64 p]])/\(∀u∈[y0,y1,y2,y3,y4,y5,y6,y7,y8,y9],u.oneCell'=true)/\(a=0->DxsAt w' (gChart c.g) [y0,y1,y2,y3,y4,y5,y6,y7,y8,y9])/\Below w.heap.size w w':=by
 have hgr:=pl_rng hv hn;have hgl:=(plN_rng _ hn).2;obtain ⟨W0,g1,g2,hW0,hg1,hg2,HX,HF,HB0⟩:=pair_chart w (.slice none 0 0) (.int .i64 0) (.string ⟨#[]⟩) (.string ⟨#[]⟩) (.string ⟨#[]⟩) (.slice none 0 0) (.slice none 0 0) (.slice none 0 0) (.slice none 0 0) (.int .i64 0) 0 0
 have HC:Hid (Calls Tryz.prog 33 #[.string s] W0 λ e w'=>∃y0 y1 y2 y3 y4 y5 y6 y7 y8 y9,e=.returned (.tuple #[.agg #[y0,y1,y2,y3,y4,y5,y6,y7,y8,y9],.agg #[.int .i64 0,.int .i64 0]])/\(∀u∈[y0,y1,y2,y3,y4,y5,y6,y7,y8,y9],u.oneCell'=true)/\(∀(S:Nat->Prop) (W:World),Ch S w' W->(∀k,S k->k<W0.heap.size∨w'.heap.size<=k)->DxsAt W (gChart c.g) [y0,y1,y2,y3,y4,y5,y6,y7,y8,y9])/\Below W0.heap.size W0 w'):=by
  refine (sparse_pl W0 s (hE.below HB0.out).vr (hE.below HB0.out).vs hpl hR).mono ?_;rw [hR];rintro e w' ⟨ys,rfl,⟨F,hr,_,hF⟩,hl,hb,_⟩;have zo:=hr.ones;obtain ⟨y0,y1,y2,y3,y4,y5,y6,y7,y8,y9,rfl⟩:=cells10 hl;refine ⟨y0,y1,y2,y3,y4,y5,y6,y7,y8,y9,rfl,zo,λ S W hc hs=>chart_dx (hr.ch hc (λ g hg e=>?_)),hb⟩;have h1:=hF g hg;have h2:=hr.lt g hg
  rcases hs g e with h|h <;> omega
 have HK:=h_ (λ (W:World) (hb:Below w.heap.size w W) (xs:List Value) (hx:DxsAt W (gChart c.g) xs)=>lcheck_any W c.g xs (hE.below hb) hx hgr hgl);rw [hck] at HK
 have HG:Hid (w.heap.size<=g1/\w.heap.size<=g2/\g1<g2):=by show _/\_;omega
 clear hE hR hgr hgl hck hpl hv hn;go_enter Tryz.func14,Tryz.ntmps14;go_upto_region 1 with fail;rw [<-hW0,<-hg2,<-hg1];clear hW0 hg1 hg2;go_wp2_with fail;refine HC.out.mono ?_;rintro e w1 ⟨y0,y1,y2,y3,y4,y5,y6,y7,y8,y9,rfl,zo,hr,hb⟩;obtain ⟨W2,g4,g5,hW,hg4,hg5,HC2,HF2,HB⟩:=pair_chart w1 y0 y1 y2 y3 y4 y5 y6 y7 y8 y9 0 0;have st:∀u∈[y0,y1,y2,y3,y4,y5,y6,y7,y8,y9],∀(w:World) (a:Addr),(store a u).run Tryz.prog w=stored Tryz.prog w a u .plain:=λ u hu w a=>run_store _ w a u .plain (zo u hu);have s0:=st y0 (by simp);have s1:=st y1 (by simp);have s2:=st y2 (by simp);have s3:=st y3 (by simp);have s4:=st y4 (by simp);have s5:=st y5 (by simp);have s6:=st y6 (by simp);have s7:=st y7 (by simp);have s8:=st y8 (by simp);have s9:=st y9 (by simp);have HB2:Hid (Below w.heap.size w W2):=HB0.out.trans ((hb.trans (HB.out.mono hb.size)).mono HB0.out.size);have HP:=h_ (HK.out W2 HB2.out _ (hr _ W2 (Ch.of_below (S:=λ _=>False) HB.out) (λ _ e=>e.elim)));have HR1:=h_ hr;have HW12:=h_ (Ch.of_below (S:=λ _=>False) HB.out);have HS01:=h_ (And.intro HF.out.lt (And.intro hb.size HB0.out.size))
 have HG45:Hid (w1.heap.size<=g4/\w1.heap.size<=g5):=by show _/\_;omega
 have HG01:Hid (g1<W0.heap.size/\g2<W0.heap.size):=by have h1:=HF.out.lt;have h2:=HG.out;show _/\_;omega
 have HX2:=h_ ((HX.out.below hb).below HB.out);have HY2:=h_ ((HF.out.below hb).below HB.out)
 have HG2:Hid (g2<g4/\g4<g5):=by have h1:=HF.out.lt;have h2:=hb.size;show _/\_;omega
 have HZO:=h_ zo;clear st zo hb HB hr HC HK HX HF HB0;go_upto_region 2 with fail;rw [<-hW,<-hg5,<-hg4];clear hW hg4 hg5 s0 s1 s2 s3 s4 s5 s6 s7 s8 s9;have u0:=HC2.out.c 0 rfl;have u1:=HC2.out.c 1 rfl;have u2:=HC2.out.c 2 rfl;have u3:=HC2.out.c 3 rfl;have u4:=HC2.out.c 4 rfl;have u5:=HC2.out.c 5 rfl;have u6:=HC2.out.c 6 rfl;have u7:=HC2.out.c 7 rfl;have u8:=HC2.out.c 8 rfl;have u9:=HC2.out.c 9 rfl;have q0:=HF2.out.c0;go_wp2_with fail;refine HP.out.mono ?_;rintro e w3 ⟨rfl,hb3⟩;have t0:=(HF2.out.below hb3).c0;have t1:=(HF2.out.below hb3).c1;have r0:=(HF2.out.below hb3).fr 0;have r1:=(HF2.out.below hb3).fr 1
 obtain ⟨W4,hW4⟩:∃W,W=(w3.setCell ⟨g5,0,none⟩ (.int .i64 a)).setCell ⟨g5,1,none⟩ (.int .i64 p):=⟨_,rfl⟩
 have HF4:Hid (FtB W4 g5 (.int .i64 a) (.int .i64 p)):=by rw [hW4];exact (HF2.out.below hb3).all _ _
 have hmv:Mv g5 w3 W4:=by rw [hW4];exact ((Mv.refl g5 w3).set 0 _).set 1 _
 have HB4:Hid (Below w.heap.size w W4):=hmv.belowB (HB2.out.trans (hb3.mono HB2.out.size)) (by have:=HG.out;have:=HG2.out;omega) (by have:=HB2.out.size;have:=hb3.size;omega);have HC4:=h_ ((HC2.out.below hb3).mv hmv (by have:=HG2.out;omega));have HX4:=h_ ((HX2.out.below hb3).mv hmv (by have:=HG2.out;have:=HG.out;omega));have HY4:=h_ ((HY2.out.below hb3).mv hmv (by have:=HG2.out;omega));have HW23:=h_ (Ch.of_below (S:=λ _=>False) hb3);have HM4:=h_ hmv;clear hb3 hmv HP u0 u1 u2 u3 u4 u5 u6 u7 u8 u9 q0;go_upto_region 4 with fail;rw [<-hW4];clear hW4 t0 t1 r0 r1;have a0:=HF4.out.c0;have a1:=HF4.out.c1;have hg:=HG.out;have b0:=HX4.out.c 0 rfl;have b1:=HX4.out.c 1 rfl;have b2:=HX4.out.c 2 rfl;have b3:=HX4.out.c 3 rfl;have b4:=HX4.out.c 4 rfl;have b5:=HX4.out.c 5 rfl;have b6:=HX4.out.c 6 rfl;have b7:=HX4.out.c 7 rfl;have b8:=HX4.out.c 8 rfl;have b9:=HX4.out.c 9 rfl;have f0:=HX4.out.fr 0;have f1:=HX4.out.fr 1;have f2:=HX4.out.fr 2;have f3:=HX4.out.fr 3;have f4:=HX4.out.fr 4;have f5:=HX4.out.fr 5;have f6:=HX4.out.fr 6;have f7:=HX4.out.fr 7;have f8:=HX4.out.fr 8;have f9:=HX4.out.fr 9;have d0:=HY4.out.c0;have d1:=HY4.out.c1;have e0:=HY4.out.fr 0;have e1:=HY4.out.fr 1
 have hgne:g1≠g2/\g1≠g4/\g1≠g5/\g2≠g4/\g2≠g5:=by have:=HG2.out;omega
 obtain ⟨n1,n2,n3,n4,n5⟩:=hgne
 by_cases hz:a=0
 ·subst hz;have u0:=HC4.out.c 0 rfl;have u1:=HC4.out.c 1 rfl;have u2:=HC4.out.c 2 rfl;have u3:=HC4.out.c 3 rfl;have u4:=HC4.out.c 4 rfl;have u5:=HC4.out.c 5 rfl;have u6:=HC4.out.c 6 rfl;have u7:=HC4.out.c 7 rfl;have u8:=HC4.out.c 8 rfl;have u9:=HC4.out.c 9 rfl;have st:∀u∈[y0,y1,y2,y3,y4,y5,y6,y7,y8,y9],∀(w:World) (a:Addr),(store a u).run Tryz.prog w=stored Tryz.prog w a u .plain:=λ u hu w a=>run_store _ w a u .plain (HZO.out u hu);have s0:=st y0 (by simp);have s1:=st y1 (by simp);have s2:=st y2 (by simp);have s3:=st y3 (by simp);have s4:=st y4 (by simp);have s5:=st y5 (by simp);have s6:=st y6 (by simp);have s7:=st y7 (by simp);have s8:=st y8 (by simp);have s9:=st y9 (by simp);clear st;go_wp2_with fail
  go_region
  go_wp2_with fail
  obtain ⟨W9,hW9⟩:∃W,W=sets (sets W4 g1 0 [y0,y1,y2,y3,y4,y5,y6,y7,y8,y9]) g2 0 [.int .i64 0,.int .i64 p]:=⟨_,rfl⟩
  have hS1:CB W9 g1 29 [y0,y1,y2,y3,y4,y5,y6,y7,y8,y9]:=by rw [hW9];exact (HX4.out.all [y0,y1,y2,y3,y4,y5,y6,y7,y8,y9] rfl).mv (sets_mv _ g2 0 _) (by have:=HG.out;omega)
  have hS2:FtB W9 g2 (.int .i64 0) (.int .i64 p):=by rw [hW9];exact (HY4.out.mv (sets_mv _ g1 0 _) (by have:=HG.out;omega)).all _ _
  have hP9:Below w.heap.size w W9:=by rw [hW9];exact sets_below (sets_below HB4.out HG.out.1 0 _) HG.out.2.1 0 _
  have hC9:Ch (λ k=>k=g1∨k=g2) W4 W9:=by rw [hW9];exact Ch.many (.inl (.inr rfl)) _ 0 (Ch.many (.inl (.inl rfl)) _ 0 (Ch.refl _ _))
  simp only [sets,Nat.reduceAdd] at hW9;rw [<-hW9];clear hW9;have hch:Ch (λ k=>k=g5∨k=g1∨k=g2) w1 W9.drew:=(((((HW12.out.mono (λ _ _ e=>e.elim)).trans (HW23.out.mono (λ _ _ e=>e.elim))).trans ((Ch.of_mv HM4.out).mono (λ _ _ e=>.inl e))).trans (hC9.mono (λ _ _ e=>.inr e)))).drew;have hdx:=HR1.out _ W9.drew hch (λ k e=>by have h1:=HG45.out;have h2:=HG01.out;rcases e with e|e|e <;> omega);refine bodyPost_ret (resCF (w:=W9.drew) rfl _ rfl rfl hS1 hS2) rfl ?_;exact ⟨y0,y1,y2,y3,y4,y5,y6,y7,y8,y9,rfl,by have h1:=HZO.out;simpa using h1,hdx,hP9.drew⟩
 ·have hne:(a != 0)=true:=by simpa [bne] using hz
  go_wp2_with fail
  go_region
  go_wp2_with fail
  obtain ⟨W9,hW9⟩:∃W,W=sets (sets W4 g1 0 [.slice none 0 0,.int .i64 0,.string ⟨#[]⟩,.string ⟨#[]⟩,.string ⟨#[]⟩,.slice none 0 0,.slice none 0 0,.slice none 0 0,.slice none 0 0,.int .i64 0]) g2 0 [.int .i64 a,.int .i64 p]:=⟨_,rfl⟩
  have hS1:CB W9 g1 29 [.slice none 0 0,.int .i64 0,.string ⟨#[]⟩,.string ⟨#[]⟩,.string ⟨#[]⟩,.slice none 0 0,.slice none 0 0,.slice none 0 0,.slice none 0 0,.int .i64 0]:=by rw [hW9];exact (HX4.out.all [.slice none 0 0,.int .i64 0,.string ⟨#[]⟩,.string ⟨#[]⟩,.string ⟨#[]⟩,.slice none 0 0,.slice none 0 0,.slice none 0 0,.slice none 0 0,.int .i64 0] rfl).mv (sets_mv _ g2 0 _) (by have:=HG.out;omega)
  have hS2:FtB W9 g2 (.int .i64 a) (.int .i64 p):=by rw [hW9];exact (HY4.out.mv (sets_mv _ g1 0 _) (by have:=HG.out;omega)).all _ _
  have hP9:Below w.heap.size w W9:=by rw [hW9];exact sets_below (sets_below HB4.out HG.out.1 0 _) HG.out.2.1 0 _
  have hC9:Ch (λ k=>k=g1∨k=g2) W4 W9:=by rw [hW9];exact Ch.many (.inl (.inr rfl)) _ 0 (Ch.many (.inl (.inl rfl)) _ 0 (Ch.refl _ _))
  simp only [sets,Nat.reduceAdd] at hW9;rw [<-hW9];clear hW9;refine bodyPost_ret (resCF (w:=W9.drew) rfl _ rfl rfl hS1 hS2) rfl ?_;refine ⟨_,_,_,_,_,_,_,_,_,_,rfl,by simp [Value.oneCell'],λ e=>absurd e hz,hP9.drew⟩
def t10A:ByteArray:=⟨#[99,104,97,114,116,32,99,32,123,32,115,116,97,116,101,32,97,32,123,32,125,32,125]⟩
def t10B:ByteArray:=⟨#[99,104,97,114,116,32,99,32,123,32,105,110,105,116,105,97,108,32,97,59,32,115,116,97,116,101,32,97,32,123,32,111,110,32,120,32,45,62,32,99,59,32,125,32,125]⟩
def t10C:ByteArray:=⟨#[99,104,97,114,116,32,99,32,123,32,105,110,105,116,105,97,108,32,97,59,32,115,116,97,116,101,32,97,32,123,32,111,110,32,120,32,45,62,32,97,59,32,125,32,125]⟩
def t10Q (a p:Int):Rs SyChart->Bool
 |.ok c _=>(ckR c.g==(a,p)&&c.g.root.nm == [99])&&(c.vars.isEmpty&&plN c.root)
 |_=>false
set_option maxRecDepth 100000 in
theorem t10A_is:t10Q 25 6 (syF t10A.data.toList)=true:=by kernel_rfl
set_option maxRecDepth 100000 in
theorem t10B_is:t10Q 27 31 (syF t10B.data.toList)=true:=by kernel_rfl
set_option maxRecDepth 100000 in
theorem t10C_is:t10Q 0 0 (syF t10C.data.toList)=true:=by kernel_rfl
set_option maxRecDepth 100000 in
theorem t10A_pl:plT (scF t10A.data.toList).1=true:=by kernel_rfl
set_option maxRecDepth 100000 in
theorem t10B_pl:plT (scF t10B.data.toList).1=true:=by kernel_rfl
set_option maxRecDepth 100000 in
theorem t10C_pl:plT (scF t10C.data.toList).1=true:=by kernel_rfl
theorem t10_of {a p:Int}:∀{R:Rs SyChart},t10Q a p R=true->∃c s,R=.ok c s/\ckR c.g=(a,p)/\c.g.root.nm=[99]/\c.vars=[]/\plN c.root=true:=by
 intro R h;unfold t10Q at h
 split at h
 ·rw [Bool.and_eq_true,Bool.and_eq_true,Bool.and_eq_true,List.isEmpty_iff] at h;exact ⟨_,_,rfl,eq_of_beq h.1.1,eq_of_beq h.1.2,h.2.1,h.2.2⟩
 ·cases h
theorem chart_name {w:World} {c:GC} {y0 y1 y2:Value} {l:List Value} (h:DxsAt w (gChart c) (y0::y1::y2::l)):y2=txV c.root.nm:=by
 obtain ⟨vs,k,nm,ini,dft,en,le,mo,ks,p⟩:=c;unfold gChart at h;rw [gNode_mk] at h;obtain ⟨z0,zs,e,_,h1⟩:=h.uncons;injection e with _ e;subst e;obtain ⟨z1,zs,e,_,h2⟩:=h1.uncons;injection e with _ e;subst e;obtain ⟨z2,zs,e,d2,_⟩:=h2.uncons;injection e with e _;rw [e,d2.val];rfl
theorem small10_pl (w:World) (hE:Ee w) :
  Calls Tryz.prog 9 #[] w λ e w'=>e=.returned (.bool true)/\Below w.heap.size w w':=by
 obtain ⟨ca,ra,hRa,hKa,_,hva,hna⟩:=t10_of t10A_is;obtain ⟨cb,rb,hRb,hKb,_,hvb,hnb⟩:=t10_of t10B_is;obtain ⟨cc,rc,hRc,hKc,hNc,hvc,hnc⟩:=t10_of t10C_is;have HA:=h_ (lsound_pl w t10A hE hRa t10A_pl hva hna 25 6 hKa);have HB:=h_ (λ (W:World) (hb:Below w.heap.size w W)=>lsound_pl W t10B (hE.below hb) hRb t10B_pl hvb hnb 27 31 hKb);have HC:=h_ (λ (W:World) (hb:Below w.heap.size w W)=>lsound_pl W t10C (hE.below hb) hRc t10C_pl hvc hnc 0 0 hKc);unfold t10A at HA;unfold t10B at HB;unfold t10C at HC;have HN:=h_ hNc;clear hE hRa hKa hRb hKb hRc hKc hNc hva hna hvb hnb hvc hnc;go_enter Tryz.func9,Tryz.ntmps9;go_wp2_with fail;refine HA.out.mono ?_;rintro e w1 ⟨x0,x1,x2,x3,x4,x5,x6,x7,x8,x9,rfl,zo,dx,hb⟩;obtain ⟨V1,ga1,gf1,hW,hga1,hgf1,HC1,HF1,HBn1⟩:=pair_chart w1 x0 x1 x2 x3 x4 x5 x6 x7 x8 x9 25 6;have st:∀u∈[x0,x1,x2,x3,x4,x5,x6,x7,x8,x9],∀(w:World) (a:Addr),(store a u).run Tryz.prog w=stored Tryz.prog w a u .plain:=λ u hu w a=>run_store _ w a u .plain (zo u hu);have s0:=st x0 (by simp);have s1:=st x1 (by simp);have s2:=st x2 (by simp);have s3:=st x3 (by simp);have s4:=st x4 (by simp);have s5:=st x5 (by simp);have s6:=st x6 (by simp);have s7:=st x7 (by simp);have s8:=st x8 (by simp);have s9:=st x9 (by simp);have BB1:Hid (Below w.heap.size w V1):=hb.trans (HBn1.out.mono hb.size);have HBd:=h_ (HB.out V1 BB1.out);go_upto_region 2 with fail;rw [<-hW,<-hgf1,<-hga1];clear hW hga1 hgf1 st zo dx hb s0 s1 s2 s3 s4 s5 s6 s7 s8 s9 HA;go_wp2_with fail;refine HBd.out.mono ?_;rintro e w2 ⟨y0,y1,y2,y3,y4,y5,y6,y7,y8,y9,rfl,zo,dx,hb⟩;obtain ⟨V2,ga2,gf2,hW,hga2,hgf2,HC2,HF2,HBn2⟩:=pair_chart w2 y0 y1 y2 y3 y4 y5 y6 y7 y8 y9 27 31;have st:∀u∈[y0,y1,y2,y3,y4,y5,y6,y7,y8,y9],∀(w:World) (a:Addr),(store a u).run Tryz.prog w=stored Tryz.prog w a u .plain:=λ u hu w a=>run_store _ w a u .plain (zo u hu);have s0:=st y0 (by simp);have s1:=st y1 (by simp);have s2:=st y2 (by simp);have s3:=st y3 (by simp);have s4:=st y4 (by simp);have s5:=st y5 (by simp);have s6:=st y6 (by simp);have s7:=st y7 (by simp);have s8:=st y8 (by simp);have s9:=st y9 (by simp);have BB2:Hid (Below w.heap.size w V2):=(BB1.out.trans (hb.mono BB1.out.size)).trans (HBn2.out.mono (by have h1:=BB1.out.size;have h2:=hb.size;omega));have HF1':=h_ ((HF1.out.below hb).below HBn2.out);have HCd:=h_ (HC.out V2 BB2.out);go_upto_region 3 with fail;rw [<-hW,<-hgf2,<-hga2];clear hW hga2 hgf2 st zo dx hb s0 s1 s2 s3 s4 s5 s6 s7 s8 s9 HBd HB;go_wp2_with fail;refine HCd.out.mono ?_;rintro e w3 ⟨z0,z1,z2,z3,z4,z5,z6,z7,z8,z9,rfl,zo,dx,hb⟩;obtain ⟨V3,ga3,gf3,hW,hga3,hgf3,HC3,HF3,HBn3⟩:=pair_chart w3 z0 z1 z2 z3 z4 z5 z6 z7 z8 z9 0 0;have st:∀u∈[z0,z1,z2,z3,z4,z5,z6,z7,z8,z9],∀(w:World) (a:Addr),(store a u).run Tryz.prog w=stored Tryz.prog w a u .plain:=λ u hu w a=>run_store _ w a u .plain (zo u hu);have s0:=st z0 (by simp);have s1:=st z1 (by simp);have s2:=st z2 (by simp);have s3:=st z3 (by simp);have s4:=st z4 (by simp);have s5:=st z5 (by simp);have s6:=st z6 (by simp);have s7:=st z7 (by simp);have s8:=st z8 (by simp);have s9:=st z9 (by simp)
 have BB3:Hid (Below w.heap.size w V3):=(BB2.out.trans (hb.mono BB2.out.size)).trans (HBn3.out.mono (by have h1:=BB2.out.size;have h2:=hb.size;omega));have HF1'':=h_ ((HF1'.out.below hb).below HBn3.out);have HF2':=h_ ((HF2.out.below hb).below HBn3.out);have HY:=h_ (chart_name (dx (by first|trivial|rfl)));go_upto_region 4 with fail;rw [<-hW,<-hgf3,<-hga3];clear hW hga3 hgf3 st zo dx hb s0 s1 s2 s3 s4 s5 s6 s7 s8 s9 HCd HC;have hy2:=HC3.out.c 2 rfl;rw [HY.out,HN.out,show txV [99]=.string ⟨#[99]⟩ from rfl] at hy2;have q10:=HF1''.out.c0;have q11:=HF1''.out.c1;have q20:=HF2'.out.c0;have q21:=HF2'.out.c1;have q30:=HF3.out.c0;go_wp2_with fail;go_ret;exact ⟨rfl,BB3.out⟩
def gx0:GX:=.mk 0 0 [] 0 [] 0
def waitM (n:Int):GM:=⟨3,[],n,false,gx0,[],[],7⟩
def waitC (n:Int):GC:=⟨[],.mk 1 [99] [] [] [] [] [waitM n] [] 0⟩
theorem wait_faults (n:Int):faults (waitC n)=if n=0∨1099511627776<n then [(28,7)] else []:=by
 have h1:dbN (spF (waitC n)) (atsN (waitC n).root)=[]:=rfl
 have h2:ndF ((waitC n).vars.map (·.name)) (spF (waitC n)) 0 (waitC n).root=mvsF [] (spF (waitC n)) [waitM n]:=by
  show ndF [] _ 0 (.mk 1 [99] [] [] [] [] [waitM n] [] 0)=_;rw [ndF,ndsF,List.append_nil];rfl
 unfold faults;rw [h1,h2];show dbV [] []++((if (3:Int)=3/\(n=0∨1099511627776<n) then [(28,7)] else [])++(exF [] _ gx0++(acsF [] _ []++(if tgsN _ [] [] then [] else [(27,7)])))++[])=_;rw [show exF [] (spF (waitC n)) gx0=[] from by unfold gx0;rw [exF,exsF];rfl]
 by_cases h:n=0∨1099511627776<n
 ·rw [if_pos h,if_pos ⟨rfl,h⟩];rfl
 ·rw [if_neg h,if_neg (λ c=>h c.2)];rfl
theorem wait_pr {n:Int} (h0:0<=n) (h1:n<=9223372036854775807):(prR (waitC n)).2=0:=by
 have hk:okC (waitC n)=true:=by
  have hm:okM (waitM n)=true:=by
   unfold okM trig waitM grd;simp [h0,nothing,gx0,GX.kind,GX.num,GX.name,GX.op,GX.subs]
  unfold okC waitC;simp only [okN,okNs,nN,nNs,nM,nMs,nA,nAs,mvG,waitM,GN.kind,List.all_cons,List.all_nil,Bool.and_true,List.length_nil];have hm':=hm;unfold waitM at hm';rw [hm'];simp;decide
 unfold prR;rw [if_pos hk]
 have hl:(chartT (waitC n).s).length<=16384:=by
  have hi:=itoa_short n (by omega) h1;unfold waitC GC.s chartT;simp only [GN.s,GN.ss,mvsT,nodesT,List.map_cons,List.map_nil,pvarsT,iniT,clT,List.length_append,ind];simp [GM.s,waitM,moveT,moveW,evT,gdT,blkT,tgtT,gx0,GX.right];rw [show (GX.mk 0 0 [] 0 [] 0).ex=none from by rfl,show wChart.length=5 from rfl,show wAfter.length=5 from rfl];simp;omega
 rw [if_pos hl]
theorem waits_law {n:Int} (h0:0<=n) (h1:n<=9223372036854775807):ckR (waitC n)=if n=0∨1099511627776<n then (28,7) else (0,0):=by
 unfold ckR;rw [if_pos (wait_pr h0 h1),wait_faults]
 split <;> rfl
def wcells (m:Int):List Value:=[.int .i64 3,.string ⟨#[]⟩,.int .i64 m,.bool false,.int .i64 0,.int .i64 0,.string ⟨#[]⟩,.int .i64 0,.slice none 0 0,.int .i64 0,.slice none 0 0,.slice none 0 0,.int .i64 7]
theorem wdx_nil (w:World) (e:TypeId) (k:Nat):DxAt w (.row e k 0 []) (.slice none 0 0):=by
 unfold DxAt;exact ⟨none,0,[],rfl,n_ _,by decide,.inl rfl,DxsAt.nil w⟩
theorem wdx_sub (w:World):DxAt w (.sub false []) (.slice none 0 0):=by
 unfold DxAt;exact ⟨none,0,rfl,n_ _,by decide,by unfold GRow;trivial⟩
theorem wmove_dx (w:World) (m:Int):DxsAt w (gMove (waitM m)) (wcells m):=by
 refine .v rfl (.v rfl (.v rfl (.v rfl (.v rfl (.v rfl (.v rfl (.v rfl (.cons (wdx_sub w) (.v rfl (.cons (wdx_nil w _ _) (.cons (wdx_nil w _ _) (.v rfl (DxsAt.nil w)))))))))))))
theorem wchart_dx {w:World} {g:Nat} {m:Int} (h:CB w g 57 (wcells m)):DxsAt w (gChart (waitC m)) [.slice none 0 0,.int .i64 1,.string ⟨#[99]⟩,.string ⟨#[]⟩,.string ⟨#[]⟩,.slice none 0 0,.slice none 0 0,.slice (some ⟨g,0,none⟩) 1 1,.slice none 0 0,.int .i64 0]:=by
 unfold gChart waitC;rw [gNode_mk];refine .cons (wdx_nil w _ _) (.v rfl (.v rfl (.v rfl (.v rfl (.cons (wdx_nil w _ _) (.cons (wdx_nil w _ _) (.cons ?_ (.cons ?_ (.v rfl (DxsAt.nil w))))))))))
 ·unfold gMoves DxAt;refine ⟨some ⟨g,0,none⟩,1,wcells m,rfl,n_ _,by decide,.inr ⟨g,0,rfl,h.lt,λ i u hu=>by rw [Nat.zero_add];exact h.c i hu⟩,?_⟩;rw [List.flatMap_cons,List.flatMap_nil,List.append_nil];exact wmove_dx w m
 ·unfold gKids;rw [gNodes];exact wdx_nil w _ _
theorem waitC_rng {m:Int} (h0:0<=m) (h1:m<=9223372036854775807):(waitC m).rng:=by
 refine ⟨λ v hv=>(by cases hv),?_⟩;unfold waitC;rw [GN.rng];refine ⟨by decide,by decide,by decide,λ a ha=>(by cases ha),λ a ha=>(by cases ha),λ a ha=>?_,by rw [GN.rngs];trivial⟩;rw [List.mem_singleton.1 ha];refine ⟨Nat.zero_le _,⟨by show _<=m;omega,h1⟩,?_,λ a ha=>(by cases ha),λ a ha=>(by cases ha)⟩;show gx0.rng;unfold gx0;rw [GX.rng,GX.rngs];decide
theorem waitC_len (m:Int):(waitC m).root.len:=by
 unfold waitC;rw [GN.len,GN.lens];refine ⟨by decide,by decide,by simp,by decide,λ a ha=>?_,trivial⟩;rw [List.mem_singleton.1 ha];exact Nat.zero_le _
theorem waits10_law (n:Int) (w:World) (h1:(Lit.int .i64 n).wf=true) (hK:KwAt w) (hEr:ErrAt w) (hSg:SgAt w) (hPw:PowTab w) :
  Calls Tryz.prog 8 #[.int .i64 n] w λ e w'=>e=.returned (.bool true)/\Below w.heap.size w w':=by
 have HEE:Hid (Ee w):=⟨⟨hK,hEr⟩,hSg,hPw⟩
 have hn:-9223372036854775808<=n/\n<=9223372036854775807:=by
  have h2:=h1;simp only [Lit.wf,Bool.and_eq_true,decide_eq_true_eq] at h2;exact ⟨h2.1,h2.2⟩
 have HS:=h_ (small10_pl w HEE.out);clear h1 hK hEr hSg hPw;go_enter Tryz.func8,Tryz.ntmps8;go_wp2_with fail;refine HS.out.mono ?_;rintro e w1 ⟨rfl,hb1⟩;have HB1:=h_ hb1;clear hb1 HS
 obtain ⟨m,hm⟩:∃m,max n 0=m:=⟨_,rfl⟩
 obtain ⟨Wa,hWa⟩:∃W,W=w1.alloc (.cells #[.int .i64 3,.string ⟨#[]⟩,.int .i64 m,.bool false,.int .i64 0,.int .i64 0,.string ⟨#[]⟩,.int .i64 0,.slice none 0 0,.int .i64 0,.slice none 0 0,.slice none 0 0,.int .i64 7] 57):=⟨_,rfl⟩
 obtain ⟨W2,hW2⟩:∃W,W=Wa.alloc (.cells #[.int .i64 3,.string ⟨#[]⟩,.int .i64 m,.bool false,.int .i64 0,.int .i64 0,.string ⟨#[]⟩,.int .i64 0,.slice none 0 0,.int .i64 0,.slice none 0 0,.slice none 0 0,.int .i64 7] 57):=⟨_,rfl⟩
 obtain ⟨g2,hg2⟩:∃g,g=w1.heap.size+1:=⟨_,rfl⟩
 have hb2:Below w1.heap.size w1 W2:=by rw [hW2,hWa];exact ((b_ _ w1).alloc (n_ _) _).alloc (by simp) _
 have hcb:CB W2 g2 57 (wcells m):=by
  have h1:g2=Wa.heap.size:=by rw [hg2,hWa];simp
  rw [hW2,h1];exact CB.new Wa _ (wcells m)
 have h0:0<=m/\m<=9223372036854775807:=by omega
 have HC:=h_ (lcheck_any W2 (waitC m) _ (HEE.out.below (HB1.out.trans (hb2.mono HB1.out.size))) (wchart_dx hcb) (waitC_rng h0.1 h0.2) (waitC_len m));rw [waits_law h0.1 h0.2] at HC;have HB2:=h_ (HB1.out.trans (hb2.mono HB1.out.size))
 have HMN:Hid ((n<1->m=0)/\(0<n->m=n)):=by show _/\_;omega
 rw [hWa] at hW2;clear hWa hb2 hcb h0 HB1 HEE;go_wp2_with fail;rw [<-hW2,<-hg2];clear hW2 hg2 hm;refine HC.out.mono ?_;rintro e w3 ⟨rfl,hb3⟩;have HB3:=h_ (HB2.out.trans (hb3.mono HB2.out.size));clear hb3 HC HB2
 by_cases c1:n<1
 ·have hm0:=HMN.out.1 c1;subst hm0;rw [if_pos (.inl rfl)];go_wp2_with fail;go_ret;exact ⟨rfl,HB3.out.alloc (by have:=HB3.out.size;omega) _⟩
 ·have hm0:=HMN.out.2 (by omega);subst hm0
  by_cases c2:1099511627776<m
  ·rw [if_pos (.inr c2)];have c1':¬m<1:=c1;have c2':m > 1099511627776:=c2;go_wp2_with fail;go_ret;exact ⟨rfl,HB3.out.alloc (by have:=HB3.out.size;omega) _⟩
  ·rw [if_neg (by omega)];have c1':¬m<1:=c1;have c2':¬m > 1099511627776:=c2;go_wp2_with fail;go_ret;exact ⟨rfl,HB3.out.alloc (by have:=HB3.out.size;omega) _⟩
end Go.Proofs.YtocecpghoncmgaaGreatDoor
