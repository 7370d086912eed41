import Derived.Test.YtcddbfdbhjkjgaaGreatDoorQh
import Derived.Test.YtcddbfdbhjkjgaaGreatDoorXtG
import Derived.Test.YtcddbfdbhjkjgaaGreatDoorYE
import Derived.Test.YtcddbfdbhjkjgaaGreatDoorYF
set_option maxHeartbeats 12800000
set_option maxRecDepth 20000
namespace Go.Proofs.YtcddbfdbhjkjgaaGreatDoor
open Go.RowKit
theorem XS.lev {w:World} {b:Nat} {K:Kx} {D:Int} {m:Rs Unit} (h:XS w b K D m) (D':Int):XS (w.setCell ⟨b,5,none⟩ (.int .i64 D')) b K D' m:=by
 obtain ⟨r,h1,h0,h2,h4,h5⟩:=h.out
 exact h.turn (r:={ r with D:=D' }) ((Mv.refl b w).set 5 _) (h1.setD D') h0 h2 rfl (by cases m <;> exact h5)
theorem XS.dcell {w:World} {b:Nat} {K:Kx} {D:Int} {m:Rs Unit} (h:XS w b K D m):w.cell? ⟨b,5,none⟩=some (.int .i64 D)∧w.frozen? ⟨b,5,none⟩=false:=by
 obtain ⟨r,h1,h0,h2,h4,h5⟩:=h.out
 have:=h1.c5
 rw [h4] at this
 exact ⟨this,h1.fr 5⟩
theorem Rep.nodeF {W:World} {base:Nat} {k p:Int} {nm ini dft:List UInt8} {en le:List SyAct} {mo:List SyMove} {ki:List SyNode} {v1 v2 v3 v4:Value} {F1 F2 F3 F4:List Nat} (h:Q4 W base (dvActs false en) (dvActs false le) (dvMoves false mo) (dvKids false ki) v1 v2 v3 v4 F1 F2 F3 F4) {X Y Z:ByteArray} (hX:txV nm=.string X) (hY:txV ini=.string Y) (hZ:txV dft=.string Z) :
  Rep W base (dvNode false (.mk k nm ini dft en le mo ki p)) [.int .i64 k,.string X,.string Y,.string Z,v1,v2,v3,v4,.int .i64 p]:=by
 rw [dvNode_mk]
 refine Rep.v rfl (Rep.v' hX (Rep.v' hY (Rep.v' hZ ?_)))
 have:=h.rep.snoc (u:=.int .i64 p) rfl
 simpa using this
def XdEnd (w:World) (b:Nat) (K:Kx) (D:Int) (m:Rs SyNode) (e:Ending) (w':World):Prop :=
 ∃(x:SyNode) (ys:List Value),e=.returned (.agg ys.toArray)∧Rep w' w.heap.size (dvNode false x) ys∧ys.length=9∧m.is x∧XS w' b K D m.void∧Mv b w w'
theorem xnode_step (b:Nat) (K:Kx) (D:Int) (d:Nat) (hD:D=12-(d:Int)) (hd12:d≤12) (hnd:d≠0→XNodeC b K (D+1) (d-1)):XNodeC b K D d:=by
 intro w s k h hk hk0
 show Calls _ _ _ _ (XdEnd w b K D (nodeR d s))
 obtain ⟨g4,hg4⟩:∃g,g=w.heap.size:=⟨_,rfl⟩
 obtain ⟨W0,hW0⟩:∃W0,W0=w.alloc (.cells #[.int .i64 0,.string ⟨#[]⟩,.string ⟨#[]⟩,.string ⟨#[]⟩,.slice none 0 0,.slice none 0 0,.slice none 0 0,.slice none 0 0,.int .i64 0] 28):=⟨_,rfl⟩
 have HR:Hid (CB W0 g4 28 zNode):=by rw [hW0,hg4];exact CB.new w _ zNode
 have HB0:Hid (Below w.heap.size w W0):=by rw [hW0];exact (b_ _ w).alloc (n_ _) _
 have hbw:=h.blt
 have hg4w:w.heap.size≤g4:=by omega
 have hg4b:g4≠b:=by omega
 have HP:=h_ (h.below HB0.out)
 have HN:=h_ h.ok.n
 obtain ⟨r,hr,hr0,hrq,hrd,hrm⟩:=HP.out.out
 have hk5:kindOf s.ts≠5:=word_kind (us:=[wState,wParallel,wHistory,wDeep]) (k:=1) (by show nodeK s.ts≠0;rw [hk];exact hk0)
 obtain ⟨hst,hxs⟩:=hrm.step hk5 HP.out.at_.1
 have r1:=hr.c1
 have f1:=hr.fr 1
 have hrq1:r.q≤100000:=by have:=HN.out;omega
 obtain ⟨W1,hW1⟩:∃W,W=W0.setCell ⟨b,1,none⟩ (.int .i64 ((r.q:Int)+1)):=⟨_,rfl⟩
 have hm1:Mv b W0 W1:=by rw [hW1];exact (Mv.refl b W0).set 1 _
 have hr1:RvB W1 b { r with q:=r.q+1 }:=by
  rw [hW1]
  have:=hr.setq (r.q+1)
  rw [Int.natCast_add] at this
  exact this
 have HP1:Hid (XS W1 b K D (.ok () s.drop)):=HP.out.turn hm1 hr1 hr0 hst hrd hxs
 have HR1:=h_ (HR.out.mv hm1 hg4b)
 have HM1:Hid (Mv b w W1):=(Mv.of b HB0.out).trans hm1
 have HC:=h_ (xnamed_s W1 b K D d _ (k:Int) HP1.out hD hd12)
 have HK:=h_ hk
 have HDD:=h_ (And.intro hD hd12)
 have HND:=h_ hnd
 have hs01:w.heap.size≤W1.heap.size:=World.grownBy.size HM1.out
 have HWX:=h_ hW1
 clear h hr hr0 hrq hrd hrm hk5 hst hxs hm1 hr1 hk hD hd12 hnd hW1 HP HR HB0
 go_enter Tryz.func48,Tryz.ntmps48
 go_upto_region 1 with fail
 rw [←hW0,←hg4]
 clear hW0 hg4
 go_upto_region 2 with fail
 rw [←HWX.out]
 clear HWX r1 f1
 go_wp2_with fail
 refine HC.out.mono ?_
 rintro e w2 ⟨x,X,p,hX,rfl,his,hp,hm⟩
 obtain ⟨m1,hme1⟩:∃m1,((Rs.ok () s.drop:Rs Unit).go (namedR d)).void=m1:=⟨_,rfl⟩
 rw [hme1] at hp
 have HE1:=h_ hme1
 obtain ⟨g5,hg5⟩:∃g,g=w2.heap.size:=⟨_,rfl⟩
 obtain ⟨W3,hW3⟩:∃W,W=w2.alloc (.cells #[.int .i64 (k:Int),.string X,.string ⟨#[]⟩,.string ⟨#[]⟩,.slice none 0 0,.slice none 0 0,.slice none 0 0,.slice none 0 0,.int .i64 p] 28):=⟨_,rfl⟩
 have hb3:Below w2.heap.size w2 W3:=by rw [hW3];exact (b_ _ w2).alloc (n_ _) _
 have HA3:Hid (CB W3 g5 28 [.int .i64 (k:Int),.string X,.string ⟨#[]⟩,.string ⟨#[]⟩,.slice none 0 0,.slice none 0 0,.slice none 0 0,.slice none 0 0,.int .i64 p]):=by rw [hW3,hg5];exact CB.new w2 _ [.int .i64 (k:Int),.string X,.string ⟨#[]⟩,.string ⟨#[]⟩,.slice none 0 0,.slice none 0 0,.slice none 0 0,.slice none 0 0,.int .i64 p]
 have HR3:=h_ ((HR1.out.mv hm hg4b).below hb3)
 have HP3:=h_ (hp.below hb3)
 have HM3:Hid (Mv b w W3):=(HM1.out.trans hm).trans (Mv.of b hb3)
 have hsm:=World.grownBy.size hm
 have hb5:b<g5:=by have:=hp.blt;omega
 have hg5b:g5≠b:=by omega
 have hg45:g4<g5:=by have:=(HR1.out.mv hm hg4b).lt;omega
 have hg5w:w.heap.size≤g5:=by omega
 have HIS:=h_ his
 have HX:=h_ hX
 clear hX his hp hm hme1 hb3 HC HR1 HP1 HM1
 go_upto_region 3 with fail
 rw [←hW3,←hg5]
 clear hW3 hg5 hsm hs01
 by_cases hk3:3≤k
 ·have hk3':(k:Int) ≥ 3:=by omega
  have hkd:decide ((k:Int) ≥ 3)=true:=decide_eq_true hk3'
  have hkn:decide (3≤k)=true:=decide_eq_true hk3
  have HK3:=h_ hk3
  have HC:=h_ (xmust_s W3 b K D _ HP3.out 4 ⟨#[45,62]⟩ (by decide))
  clear hk3
  go_wp2_with fail
  refine HC.out.mono ?_
  rintro e w4 ⟨rfl,hp,hm⟩
  obtain ⟨m2,hme2⟩:∃m2,m1.go (mustR 4 [45,62])=m2:=⟨_,rfl⟩
  replace hp:XS w4 b K D m2:=by rw [←hme2];exact hp
  have HE2:=h_ hme2
  have HA4:=h_ (HA3.out.mv hm hg5b)
  have HR4:=h_ (HR3.out.mv hm hg4b)
  have HM4:=h_ (HM3.out.trans hm)
  have HC2:=h_ (xname_s w4 b K D _ hp)
  clear hp hm hme2 HC HA3 HR3 HM3 HP3
  go_wp2_with fail
  refine HC2.out.mono ?_
  rintro e w5 ⟨tx,TX,tp,htx,rfl,hit,hp,hm⟩
  obtain ⟨m3,hme3⟩:∃m3,(m2.go nameR).void=m3:=⟨_,rfl⟩
  rw [hme3] at hp
  have HE3:=h_ hme3
  have HA5:=h_ (HA4.out.mv hm hg5b)
  have c3:=HA5.out.c 3 rfl
  have f3:=HA5.out.fr 3
  obtain ⟨W6,hW6⟩:∃W,W=w5.setCell ⟨g5,3,none⟩ (.string TX):=⟨_,rfl⟩
  have hm6:Mv g5 w5 W6:=by rw [hW6];exact (Mv.refl g5 w5).set 3 _
  have HA6:Hid (CB W6 g5 28 [.int .i64 (k:Int),.string X,.string ⟨#[]⟩,.string TX,.slice none 0 0,.slice none 0 0,.slice none 0 0,.slice none 0 0,.int .i64 p]):=by rw [hW6];exact HA5.out.set 3 _
  have HR6:=h_ ((HR4.out.mv hm hg4b).mv hm6 (by omega))
  have HM6:Hid (Mv b w W6):=by rw [hW6];exact (HM4.out.trans hm).put 3 g5 hg5w _
  have HP6:Hid (XS W6 b K D m3):=hp.ch (Ch.of_mv hm6) (fun k e=>by have e':k=g5:=e;omega)
  have HIT:=h_ hit
  have HTX:=h_ htx
  have HWX:=h_ hW6
  clear htx hit hp hm hme3 hm6 hW6 HC2 HA4 HR4 HM4
  go_upto_region 6 with fail
  rw [←HWX.out]
  clear HWX c3 f3 HA5
  have HC:=h_ (xmust_s W6 b K D _ HP6.out 4 ⟨#[59]⟩ (by decide))
  go_wp2_with fail
  refine HC.out.mono ?_
  rintro e w7 ⟨rfl,hp,hm⟩
  have HA7:=h_ (HA6.out.mv hm hg5b)
  have HR7:=h_ (HR6.out.mv hm hg4b)
  have HM7:=h_ (HM6.out.trans hm)
  have HP7:=h_ hp
  have HEQ:Hid (nodeR d s=(m3.go (mustR 4 [59])).go fun s=>.ok (SyNode.mk k x [] tx [] [] [] [] p) s):=by
   show _=_
   rw [node_hist HK.out HK3.out]
   exact hist_eq HIS.out HE1.out HE2.out HIT.out HE3.out
  clear hp hm HC HA6 HR6 HM6 HP6
  have c0:=HA7.out.c 0 rfl
  have c1:=HA7.out.c 1 rfl
  have c2:=HA7.out.c 2 rfl
  have c3:=HA7.out.c 3 rfl
  have c4:=HA7.out.c 4 rfl
  have c5:=HA7.out.c 5 rfl
  have c6:=HA7.out.c 6 rfl
  have c7:=HA7.out.c 7 rfl
  have c8:=HA7.out.c 8 rfl
  have d0:=HR7.out.c 0 rfl
  have f0:=HR7.out.fr 0
  have d1:=HR7.out.c 1 rfl
  have f1:=HR7.out.fr 1
  have d2:=HR7.out.c 2 rfl
  have f2:=HR7.out.fr 2
  have d3:=HR7.out.c 3 rfl
  have f3:=HR7.out.fr 3
  have d4:=HR7.out.c 4 rfl
  have f4:=HR7.out.fr 4
  have d5:=HR7.out.c 5 rfl
  have f5:=HR7.out.fr 5
  have d6:=HR7.out.c 6 rfl
  have f6:=HR7.out.fr 6
  have d7:=HR7.out.c 7 rfl
  have f7:=HR7.out.fr 7
  have d8:=HR7.out.c 8 rfl
  have f8:=HR7.out.fr 8
  unfold zNode at HR7
  go_wp2_with fail
  have hres:=HR7.out.all [.int .i64 (k:Int),.string X,.string ⟨#[]⟩,.string TX,.slice none 0 0,.slice none 0 0,.slice none 0 0,.slice none 0 0,.int .i64 p] rfl
  have hmf:=sets_put HM7.out hg4w 0 [.int .i64 (k:Int),.string X,.string ⟨#[]⟩,.string TX,.slice none 0 0,.slice none 0 0,.slice none 0 0,.slice none 0 0,.int .i64 p]
  have hpf:=HP7.out.sets (g:=g4) (by omega) 0 [.int .i64 (k:Int),.string X,.string ⟨#[]⟩,.string TX,.slice none 0 0,.slice none 0 0,.slice none 0 0,.slice none 0 0,.int .i64 p]
  simp only [sets,Nat.reduceAdd] at hres hmf hpf
  refine bodyPost_ret (resNode rfl _ rfl hres) rfl ?_
  refine ⟨SyNode.mk k x [] tx [] [] [] [] p,_,rfl,?_,rfl,?_,?_,hmf⟩
  ·exact Rep.nodeF (Q4.nil _ w.heap.size _ _ _ _ _ _ _ _) HX.out rfl HTX.out
  ·rw [HEQ.out]
   exact go_ok_is _ _
  ·rw [HEQ.out,go_ok_void]
   exact hpf
 ·have hk3':¬(k:Int) ≥ 3:=by omega
  have hkd:decide ((k:Int) ≥ 3)=false:=decide_eq_false hk3'
  have hkn:decide (3≤k)=false:=decide_eq_false hk3
  have HK3:Hid (k<3):=by show k<3;omega
  have HC:=h_ (xmust_s W3 b K D _ HP3.out 4 ⟨#[123]⟩ (by decide))
  clear hk3
  go_wp2_with fail
  refine HC.out.mono ?_
  rintro e w4 ⟨rfl,hp,hm⟩
  obtain ⟨m2,hme2⟩:∃m2,m1.go (mustR 4 [123])=m2:=⟨_,rfl⟩
  replace hp:XS w4 b K D m2:=by rw [←hme2];exact hp
  have HE2:=h_ hme2
  obtain ⟨d5,e5⟩:=hp.dcell
  have hD12:0≤D∧D≤12:=by have:=HDD.out;omega
  obtain ⟨W5,hW5⟩:∃W,W=w4.setCell ⟨b,5,none⟩ (.int .i64 (D+1)):=⟨_,rfl⟩
  have hm5:Mv b w4 W5:=by rw [hW5];exact (Mv.refl b w4).set 5 _
  have HP5:Hid (XS W5 b K (D+1) m2):=by rw [hW5];exact hp.lev (D+1)
  have HA5:=h_ ((HA3.out.mv hm hg5b).mv hm5 hg5b)
  have HR5:=h_ ((HR3.out.mv hm hg4b).mv hm5 hg4b)
  have HM5:=h_ ((HM3.out.trans hm).trans hm5)
  have HNN:Hid ((∃s',m2=.ok () s')→XNodeC b K (D+1) (d-1)):=fun ⟨s',e⟩=>HND.out (fun h0=>by
   have e2:=HE2.out
   rw [e] at e2
   cases hm1:m1 with
   |out=>rw [hm1] at e2;cases e2
   |bad c q=>rw [hm1] at e2;cases e2
   |ok u s1 =>
    have e1:=HE1.out
    rw [hm1] at e1
    obtain ⟨c,q,hz⟩:=namedR_zero s.drop
    have e3:(namedR d s.drop).void=.ok () s1:=e1
    rw [h0,hz] at e3
    cases e3)
  have HC2:=h_ (xbody_s W5 b K (D+1) (d-1) m2 (k:Int) X p HP5.out HNN.out)
  have HWX:=h_ hW5
  clear hp hm hme2 hm5 hW5 HC HA3 HR3 HM3 HP3
  go_upto_region 10 with fail
  rw [←HWX.out]
  clear HWX d5 e5
  have c0:=HA5.out.c 0 rfl
  have c1:=HA5.out.c 1 rfl
  have c2:=HA5.out.c 2 rfl
  have c3:=HA5.out.c 3 rfl
  have c4:=HA5.out.c 4 rfl
  have c5:=HA5.out.c 5 rfl
  have c6:=HA5.out.c 6 rfl
  have c7:=HA5.out.c 7 rfl
  have c8:=HA5.out.c 8 rfl
  go_wp2_with fail
  refine HC2.out.mono ?_
  rintro e w6 ⟨z,Y,v1,v2,v3,v4,F1,F2,F3,F4,hY,rfl,hiz,hq,hp,hm⟩
  obtain ⟨m3,hme3⟩:∃m3,(m2.go (bodyR (nodeR (d-1)))).void=m3:=⟨_,rfl⟩
  rw [hme3] at hp
  have HE3:=h_ hme3
  obtain ⟨A1,e1,hv1,_,_⟩:=xacts_slice hq.a1
  obtain ⟨A2,e2,hv2,_,_⟩:=xacts_slice hq.a2
  obtain ⟨A3,e3,hv3,_,_⟩:=DvAt.slice (show DvAt w6 (.row 56 13 z.1.moves.length (z.1.moves.flatMap (dvMove false))) v3 F3 from hq.a3)
  obtain ⟨A4,e4,hv4,_,_⟩:=DvAt.slice (show DvAt w6 (.row 28 9 z.2.length (dvNodes false z.2)) v4 F4 from hq.a4)
  subst hv1 hv2 hv3 hv4
  have HA6':=h_ (HA5.out.mv hm hg5b)
  clear c0 c1 c2 c3 c4 c5 c6 c7 c8
  have c0:=HA6'.out.c 0 rfl
  have f0:=HA6'.out.fr 0
  have c1:=HA6'.out.c 1 rfl
  have f1:=HA6'.out.fr 1
  have c2:=HA6'.out.c 2 rfl
  have f2:=HA6'.out.fr 2
  have c3:=HA6'.out.c 3 rfl
  have f3:=HA6'.out.fr 3
  have c4:=HA6'.out.c 4 rfl
  have f4:=HA6'.out.fr 4
  have c5:=HA6'.out.c 5 rfl
  have f5:=HA6'.out.fr 5
  have c6:=HA6'.out.c 6 rfl
  have f6:=HA6'.out.fr 6
  have c7:=HA6'.out.c 7 rfl
  have f7:=HA6'.out.fr 7
  have c8:=HA6'.out.c 8 rfl
  have f8:=HA6'.out.fr 8
  have hs5:=World.grownBy.size HM5.out
  have hg5W:g5<W5.heap.size:=HA5.out.lt
  obtain ⟨W7,hW7⟩:∃W,W=sets w6 g5 0 [.int .i64 (k:Int),.string X,.string Y,.string ⟨#[]⟩,.slice A1 z.1.enter.length e1,.slice A2 z.1.leave.length e2,.slice A3 z.1.moves.length e3,.slice A4 z.2.length e4,.int .i64 p]:=⟨_,rfl⟩
  have hm7:=sets_mv w6 g5 0 [.int .i64 (k:Int),.string X,.string Y,.string ⟨#[]⟩,.slice A1 z.1.enter.length e1,.slice A2 z.1.leave.length e2,.slice A3 z.1.moves.length e3,.slice A4 z.2.length e4,.int .i64 p]
  rw [←hW7] at hm7
  have HA7:Hid (CB W7 g5 28 [.int .i64 (k:Int),.string X,.string Y,.string ⟨#[]⟩,.slice A1 z.1.enter.length e1,.slice A2 z.1.leave.length e2,.slice A3 z.1.moves.length e3,.slice A4 z.2.length e4,.int .i64 p]):=by rw [hW7];exact HA6'.out.all [.int .i64 (k:Int),.string X,.string Y,.string ⟨#[]⟩,.slice A1 z.1.enter.length e1,.slice A2 z.1.leave.length e2,.slice A3 z.1.moves.length e3,.slice A4 z.2.length e4,.int .i64 p] rfl
  have HR7:=h_ ((HR5.out.mv hm hg4b).mv hm7 (by omega))
  have HM7:Hid (Mv b w W7):=by rw [hW7];exact sets_put (HM5.out.trans hm) hg5w 0 _
  have HP7:Hid (XS W7 b K (D+1) m3):=hp.ch (Ch.of_mv hm7) (fun k e=>by have e':k=g5:=e;omega)
  have HQ7:=h_ (hq.ch (Ch.of_mv hm7) (fun g hg _ e=>by have e':g=g5:=e;omega))
  have HIZ:=h_ hiz
  have HY:=h_ hY
  simp only [sets,Nat.reduceAdd] at hW7
  obtain ⟨d5,e5⟩:=HP7.out.dcell
  obtain ⟨W8,hW8⟩:∃W,W=W7.setCell ⟨b,5,none⟩ (.int .i64 D):=⟨_,rfl⟩
  have hm8:Mv b W7 W8:=by rw [hW8];exact (Mv.refl b W7).set 5 _
  have HP8:Hid (XS W8 b K D m3):=by rw [hW8];exact HP7.out.lev D
  have HA8:=h_ (HA7.out.mv hm8 hg5b)
  have HR8:=h_ (HR7.out.mv hm8 hg4b)
  have HM8:=h_ (HM7.out.trans hm8)
  have HQ8:=h_ (HQ7.out.ch (Ch.of_mv hm8) (fun g hg _ e=>by have e':g=b:=e;have:=HM5.out;omega))
  have hdd:D+1-1=D:=by omega
  have HWX:=h_ hW7
  have HWY:=h_ hW8
  clear hY hiz hq hp hm hme3 hm7 hm8 hW7 hW8 HC2 HA5 HR5 HM5 HP5
  go_upto_region 11 with fail
  rw [←HWX.out]
  clear HWX c0 c1 c2 c3 c4 c5 c6 c7 c8 f0 f1 f2 f3 f4 f5 f6 f7 f8 HA6'
  go_upto_region 12 with fail
  rw [←HWY.out]
  clear HWY d5 e5 hdd
  have HC:=h_ (xmust_s W8 b K D _ HP8.out 4 ⟨#[125]⟩ (by decide))
  go_wp2_with fail
  refine HC.out.mono ?_
  rintro e w9 ⟨rfl,hp,hm⟩
  have HA9:=h_ (HA8.out.mv hm hg5b)
  have HR9:=h_ (HR8.out.mv hm hg4b)
  have HM9:=h_ (HM8.out.trans hm)
  have HP9:=h_ hp
  have HQ9:=h_ (HQ8.out.ch (Ch.of_mv hm) (fun g hg _ e=>by have e':g=b:=e;omega))
  have HEQ:Hid (nodeR d s=(m3.go (mustR 4 [125])).go fun s=>.ok (nodeOf k (x,p) z) s):=by
   show _=_
   rw [node_inner HK.out HK3.out]
   exact state_eq HIS.out HE1.out HE2.out HIZ.out HE3.out
  clear hp hm HC HA7 HR7 HM7 HP7 HQ7 HA8 HR8 HM8 HP8 HQ8
  have c0:=HA9.out.c 0 rfl
  have c1:=HA9.out.c 1 rfl
  have c2:=HA9.out.c 2 rfl
  have c3:=HA9.out.c 3 rfl
  have c4:=HA9.out.c 4 rfl
  have c5:=HA9.out.c 5 rfl
  have c6:=HA9.out.c 6 rfl
  have c7:=HA9.out.c 7 rfl
  have c8:=HA9.out.c 8 rfl
  have d0:=HR9.out.c 0 rfl
  have f0:=HR9.out.fr 0
  have d1:=HR9.out.c 1 rfl
  have f1:=HR9.out.fr 1
  have d2:=HR9.out.c 2 rfl
  have f2:=HR9.out.fr 2
  have d3:=HR9.out.c 3 rfl
  have f3:=HR9.out.fr 3
  have d4:=HR9.out.c 4 rfl
  have f4:=HR9.out.fr 4
  have d5:=HR9.out.c 5 rfl
  have f5:=HR9.out.fr 5
  have d6:=HR9.out.c 6 rfl
  have f6:=HR9.out.fr 6
  have d7:=HR9.out.c 7 rfl
  have f7:=HR9.out.fr 7
  have d8:=HR9.out.c 8 rfl
  have f8:=HR9.out.fr 8
  unfold zNode at HR9
  go_wp2_with fail
  have hres:=HR9.out.all [.int .i64 (k:Int),.string X,.string Y,.string ⟨#[]⟩,.slice A1 z.1.enter.length e1,.slice A2 z.1.leave.length e2,.slice A3 z.1.moves.length e3,.slice A4 z.2.length e4,.int .i64 p] rfl
  have hmf:=sets_put HM9.out hg4w 0 [.int .i64 (k:Int),.string X,.string Y,.string ⟨#[]⟩,.slice A1 z.1.enter.length e1,.slice A2 z.1.leave.length e2,.slice A3 z.1.moves.length e3,.slice A4 z.2.length e4,.int .i64 p]
  have hpf:=HP9.out.sets (g:=g4) (by omega) 0 [.int .i64 (k:Int),.string X,.string Y,.string ⟨#[]⟩,.slice A1 z.1.enter.length e1,.slice A2 z.1.leave.length e2,.slice A3 z.1.moves.length e3,.slice A4 z.2.length e4,.int .i64 p]
  simp only [sets,Nat.reduceAdd] at hres hmf hpf
  refine bodyPost_ret (resNode rfl _ rfl hres) rfl ?_
  have hq9:=HQ9.out.ch (Ch.of_mv (sets_mv _ g4 0 [.int .i64 (k:Int),.string X,.string Y,.string ⟨#[]⟩,.slice A1 z.1.enter.length e1,.slice A2 z.1.leave.length e2,.slice A3 z.1.moves.length e3,.slice A4 z.2.length e4,.int .i64 p])) (fun g hg _ e=>by have e':g=g4:=e;omega)
  simp only [sets,Nat.reduceAdd] at hq9
  refine ⟨nodeOf k (x,p) z,_,rfl,?_,rfl,?_,?_,hmf⟩
  ·exact (Rep.nodeF hq9 HX.out HY.out rfl).mono (by omega)
  ·rw [HEQ.out]
   exact go_ok_is _ _
  ·rw [HEQ.out,go_ok_void]
   exact hpf
theorem xnode_any (b:Nat) (K:Kx):∀(d:Nat) (D:Int),D=12-(d:Int)→d≤12→XNodeC b K D d
 |0,D,hD,hd=>xnode_step b K D 0 hD hd (fun h=>absurd rfl h)
 |d+1,D,hD,hd=>xnode_step b K D (d+1) hD hd (fun _=>xnode_any b K d (D+1) (by omega) (by omega))
def vTail (k:Nat) (s:Ss):Rs SyVar:=(vnameR k s).bind fun x s1=>(mustR 4 [61] s1).bind fun _ s2=>(vnumR s2).bind fun v s3=>(mustR 4 [59] s3).bind fun _ s4=>.ok ⟨x.1,v,x.2⟩ s4
def nmV (k:Nat) (s:Ss):Rs Unit:=if kindOf s.ts=1∧k=16 then stopR 2 s.ts else .ok () s
theorem vname_two (k:Nat) {m:Rs Unit} (h:∀s,m=.ok () s→∃t l,s.ts=t::l):m.go (vnameR k)=(m.go (nmV k)).go nameR:=by
 cases m with
 |out=>rfl
 |bad c p=>rfl
 |ok x s =>
  obtain ⟨t,l,hs⟩:=h s (by cases x;rfl)
  show vnameR k s=(nmV k s).go nameR
  unfold vnameR nmV
  rw [hs]
  have hk:kindOf (t::l)=t.kind:=rfl
  rw [hk]
  simp only
  by_cases h1:t.kind=1
  ·rw [if_pos h1]
   by_cases h2:k=16
   ·rw [if_pos h2,if_pos ⟨h1,h2⟩]
    rfl
   ·rw [if_neg h2,if_neg (fun h=>h2 h.2),Rs.go_ok]
    unfold nameR
    rw [hs]
    simp only [h1,if_true]
  ·rw [if_neg h1,if_neg (fun h=>h1 h.1),Rs.go_ok]
   unfold nameR
   rw [hs]
   simp only [h1,if_false]
theorem vTail_eq {k:Nat} {m m1 m2 m3:Rs Unit} {x:List UInt8} {p z':Int} (h:∀s,m=.ok () s→∃t l,s.ts=t::l) (h1:m.go (nmV k)=m1) (his:(m1.go nameR).is (x,p)) (h2:(m1.go nameR).void=m2) (h3:m2.go (mustR 4 [61])=m3) (hz:(m3.go vnumR).is z') :
  m.go (vTail k)=((m3.go vnumR).void.go (mustR 4 [59])).go fun s=>.ok ⟨x,z',p⟩ s:=by
 have e0:m.go (vTail k)=(m.go (vnameR k)).bind fun x s1=>(mustR 4 [61] s1).bind fun _ s2=>(vnumR s2).bind fun v s3=>(mustR 4 [59] s3).bind fun _ s4=>.ok ⟨x.1,v,x.2⟩ s4:=by
  unfold vTail
  exact go_bind _ _ _
 have e2:(m2.go fun s1=>(mustR 4 [61] s1).bind fun _ s2=>(vnumR s2).bind fun v s3=>(mustR 4 [59] s3).bind fun _ s4=>(.ok ⟨x,v,p⟩ s4:Rs SyVar))=(m3.go vnumR).bind fun v s3=>(mustR 4 [59] s3).bind fun _ s4=>.ok ⟨x,v,p⟩ s4:=by
  rw [←h3,go_go,←go_bind]
  congr 1
  funext s1
  show (mustR 4 [61] s1).bind _=((mustR 4 [61] s1).go vnumR).bind _
  cases mustR 4 [61] s1 <;> rfl
 rw [e0,vname_two k h,h1,Rs.seq his,h2,e2,Rs.seq hz]
 exact (must_fin _ _).symm
theorem vTail_takes (k:Nat) (s:Ss):Takes 1 s (vTail k s) :=
 (Takes.bind (vnameR_takes k s) fun _ _ _=>Takes.bind (mustR_takes _ _ _) fun _ _ _=>Takes.bind (vnumR_takes _) fun _ _ _=>Takes.bind (mustR_takes _ _ _) fun _ _ _=>Takes.ok _ _).mono (by omega)
def varD (d:Bool) (l:List SyVar) (m:Rs Unit):Rs (List SyVar):=if d=true then m.go (fun s=>(vTail l.length s).bind fun v s'=>It varS (l++[v]) s') else m.go fun s=>.ok l s
theorem var_first (l:List SyVar) (m:Rs Unit):m.go (It varS l)=varD (m.tell fun s=>isAt 2 wVar s.ts) l (m.go (skipR 2 wVar)):=by
 cases m with
 |out=>rfl
 |bad c p=>rfl
 |ok x s =>
  show It varS l s=varD (isAt 2 wVar s.ts) l (skipR 2 wVar s)
  rw [It_eq varS_goes]
  unfold varD skipR
  cases h:isAt 2 wVar s.ts with
  |false =>
   unfold varS
   rw [h]
   rfl
  |true =>
   unfold varS
   rw [h]
   have e:((vnameR l.length s.drop).bind fun x s1=>(mustR 4 [61] s1).bind fun _ s2=>(vnumR s2).bind fun v s3=>(mustR 4 [59] s3).bind fun _ s4=>(.ok (l++[⟨x.1,v,x.2⟩],true) s4:Rs (List SyVar×Bool)))=(vTail l.length s.drop).bind fun v s'=>.ok (l++[v],true) s':=by
    unfold vTail
    simp only [Rs.assoc]
    rfl
   rw [if_pos rfl,if_pos rfl,if_pos rfl,e,Rs.assoc]
   rfl
theorem var_next {m:Rs Unit} {l:List SyVar} {v:SyVar} (hv:(m.go (vTail l.length)).is v):varD true l m=varD ((m.go (vTail l.length)).void.tell fun s=>isAt 2 wVar s.ts) (l++[v]) ((m.go (vTail l.length)).void.go (skipR 2 wVar)):=by
 rw [←var_first]
 unfold varD
 rw [if_pos rfl,go_bind,Rs.seq hv]
structure XvIv (w:World) (b:Nat) (K:Kx) (D:Int) (TV:Rs (List SyVar)) (wr:World) (more:Bool) (l:List SyVar) (v:Value) (m:Rs Unit) (F:List Nat):Prop where
 xs:XS wr b K D m
 eq:TV=varD more l m
 row:DvAt wr (dvVars l) v F
 nd:F.Nodup
 lo:∀g∈F,w.heap.size≤g
 mv:Mv b w wr
 ok:more=true→∃s,m=.ok () s∧l.length+s.ts.length≤K.n+1
theorem xvars_s (w:World) (b:Nat) (K:Kx) (D:Int) (m:Rs Unit) (h:XS w b K D m) :
  Calls Tryz.prog 19 #[.pointer (some ⟨b,0,none⟩)] w fun e w'=>∃l v,e=.returned v∧(m.go (It varS [])).is l∧Rep w' w.heap.size [dvVars l] [v]∧XS w' b K D (m.go (It varS [])).void∧Mv b w w':=by
 obtain ⟨TV,hTV⟩:∃TV,m.go (It varS [])=TV:=⟨_,rfl⟩
 rw [hTV]
 have HC:=h_ (xpass_s w b K D m h 2 ⟨#[118,97,114]⟩ (by decide))
 have hbw:=h.blt
 have HN:=h_ h.ok.n
 have HTV:=h_ hTV
 have HM:=h_ (show ∀s,m=.ok () s→s.ts.length≤K.n from fun s e=>by subst e;exact h.len)
 clear h hTV
 go_enter Tryz.func19,Tryz.ntmps19
 go_wp2_with fail
 refine HC.out.mono ?_
 rintro e w1 ⟨rfl,hp,hm⟩
 have HIV:Hid (XvIv w b K D TV w1 (m.tell fun s=>isAt 2 (⟨#[118,97,114]⟩:ByteArray).data.toList s.ts) [] (.slice none 0 0) (m.go (skipR 2 wVar)) []):=by
  refine ⟨hp,by rw [←HTV.out];exact var_first [] m,?_,List.nodup_nil,fun g hg=>(by cases hg),hm,fun hd=>?_⟩
  ·unfold dvVars DvAt
   exact ⟨[],[],World.ownsRow_nil _ 0 _ _,rfl,DvsAt.nil _⟩
  ·obtain ⟨s1,rfl,hs1⟩:=Rs.tell_true hd
   refine ⟨s1.drop,?_,?_⟩
   ·show skipR 2 wVar s1=_
    unfold skipR
    rw [if_pos (show isAt 2 wVar s1.ts=true from hs1)]
   ·have:=HM.out s1 rfl
    have:=drop_le s1
    simp only [List.length_nil]
    omega
 clear hp hm HC HM HTV
 go_wp2_with fail
 go_loopw [3,4] (fun lv s4 wr=>∃more l m2 F,s4=.bool more∧Hid (XvIv w b K D TV wr more l lv m2 F)) (fun _ _ wr=>xleft wr b K.n)
 case atStart=>exact ⟨_,[],_,[],rfl,HIV⟩
 case round =>
  obtain ⟨more,l,m2,F,rfl,HI⟩:=hrel
  clear HIV
  obtain ⟨Al,cl,rfl,_,_⟩:=DvAt.slice (show DvAt wr (.row 51 3 l.length (l.flatMap dvVar)) _ F from HI.out.row)
  cases more with
  |false =>
   have HT:Hid (TV=m2.go fun s=>.ok l s):=HI.out.eq
   go_wp2_with fail
   go_ret
   refine ⟨l,_,rfl,by rw [HT.out];exact go_ok_is _ _,⟨F++[],DvsAt.cons HI.out.row (DvsAt.nil _),by simpa using HI.out.nd,fun g hg=>HI.out.lo g (by simpa using hg)⟩,by rw [HT.out,go_ok_void];exact HI.out.xs,HI.out.mv⟩
  |true =>
   obtain ⟨s,hs,hln⟩:=HI.out.ok rfl
   subst hs
   have HLN:=h_ hln
   have HLE:Hid (xleft wr b K.n=(Rs.ok () s:Rs Unit).leftX):=HI.out.xs.left
   obtain ⟨t,gt,ot,q,r,hA,hq,htk,hxm,hrd,hcl⟩:=HI.out.xs.cells
   obtain ⟨ll,hll⟩:=htk.2 s rfl
   have HTS:Hid (∀s',(Rs.ok () s:Rs Unit)=.ok () s'→∃t l,s'.ts=t::l):=fun s' e=>by have:=(Rs.ok.inj e).2;subst this;exact ⟨t,ll,hll⟩
   have r0:=(hcl wr (fun _ _ h=>h)).1
   have r1:=(hcl wr (fun _ _ h=>h)).2.1
   have r8:=(hcl wr (fun _ _ h=>h)).2.2.2.2.2.2.2.1
   have hq':(q:Int)<K.n:=by omega
   obtain ⟨dk,hdk⟩:∃dk,(t.kind==1)=dk:=⟨_,rfl⟩
   obtain ⟨dl,hdl⟩:∃dl,((l.length:Int)==16)=dl:=⟨_,rfl⟩
   have hdl':(l.length==16)=dl:=by rw [←hdl,Bool.eq_iff_iff,beq_iff_eq,beq_iff_eq];omega
   have HNV:Hid ((Rs.ok () s:Rs Unit).go (nmV l.length)=if (dk&&dl)=true then stopR 2 s.ts else .ok () s):=by
    show nmV l.length s=_
    unfold nmV
    have e1:kindOf s.ts=t.kind:=by rw [hll];rfl
    have e3:(dk&&dl)=decide (kindOf s.ts=1∧l.length=16):=by
     rw [←hdk,←hdl',e1,Bool.eq_iff_iff]
     simp only [Bool.and_eq_true,beq_iff_eq,decide_eq_true_eq]
    rw [e3]
    by_cases h:kindOf s.ts=1∧l.length=16
    ·rw [if_pos h,decide_eq_true h,if_pos rfl]
    ·rw [if_neg h,decide_eq_false h,if_neg (by decide)]
   have hxs:=HI.out.xs
   have HX:=h_ hxs
   have HTA:Hid (∀g o,K.A=some ⟨g,o,none⟩→g<b):=hxs.lt
   clear hcl htk hxm hrd hln hxs
   go_upto_region 4 with fail
   go_cut [26] from 10 to 26 (fun s26 wr2=>s26=.bool (dk&&dl)∧Hid (Below wr.heap.size wr wr2))
   case first =>
    cases dk
    ·go_wp2_with fail
     go_quiet (fail)
     go_wp2_with fail
     go_meet
     exact ⟨rfl,drewN_below wr _⟩
    ·cases dl
     ·go_wp2_with fail
      go_quiet (fail)
      go_wp2_with fail
      go_meet
      exact ⟨rfl,drewN_below wr _⟩
     ·go_wp2_with fail
      go_quiet (fail)
      go_wp2_with fail
      go_meet
      exact ⟨rfl,drewN_below wr _⟩
   case rest =>
   obtain ⟨rfl,HB1⟩:=hcut
   obtain ⟨dA,hdA⟩:∃dA,(dk&&dl)=dA:=⟨_,rfl⟩
   rw [hdA] at HNV ⊢
   have HX1:=h_ (HX.out.below HB1.out)
   clear hdA hdk hdl hdl' r0 r1 r8
   go_upto_if 26 with fail
   obtain ⟨W1,hW1⟩:∃W,W=wc:=⟨_,rfl⟩
   rw [←hW1] at HX1 HB1 ⊢
   clear hW1
   go_cut [] from 27 to 28 (fun wr2=>Hid (XS wr2 b K D ((Rs.ok () s:Rs Unit).go (nmV l.length)))∧Hid (Mv b wr wr2))
   case first =>
    cases dA with
    |true =>
     have HC:=h_ (xstop_s W1 b K D _ HX1.out 2 (by decide))
     go_wp2_with fail
     refine HC.out.mono ?_
     rintro e w4 ⟨rfl,hp,hm⟩
     have HP:=h_ hp
     have HM:=h_ hm
     clear hp hm HC
     go_wp2_with fail
     go_meet
     exact ⟨by rw [HNV.out];exact HP.out,(Mv.of b HB1.out).trans HM.out⟩
    |false =>
     go_wp2_with fail
     go_meet
     exact ⟨by rw [HNV.out];exact HX1.out,Mv.of b HB1.out⟩
   case rest =>
   obtain ⟨HX2,HM2⟩:=hcut
   obtain ⟨m1,hme1⟩:∃m1,(Rs.ok () s:Rs Unit).go (nmV l.length)=m1:=⟨_,rfl⟩
   rw [hme1] at HX2
   have HE1:=h_ hme1
   obtain ⟨g5,hg5⟩:∃g,g=wc.heap.size:=⟨_,rfl⟩
   obtain ⟨W2,hW2⟩:∃W,W=wc.alloc (.cells #[.string ⟨#[]⟩,.int .i64 0,.int .i64 0] 51):=⟨_,rfl⟩
   have hb2:Below wc.heap.size wc W2:=by rw [hW2];exact (b_ _ wc).alloc (n_ _) _
   have HA2:Hid (CB W2 g5 51 [.string ⟨#[]⟩,.int .i64 0,.int .i64 0]):=by rw [hW2,hg5];exact CB.new wc _ [.string ⟨#[]⟩,.int .i64 0,.int .i64 0]
   have HP2:=h_ (HX2.out.below hb2)
   have HM3:Hid (Mv b wr W2):=HM2.out.trans (Mv.of b hb2)
   have hsr:wr.heap.size≤g5:=by have:=World.grownBy.size HM2.out;omega
   have hbr:b<wr.heap.size:=HX.out.blt
   have hg5b:g5≠b:=by omega
   have hbg5:b<g5:=by omega
   have HC:=h_ (xname_s W2 b K D _ HP2.out)
   clear hme1 hb2 HX1 HB1 HX2 HM2 HNV
   go_upto_region 7 with fail
   rw [←hW2,←hg5]
   clear hW2 hg5
   go_wp2_with fail
   refine HC.out.mono ?_
   rintro e w3 ⟨x,X,p,hX,rfl,his,hp,hm⟩
   obtain ⟨m3,hme3⟩:∃m3,(m1.go nameR).void=m3:=⟨_,rfl⟩
   rw [hme3] at hp
   have HE3:=h_ hme3
   have HA3:=h_ (HA2.out.mv hm hg5b)
   have c0:=HA3.out.c 0 rfl
   have f0:=HA3.out.fr 0
   have c2:=HA3.out.c 2 rfl
   have f2:=HA3.out.fr 2
   obtain ⟨W4,hW4⟩:∃W,W=(w3.setCell ⟨g5,0,none⟩ (.string X)).setCell ⟨g5,2,none⟩ (.int .i64 p):=⟨_,rfl⟩
   have hm4:Mv g5 w3 W4:=by rw [hW4];exact ((Mv.refl g5 w3).set 0 _).set 2 _
   have HA4:Hid (CB W4 g5 51 [.string X,.int .i64 0,.int .i64 p]):=by rw [hW4];exact (HA3.out.set 0 _).set 2 _
   have HP4:Hid (XS W4 b K D m3):=hp.ch (Ch.of_mv hm4) (fun k e=>by have e':k=g5:=e;omega)
   have HM4:Hid (Mv b wr W4):=by rw [hW4];exact ((HM3.out.trans hm).put 0 g5 hsr _).put 2 g5 hsr _
   have HIS:=h_ his
   have HX:=h_ hX
   have HWX:=h_ hW4
   clear hX his hp hm hme3 hm4 hW4 HC HA2 HM3 HP2
   go_upto_region 8 with fail
   rw [←HWX.out]
   clear HWX c0 f0 c2 f2 HA3
   have HC:=h_ (xmust_s W4 b K D _ HP4.out 4 ⟨#[61]⟩ (by decide))
   go_wp2_with fail
   refine HC.out.mono ?_
   rintro e w5 ⟨rfl,hp,hm⟩
   obtain ⟨m4,hme4⟩:∃m4,m3.go (mustR 4 [61])=m4:=⟨_,rfl⟩
   replace hp:XS w5 b K D m4:=by rw [←hme4];exact hp
   have HE4:=h_ hme4
   have HA5:=h_ (HA4.out.mv hm hg5b)
   have HM5:=h_ (HM4.out.trans hm)
   have HC2:=h_ (xpass_s w5 b K D m4 hp 4 ⟨#[45]⟩ (by decide))
   obtain ⟨dn,hdn⟩:∃dn,(m4.tell fun s=>isAt 4 [45] s.ts)=dn:=⟨_,rfl⟩
   replace HC2:Hid (Calls Tryz.prog 38 #[.pointer (some ⟨b,0,none⟩),.int .i64 4,.string ⟨#[45]⟩] w5 fun e w'=>e=.returned (.bool dn)∧XS w' b K D (m4.go (skipR 4 [45]))∧Mv b w5 w'):=by rw [←hdn];exact HC2
   have HDN:=h_ hdn
   clear hp hm hme4 HC HA4 HM4 HP4 hdn
   go_wp2_with fail
   refine HC2.out.mono ?_
   rintro e w6 ⟨rfl,hp,hm⟩
   have HA6:=h_ (HA5.out.mv hm hg5b)
   have HM6:=h_ (HM5.out.trans hm)
   have HC3:=h_ (xint_s w6 b K D _ hp)
   clear hp hm HC2 HA5 HM5
   go_wp2_with fail
   refine HC3.out.mono ?_
   rintro e w7 ⟨z,hz0,hz1,rfl,hiz,hp,hm⟩
   have HA7:=h_ (HA6.out.mv hm hg5b)
   have c1:=HA7.out.c 1 rfl
   have f1:=HA7.out.fr 1
   obtain ⟨W8,hW8⟩:∃W,W=w7.setCell ⟨g5,1,none⟩ (.int .i64 z):=⟨_,rfl⟩
   have hm8:Mv g5 w7 W8:=by rw [hW8];exact (Mv.refl g5 w7).set 1 _
   obtain ⟨m5,hme5⟩:∃m5,((m4.go (skipR 4 [45])).go numR).void=m5:=⟨_,rfl⟩
   rw [hme5] at hp
   have HE5:=h_ hme5
   have HA8:Hid (CB W8 g5 51 [.string X,.int .i64 z,.int .i64 p]):=by rw [hW8];exact HA7.out.set 1 _
   have HP8:Hid (XS W8 b K D m5):=hp.ch (Ch.of_mv hm8) (fun k e=>by have e':k=g5:=e;omega)
   have HM8:Hid (Mv b wr W8):=by rw [hW8];exact (HM6.out.trans hm).put 1 g5 hsr _
   have HIZ:=h_ hiz
   have HWX:=h_ hW8
   clear hiz hp hm hme5 hm8 hW8 HC3 HA6 HM6
   go_upto_region 11 with fail
   rw [←HWX.out]
   clear HWX c1 f1 HA7
   go_upto_if 43 with fail
   go_cut [] from 44 to 47 (fun wr2=>Hid (CB wr2 g5 51 [.string X,.int .i64 (if dn=true then -z else z),.int .i64 p])∧Hid (XS wr2 b K D m5)∧Hid (Mv b wr wr2))
   case first =>
    cases dn with
    |false =>
     go_wp2_with fail
     go_meet
     exact ⟨HA8,HP8,HM8⟩
    |true =>
     have c1:=HA8.out.c 1 rfl
     have f1:=HA8.out.fr 1
     have hng:wrap64 (-z)=-z:=Go.IntWalk.wrap64_in _ ⟨by omega,by omega⟩
     go_wp2_with fail
     go_meet
     refine ⟨HA8.out.set 1 _,HP8.out.ch (Ch.of_mv ((Mv.refl g5 W8).set 1 _)) (fun k e=>by have e':k=g5:=e;omega),HM8.out.put 1 g5 hsr _⟩
   case rest =>
   obtain ⟨HA9,HP9,HM9⟩:=hcut
   obtain ⟨zz,hzz⟩:∃zz,(if dn=true then -z else z)=zz:=⟨_,rfl⟩
   rw [hzz] at HA9
   have HVN:Hid ((m4.go vnumR).is zz∧(m4.go vnumR).void=m5):=by
    rw [←HE5.out]
    refine vnum_eq (z:=z) HIZ.out (fun h=>?_) (fun h s' _=>?_)
    ·rw [HDN.out] at h
     rw [←hzz,h]
     rfl
    ·rw [HDN.out] at h
     rw [←hzz,h]
     rfl
   have HC:=h_ (xmust_s wc b K D _ HP9.out 4 ⟨#[59]⟩ (by decide))
   clear hzz hz0 hz1 HA8 HP8 HM8
   go_wp2_with fail
   refine HC.out.mono ?_
   rintro e w10 ⟨rfl,hp,hm⟩
   have HA10:=h_ (HA9.out.mv hm hg5b)
   have hmw:=HM9.out.trans hm
   obtain ⟨m6,hme6⟩:∃m6,((Rs.ok () s:Rs Unit).go (vTail l.length)).void=m6:=⟨_,rfl⟩
   have hvt:=vTail_eq HTS.out HE1.out HIS.out HE3.out HE4.out HVN.out.1
   have hvi:((Rs.ok () s:Rs Unit).go (vTail l.length)).is ⟨x,zz,p⟩:=by rw [hvt];exact go_ok_is _ _
   have hp6:XS w10 b K D m6:=by
    rw [←hme6,hvt,go_ok_void,HVN.out.2]
    exact hp
   have HNX:=h_ (var_next hvi)
   have hbF:∀g∈F,g≠b:=fun g hg e=>by have:=HI.out.lo g hg;omega
   have hfl:=HI.out.row.lt
   have hnl:l.length≤1000000:=by have:=HLN.out;have:=HN.out;omega
   have hrow:DvAt w10 (.row 51 3 l.length (l.flatMap dvVar)) (.slice Al l.length cl) F:=HI.out.row.ch (Ch.of_mv hmw) (fun g hg e=>hbF g hg e)
   have hone:DvsAt w10 (dvVar ⟨x,zz,p⟩) [.string X,.int .i64 zz,.int .i64 p] []:=by
    unfold dvVar
    dsimp only
    rw [HX.out]
    exact DvsAt.v rfl (DvsAt.v rfl (DvsAt.v rfl (DvsAt.nil _)))
   obtain ⟨v',w',F',hr,a1,a2,a3,a4⟩:=app_dv w10 (t:=23) (ty:=23) Tryz.underlying23 infoVar rfl (by decide) (by decide) hrow HI.out.nd hone rfl List.nodup_nil (fun _ _ h=>by cases h) hnl
   have hmsz:=World.grownBy.size hmw
   have hsw:=World.grownBy.size HI.out.mv
   have HP':Hid (XS w' b K D m6):=hp6.ch a4 (fun j hj=>by have:=HI.out.lo j hj;omega)
   have HROW:Hid (DvAt w' (dvVars (l++[⟨x,zz,p⟩])) v' F'∧F'.Nodup∧(∀g∈F',w.heap.size≤g)∧Mv b w w'):=by
    refine ⟨?_,a2,fun g hg=>?_,?_⟩
    ·unfold dvVars
     rw [flat_snoc,List.length_append,List.length_singleton]
     exact a1
    ·rcases a3 g hg with h|h|h
     ·exact HI.out.lo g h
     ·cases h
     ·omega
    ·exact ((Ch.of_mv (HI.out.mv.trans hmw)).trans2 a4 (S:=fun k=>k=b) (fun j hj hs=>by have:=HI.out.lo j hs;omega)).mv (fun _ _ h=>h)
   have HE6:=h_ hme6
   have HRN:=h_ hr
   clear hp hm hmw hme6 hvt hvi hp6 hbF hfl hnl hrow hone hr a1 a2 a3 a4 hmsz hsw HC HA9 HP9 HM9
   go_upto_region 14 with fail
   have c0:=HA10.out.c 0 rfl
   have c1:=HA10.out.c 1 rfl
   have c2:=HA10.out.c 2 rfl
   go_wp2_with (at_builtin;refine Lib.wpList_append_run _ rfl _ _ _ _ rfl _ _ rfl rfl _ _ HRN.out ?_)
   clear c0 c1 c2 HRN HA10
   have HC:=h_ (xpass_s w' b K D m6 HP'.out 2 ⟨#[118,97,114]⟩ (by decide))
   go_wp2_with fail
   refine HC.out.mono ?_
   rintro e w11 ⟨rfl,hp,hm⟩
   have HXV:Hid (XvIv w b K D TV w11 (m6.tell fun s=>isAt 2 (⟨#[118,97,114]⟩:ByteArray).data.toList s.ts) (l++[⟨x,zz,p⟩]) v' (m6.go (skipR 2 wVar)) F'):=by
    obtain ⟨q1,q2,q3,q4⟩:=HROW.out
    have hbw2:∀g∈F',g≠b:=fun g hg e=>by have:=q3 g hg;omega
    refine ⟨hp,?_,q1.ch (Ch.of_mv hm) (fun g hg e=>hbw2 g hg e),q2,q3,q4.trans hm,fun hd=>?_⟩
    ·rw [HI.out.eq,HNX.out,HE6.out]
     rfl
    ·obtain ⟨s1,e1,hs1⟩:=Rs.tell_true hd
     refine ⟨s1.drop,?_,?_⟩
     ·rw [e1]
      show skipR 2 wVar s1=_
      unfold skipR
      rw [if_pos (show isAt 2 wVar s1.ts=true from hs1)]
     ·have h1:=drop_le s1
      have h2:=HLN.out
      have h3:s1.ts.length+1≤s.ts.length:=by
       have e2:=HE6.out
       rw [e1] at e2
       have e3:(vTail l.length s).void=.ok () s1:=e2
       cases hn:vTail l.length s with
       |out=>rw [hn] at e3;cases e3
       |bad c p=>rw [hn] at e3;cases e3
       |ok y s2 =>
        rw [hn] at e3
        have:=(Rs.ok.inj e3).2
        subst this
        exact vTail_takes _ s _ _ hn
      rw [List.length_append,List.length_singleton]
      omega
   have HLX:Hid (xleft w11 b K.n<xleft wr b K.n):=by
    show _<_
    rw [HLE.out,HXV.out.xs.left]
    refine Nat.lt_of_le_of_lt (skip_left m6 2 wVar) ?_
    rw [←HE6.out]
    exact left_less (vTail_takes _ s)
   clear hp hm HC
   go_wp2_with fail
   go_roundw
   case rel=>exact ⟨_,_,_,F',rfl,HXV⟩
   case measure=>exact HLX.out
end Go.Proofs.YtcddbfdbhjkjgaaGreatDoor
