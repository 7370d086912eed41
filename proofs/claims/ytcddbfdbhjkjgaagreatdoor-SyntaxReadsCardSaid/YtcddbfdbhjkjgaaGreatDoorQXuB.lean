import Derived.Test.YtcddbfdbhjkjgaaGreatDoorQh
import Derived.Test.YtcddbfdbhjkjgaaGreatDoorQXtI
import Derived.Test.YtcddbfdbhjkjgaaGreatDoorYF
import Derived.Test.YtcddbfdbhjkjgaaGreatDoorQSzC
set_option maxHeartbeats 12800000
set_option maxRecDepth 20000
namespace Go.Proofs.YtcddbfdbhjkjgaaGreatDoor
open Go.RowKit
theorem rep_noF (W:World) (base:Nat):Rep W base (dvChart false noChart) zChart:=by
 have h1:Rep W base (dvNode false noChart.root) [.int .i64 0,.string ⟨#[]⟩,.string ⟨#[]⟩,.string ⟨#[]⟩,.slice none 0 0,.slice none 0 0,.slice none 0 0,.slice none 0 0,.int .i64 0]:=Rep.nodeF (k:=0) (p:=0) (nm:=[]) (ini:=[]) (dft:=[]) (en:=[]) (le:=[]) (mo:=[]) (ki:=[]) (Q4.nil W base _ _ _ _ _ _ _ _) rfl rfl rfl
 obtain ⟨F,k1,k2,k3⟩:=h1
 refine ⟨[]++F,DvsAt.cons ?_ k1,k2,k3⟩
 unfold dvVars DvAt
 exact ⟨[],[],World.ownsRow_nil W 0 _ _,rfl,DvsAt.nil W⟩
theorem rep_chartF {W:World} {base:Nat} {x:List UInt8} {p:Int} {l:List SyVar} {z:SyB×List SyNode} {v v1 v2 v3 v4:Value} (h:Rep W base [dvVars l,dvActs false z.1.enter,dvActs false z.1.leave,dvMoves false z.1.moves,dvKids false z.2] [v,v1,v2,v3,v4]) {X Y:ByteArray} (hX:txV x=.string X) (hY:txV z.1.initial=.string Y) :
  Rep W base (dvChart false ⟨l,nodeOf 1 (x,p) z⟩) [v,.int .i64 1,.string X,.string Y,.string ⟨#[]⟩,v1,v2,v3,v4,.int .i64 p]:=by
 unfold dvChart nodeOf
 rw [dvNode_mk]
 refine h.mid fun F hF=>?_
 rw [←hX,←hY]
 have:=hF.app (DvsAt.v (w:=W) (u:=.int .i64 p) rfl (DvsAt.nil W))
 rw [List.append_nil] at this
 exact DvsAt.v rfl (DvsAt.v rfl (DvsAt.v rfl (DvsAt.v rfl this)))
def eN (s:Ss):Rs Unit:=if kindOf s.ts=5 then .ok () s else wrongR s.ts
theorem end_eN (m:Rs Unit) (c:SyChart):m.go (endR c)=(m.go eN).go fun s=>.ok c s:=by
 cases m with
 |out=>rfl
 |bad c p=>rfl
 |ok u s =>
  show endR c s=(eN s).go _
  unfold endR eN
  split
  ·rfl
  ·cases s.ts with
   |nil=>rfl
   |cons t r=>rw [wrongR_cons,wrongR_cons];split <;> rfl
theorem XS.start {w:World} {n c:Nat} {A:Option Addr} {xs:List Tk} {b:Nat} (hb:RvB w b ⟨A,n,c,0,0,0,0,0,0,0⟩) (hA:TkAt w A n xs) (hlt:∀g o,A=some ⟨g,o,none⟩→g<b) (hn:n≤100000) (he:TkEnds xs) (hL:∀t∈xs,Lex t) (hT:∀t∈xs,LexT t) :
  XS w b ⟨A,n,c,xs⟩ 0 (.ok () ⟨xs,0,0,0⟩):=by
 have hn0:0<n:=by rw [←hA.1];exact (ends_at he).2
 exact ⟨⟨_,hb,⟨rfl,rfl,rfl⟩,hn0,rfl,rfl,rfl,he,rfl,rfl,rfl,Nat.zero_le _,Nat.zero_le _,Nat.zero_le _⟩,hA,hlt,⟨hn,hL,hT,he⟩⟩
theorem XS.fault {w:World} {b:Nat} {K:Kx} {D:Int} {c p:Int} (h:XS w b K D (.bad c p)):w.cell? ⟨b,6,none⟩=some (.int .i64 c)∧w.cell? ⟨b,7,none⟩=some (.int .i64 p)∧c≠0:=by
 obtain ⟨r,h1,h0,h2,h4,h5⟩:=h.out
 have a:=h1.c6
 have b:=h1.c7
 rw [h5.1] at a
 rw [h5.2.1] at b
 exact ⟨a,b,h5.2.2⟩
def XpEnd (w:World) (R:Rs SyChart) (e:Ending) (w':World):Prop :=
 ∃ys:List Value,e=.returned (.tuple #[.agg ys.toArray,ftV R.fc R.fp])∧Rep w' w.heap.size (dvChart false R.chart) ys∧ys.length=10∧Below w.heap.size w w'
theorem xparse_s (w:World) (S0:ByteArray) :
  Calls Tryz.prog 9 #[.string S0] w (XpEnd w (syF S0.data.toList)):=by
 obtain ⟨g1,hg1⟩:∃g,g=w.heap.size:=⟨_,rfl⟩
 obtain ⟨g2,hg2⟩:∃g,g=w.heap.size+1:=⟨_,rfl⟩
 obtain ⟨Wa,hWa⟩:∃W,W=w.alloc (.cells #[.slice none 0 0,.int .i64 0,.string ⟨#[]⟩,.string ⟨#[]⟩,.string ⟨#[]⟩,.slice none 0 0,.slice none 0 0,.slice none 0 0,.slice none 0 0,.int .i64 0] 30):=⟨_,rfl⟩
 obtain ⟨W0,hW0⟩:∃W,W=Wa.alloc (.cells #[.int .i64 0,.int .i64 0] 33):=⟨_,rfl⟩
 have hsa:Wa.heap.size=w.heap.size+1:=by rw [hWa];simp
 have HX:Hid (CB W0 g1 30 zChart):=by rw [hW0,hWa,hg1];exact (CB.new w _ zChart).alloc _
 have HF:Hid (CB W0 g2 33 [.int .i64 0,.int .i64 0]):=by
  have:=CB.new Wa 33 [.int .i64 0,.int .i64 0]
  rw [hsa,←hg2] at this
  rw [hW0]
  exact this
 have HB0:Hid (Below w.heap.size w W0):=by rw [hW0,hWa];exact ((b_ _ w).alloc (n_ _) _).alloc (by simp) _
 have hord:w.heap.size≤g1∧g1<g2:=by omega
 obtain ⟨S,hS⟩:∃S,scF S0.data.toList=S:=⟨_,rfl⟩
 have HT:=h_ (rtokens_vars W0 S0 S hS)
 have hlen:=scF_len S0.data.toList
 have HLX:=h_ (scF_lex S0.data.toList).1
 have HLT:=h_ (scF_lexT S0.data.toList)
 have HEN:=h_ (@scF_ends S0.data.toList)
 have HRR:Hid (syF S0.data.toList=if S.2.1=0 then syR S.1 else .bad S.2.1 S.2.2):=by show _=_;unfold syF;rw [hS]
 obtain ⟨R,hR⟩:∃R,syF S0.data.toList=R:=⟨_,rfl⟩
 rw [hR] at HRR ⊢
 rw [hS] at hlen HLX HLT HEN
 obtain ⟨xs,sc,sp⟩:=S
 simp only at HT hlen HLX HLT HEN HRR
 obtain ⟨n,hn⟩:∃n,xs.length=n:=⟨_,rfl⟩
 have HLN:=h_ hn
 rw [hn] at hlen HT
 clear hS hR hn hsa
 go_enter Tryz.func9,Tryz.ntmps9
 go_upto_region 1 with fail
 rw [←hWa,←hW0,←hg2,←hg1]
 clear hWa hW0 hg1 hg2
 go_wp2_with fail
 refine HT.out.mono ?_
 rintro e w1 ⟨A,c,rfl,hA0,hnc,hcm,htr,hb⟩
 obtain ⟨g5,hg5⟩:∃g,g=w1.heap.size:=⟨_,rfl⟩
 obtain ⟨W1,hW1⟩:∃W1,W1=w1.alloc (.cells #[.int .i64 sc,.int .i64 sp] 33):=⟨_,rfl⟩
 have hb1:Below w1.heap.size w1 W1:=by rw [hW1];exact (b_ _ w1).alloc (n_ _) _
 have HG1:Hid (FtB W1 g5 (.int .i64 sc) (.int .i64 sp)):=by rw [hW1,hg5];exact FtB.new _ _ _
 have HX1:=h_ ((HX.out.below hb).below hb1)
 have HF1:=h_ ((HF.out.below hb).below hb1)
 have HB1:=h_ ((HB0.out.trans (hb.mono HB0.out.size)).trans (hb1.mono (by have:=HB0.out.size;have:=hb.size;omega)))
 have HTK1:Hid (TkAt W1 A n xs):=(htr.reads).at.below hb1
 have hs1:=hb.size
 have hs1':=hb1.size
 have hg25:g2<g5:=by have:=HF.out.lt;omega
 have HTKL:Hid (∀g o,A=some ⟨g,o,none⟩→0<n→g<W1.heap.size):=fun g o e hn0=>by
  obtain ⟨t,ht⟩:=((htr.reads).at:TkAt w1 A n xs).get hn0
  obtain ⟨g',o',e',x0,_⟩:=((htr.reads).at:TkAt w1 A n xs).2 0 t ht
  rw [e] at e'
  injection e' with e'
  injection e' with e1 _
  rw [e1]
  exact Nat.lt_of_lt_of_le (World.block_lt_of_cell? w1 _ x0) hs1'
 have y0:=HG1.out.c0
 have y1:=HG1.out.c1
 have a0:=HX1.out.c 0 rfl
 have f0:=HX1.out.fr 0
 have a1:=HX1.out.c 1 rfl
 have f1:=HX1.out.fr 1
 have a2:=HX1.out.c 2 rfl
 have f2:=HX1.out.fr 2
 have a3:=HX1.out.c 3 rfl
 have f3:=HX1.out.fr 3
 have a4:=HX1.out.c 4 rfl
 have f4:=HX1.out.fr 4
 have a5:=HX1.out.c 5 rfl
 have f5:=HX1.out.fr 5
 have a6:=HX1.out.c 6 rfl
 have f6:=HX1.out.fr 6
 have a7:=HX1.out.c 7 rfl
 have f7:=HX1.out.fr 7
 have a8:=HX1.out.c 8 rfl
 have f8:=HX1.out.fr 8
 have a9:=HX1.out.c 9 rfl
 have f9:=HX1.out.fr 9
 have k0:=HF1.out.c 0 rfl
 have k1:=HF1.out.c 1 rfl
 have j0:=HF1.out.fr 0
 have j1:=HF1.out.fr 1
 clear hb hb1 HT HX HF HB0 htr hA0 hcm
 go_upto_region 2 with fail
 rw [←hW1,←hg5]
 clear hW1 hg5
 by_cases h0:sc=0
 ·subst h0
  have HE:=h_ (HEN.out rfl)
  have HRS:Hid (R=syR xs):=by show _=_;rw [HRR.out,if_pos rfl]
  have hn0:0<n:=by rw [←HTK1.out.1];exact (ends_at HE.out).2
  obtain ⟨b,hb6⟩:∃g,g=W1.heap.size:=⟨_,rfl⟩
  obtain ⟨W2,hW2⟩:∃W2,W2=W1.alloc (.cells #[.slice A n c,.int .i64 0,.int .i64 0,.int .i64 0,.int .i64 0,.int .i64 0,.int .i64 0,.int .i64 0] 64):=⟨_,rfl⟩
  have hb2:Below W1.heap.size W1 W2:=by rw [hW2];exact (b_ _ W1).alloc (n_ _) _
  have HP2:Hid (XS W2 b ⟨A,n,c,xs⟩ 0 (.ok () ⟨xs,0,0,0⟩)):=by
   refine XS.start ?_ (HTK1.out.below hb2) (fun g o e=>by have:=HTKL.out g o e hn0;omega) (by omega) HE.out HLX.out HLT.out
   rw [hW2,hb6]
   exact heap_alloc_new W1 _
  obtain ⟨K,hK⟩:∃K,K=(⟨A,n,c,xs⟩:Kx):=⟨_,rfl⟩
  rw [←hK] at HP2
  have HX2:=h_ (HX1.out.below hb2)
  have HF2:=h_ (HF1.out.below hb2)
  have HM2:Hid (Below w.heap.size w W2):=HB1.out.trans (hb2.mono HB1.out.size)
  have hw1:=HB1.out.size
  have hgb:g2<b:=by have:=HF1.out.lt;omega
  have hbw:w.heap.size≤b:=by omega
  obtain ⟨m0,hme0⟩:∃m0:Rs Unit,m0=.ok () ⟨xs,0,0,0⟩:=⟨_,rfl⟩
  rw [←hme0] at HP2
  have HE0:Hid (R=m0.go chartR):=by show _=_;rw [HRS.out,hme0];rfl
  have HC:=h_ (xmust_s W2 b K 0 _ HP2.out 2 ⟨#[99,104,97,114,116]⟩ (by decide))
  have HWX:=h_ hW2
  have HBB:=h_ hb6
  clear hb2 HRR HEN HLX HLT HE HTK1 HTKL HX1 HF1 HRS hme0 hW2 hb6 hK a0 a1 a2 a3 a4 a5 a6 a7 a8 a9 f0 f1 f2 f3 f4 f5 f6 f7 f8 f9 k0 k1 j0 j1 hw1
  go_upto_region 5 with fail
  rw [←HWX.out,←HBB.out]
  clear HWX HBB y0 y1
  go_wp2_with fail
  refine HC.out.mono ?_
  rintro e w2 ⟨rfl,hp,hm⟩
  obtain ⟨m1,hme1⟩:∃m1,m0.go (mustR 2 wChart)=m1:=⟨_,rfl⟩
  replace hp:XS w2 b K 0 m1:=by rw [←hme1];exact hp
  have HE1:=h_ hme1
  obtain ⟨g7,hg7⟩:∃g,g=w2.heap.size:=⟨_,rfl⟩
  obtain ⟨W3,hW3⟩:∃W,W=w2.alloc (.cells #[.slice none 0 0,.int .i64 0,.string ⟨#[]⟩,.string ⟨#[]⟩,.string ⟨#[]⟩,.slice none 0 0,.slice none 0 0,.slice none 0 0,.slice none 0 0,.int .i64 0] 30):=⟨_,rfl⟩
  have hb3:Below w2.heap.size w2 W3:=by rw [hW3];exact (b_ _ w2).alloc (n_ _) _
  have HA3:Hid (CB W3 g7 30 zChart):=by rw [hW3,hg7];exact CB.new w2 _ zChart
  have hbg7:b<g7:=by have:=hp.blt;omega
  have hg7W:W2.heap.size≤g7:=by have:=World.grownBy.size hm;omega
  have hn7b:g7≠b:=by omega
  have hM3:Mv b W2 W3:=hm.trans (Mv.of b hb3)
  have HX3:=h_ (HX2.out.mv hM3 (by omega))
  have HF3:=h_ (HF2.out.mv hM3 (by omega))
  have HP3:=h_ (hp.below hb3)
  have HM3:=h_ hM3
  have HC2:=h_ (xnamed_s W3 b K 0 12 m1 1 HP3.out (by decide) (by decide))
  clear hp hm hme1 hb3 hM3 HC HP2
  go_upto_region 7 with fail
  rw [←hW3,←hg7]
  clear hW3 hg7
  go_wp2_with fail
  refine HC2.out.mono ?_
  rintro e w3 ⟨x,X,p,hX,rfl,his,hp,hm⟩
  obtain ⟨m2,hme2⟩:∃m2,(m1.go (namedR 12)).void=m2:=⟨_,rfl⟩
  rw [hme2] at hp
  have HE2:=h_ hme2
  obtain ⟨g8,hg8⟩:∃g,g=w3.heap.size:=⟨_,rfl⟩
  obtain ⟨W4,hW4⟩:∃W,W=w3.alloc (.cells #[.int .i64 1,.string X,.string ⟨#[]⟩,.string ⟨#[]⟩,.slice none 0 0,.slice none 0 0,.slice none 0 0,.slice none 0 0,.int .i64 p] 28):=⟨_,rfl⟩
  have hb4:Below w3.heap.size w3 W4:=by rw [hW4];exact (b_ _ w3).alloc (n_ _) _
  have HA4:=h_ ((HA3.out.mv hm hn7b).below hb4)
  have HN4:Hid (CB W4 g8 28 [.int .i64 1,.string X,.string ⟨#[]⟩,.string ⟨#[]⟩,.slice none 0 0,.slice none 0 0,.slice none 0 0,.slice none 0 0,.int .i64 p]):=by rw [hW4,hg8];exact CB.new w3 _ [.int .i64 1,.string X,.string ⟨#[]⟩,.string ⟨#[]⟩,.slice none 0 0,.slice none 0 0,.slice none 0 0,.slice none 0 0,.int .i64 p]
  have hg78:g7<g8:=by have:=(HA3.out.mv hm hn7b).lt;omega
  have hn8b:g8≠b:=by omega
  have hM4:Mv b W3 W4:=hm.trans (Mv.of b hb4)
  have HX4:=h_ (HX3.out.mv hM4 (by omega))
  have HF4:=h_ (HF3.out.mv hM4 (by omega))
  have HP4:=h_ (hp.below hb4)
  have HM4:=h_ (HM3.out.trans hM4)
  have HIS:=h_ his
  have HXX:=h_ hX
  have HC:=h_ (xmust_s W4 b K 0 _ HP4.out 4 ⟨#[123]⟩ (by decide))
  clear hX his hp hm hme2 hb4 hM4 HC2 HA3 HX3 HF3 HP3 HM3
  go_upto_region 8 with fail
  rw [←hW4,←hg8]
  clear hW4 hg8
  go_wp2_with fail
  refine HC.out.mono ?_
  rintro e w4 ⟨rfl,hp,hm⟩
  obtain ⟨m3,hme3⟩:∃m3,m2.go (mustR 4 [123])=m3:=⟨_,rfl⟩
  replace hp:XS w4 b K 0 m3:=by rw [←hme3];exact hp
  have HE3:=h_ hme3
  have HA5:=h_ (HA4.out.mv hm hn7b)
  have HN5:=h_ (HN4.out.mv hm hn8b)
  have HX5:=h_ (HX4.out.mv hm (by omega))
  have HF5:=h_ (HF4.out.mv hm (by omega))
  have HM5:=h_ (HM4.out.trans hm)
  have HC2:=h_ (xvars_s w4 b K 0 m3 hp)
  clear hp hm hme3 HC HA4 HN4 HX4 HF4 HP4 HM4
  go_wp2_with fail
  refine HC2.out.mono ?_
  rintro e w5 ⟨l,v,rfl,hil,hrv,hp,hm⟩
  obtain ⟨Av,nl,cv,rfl⟩:=hrv.slice
  obtain ⟨m4,hme4⟩:∃m4,(m3.go (It varS [])).void=m4:=⟨_,rfl⟩
  rw [hme4] at hp
  have HE4:=h_ hme4
  have hs4:g8<w4.heap.size:=HN5.out.lt
  have HA6':=h_ (HA5.out.mv hm hn7b)
  have ha6:=HA6'.out
  unfold zChart at ha6
  have HA6:=h_ ha6
  have c0:=HA6.out.c 0 rfl
  have f0:=HA6.out.fr 0
  obtain ⟨d5,e5⟩:=hp.dcell
  have d5':(w5.setCell ⟨g7,0,none⟩ (.slice Av nl cv)).cell? ⟨b,5,none⟩=some (.int .i64 0):=(hp.ch (Ch.of_mv ((Mv.refl g7 w5).set 0 (.slice Av nl cv))) (fun k e=>by have e':k=g7:=e;omega)).dcell.1
  have e5':(w5.setCell ⟨g7,0,none⟩ (.slice Av nl cv)).frozen? ⟨b,5,none⟩=false:=(hp.ch (Ch.of_mv ((Mv.refl g7 w5).set 0 (.slice Av nl cv))) (fun k e=>by have e':k=g7:=e;omega)).dcell.2
  obtain ⟨W6,hW6⟩:∃W,W=(w5.setCell ⟨g7,0,none⟩ (.slice Av nl cv)).setCell ⟨b,5,none⟩ (.int .i64 1):=⟨_,rfl⟩
  have hm6g:Mv g7 w5 (w5.setCell ⟨g7,0,none⟩ (.slice Av nl cv)):=(Mv.refl g7 w5).set 0 _
  have hm6b:Mv b (w5.setCell ⟨g7,0,none⟩ (.slice Av nl cv)) W6:=by rw [hW6];exact (Mv.refl b _).set 5 _
  have hc6:Ch (fun k=>k=b∨k=g7) w5 W6:=((Ch.of_mv hm6g).mono (fun _ _ h=>.inr h)).trans ((Ch.of_mv hm6b).mono (fun _ _ h=>.inl h))
  have HP6:Hid (XS W6 b K 1 m4):=by rw [hW6];exact (hp.ch (Ch.of_mv hm6g) (fun k e=>by have e':k=g7:=e;omega)).lev 1
  have HA7:Hid (CB W6 g7 30 [.slice Av nl cv,.int .i64 0,.string ⟨#[]⟩,.string ⟨#[]⟩,.string ⟨#[]⟩,.slice none 0 0,.slice none 0 0,.slice none 0 0,.slice none 0 0,.int .i64 0]):=((HA6.out.set 0 (.slice Av nl cv))).mv hm6b hn7b
  have HN7:=h_ ((HN5.out.mv hm hn8b).ch hc6 (fun e=>by rcases e with e|e <;> omega))
  have HX7:=h_ ((HX5.out.mv hm (by omega)).ch hc6 (fun e=>by rcases e with e|e <;> omega))
  have HF7:=h_ ((HF5.out.mv hm (by omega)).ch hc6 (fun e=>by rcases e with e|e <;> omega))
  have hs5:=World.grownBy.size hm
  have hs24:=World.grownBy.size HM5.out
  have hs56:=hc6.size
  have HCH7:Hid (Ch (fun k=>k=b∨W2.heap.size≤k) W2 W6):=(((Ch.of_mv HM5.out).trans (Ch.of_mv hm)).mono (fun _ _ h=>.inl h)).trans2 hc6 (fun j hj h=>by
   rcases h with h|h
   ·exact .inl h
   ·exact .inr (by have:=HX5.out.lt;omega))
  obtain ⟨FV,hdV,hnV,hlV⟩:=hrv.one
  have hdV6:DvAt W6 (dvVars l) (.slice Av nl cv) FV:=hdV.ch hc6 (fun g hg e=>by have:=hlV g hg;rcases e with e|e <;> omega)
  have HDV:=h_ (And.intro hdV6 (And.intro hnV (fun g hg=>And.intro (hlV g hg) (hdV6.lt g hg))))
  have HIL:=h_ hil
  have HC:=h_ (xbody_s W6 b K 1 11 m4 1 X p HP6.out (fun _=>xnode_any b K 11 1 (by decide) (by decide)))
  have HWX:=h_ hW6
  clear hil hrv hp hm hme4 ha6 hW6 hm6g hm6b hc6 hdV hnV hlV hdV6 HC2 HA5 HN5 HX5 HF5 HM5
  go_upto_region 11 with fail
  rw [←HWX.out]
  clear HWX c0 f0 d5 e5 d5' e5' HA6 HA6'
  have c0:=HN7.out.c 0 rfl
  have c1:=HN7.out.c 1 rfl
  have c2:=HN7.out.c 2 rfl
  have c3:=HN7.out.c 3 rfl
  have c4:=HN7.out.c 4 rfl
  have c5:=HN7.out.c 5 rfl
  have c6:=HN7.out.c 6 rfl
  have c7:=HN7.out.c 7 rfl
  have c8:=HN7.out.c 8 rfl
  go_wp2_with fail
  refine HC.out.mono ?_
  rintro e w7 ⟨z,Y,v1,v2,v3,v4,F1,F2,F3,F4,hY,rfl,hiz,hq,hp,hm⟩
  obtain ⟨m5,hme5⟩:∃m5,(m4.go (bodyR (nodeR 11))).void=m5:=⟨_,rfl⟩
  rw [hme5] at hp
  have HE5:=h_ hme5
  obtain ⟨A1,e1,hv1,_,_⟩:=xacts_slice hq.a1
  obtain ⟨A2,e2,hv2,_,_⟩:=xacts_slice hq.a2
  obtain ⟨A3,e3,hv3,_,_⟩:=DvAt.slice (show DvAt w7 (.row 56 13 z.1.moves.length (z.1.moves.flatMap (dvMove false))) v3 F3 from hq.a3)
  obtain ⟨A4,e4,hv4,_,_⟩:=DvAt.slice (show DvAt w7 (.row 28 9 z.2.length (dvNodes false z.2)) v4 F4 from hq.a4)
  subst hv1 hv2 hv3 hv4
  have HA8:=h_ (HA7.out.mv hm hn7b)
  clear c0 c1 c2 c3 c4 c5 c6 c7 c8
  have c1:=HA8.out.c 1 rfl
  have f1:=HA8.out.fr 1
  have c2:=HA8.out.c 2 rfl
  have f2:=HA8.out.fr 2
  have c3:=HA8.out.c 3 rfl
  have f3:=HA8.out.fr 3
  have c4:=HA8.out.c 4 rfl
  have f4:=HA8.out.fr 4
  have c5:=HA8.out.c 5 rfl
  have f5:=HA8.out.fr 5
  have c6:=HA8.out.c 6 rfl
  have f6:=HA8.out.fr 6
  have c7:=HA8.out.c 7 rfl
  have f7:=HA8.out.fr 7
  have c8:=HA8.out.c 8 rfl
  have f8:=HA8.out.fr 8
  have c9:=HA8.out.c 9 rfl
  have f9:=HA8.out.fr 9
  obtain ⟨W8,hW8⟩:∃W,W=sets w7 g7 1 [.int .i64 1,.string X,.string Y,.string ⟨#[]⟩,.slice A1 z.1.enter.length e1,.slice A2 z.1.leave.length e2,.slice A3 z.1.moves.length e3,.slice A4 z.2.length e4,.int .i64 p]:=⟨_,rfl⟩
  have hm8:=sets_mv w7 g7 1 [.int .i64 1,.string X,.string Y,.string ⟨#[]⟩,.slice A1 z.1.enter.length e1,.slice A2 z.1.leave.length e2,.slice A3 z.1.moves.length e3,.slice A4 z.2.length e4,.int .i64 p]
  rw [←hW8] at hm8
  have HA9:Hid (CB W8 g7 30 [.slice Av nl cv,.int .i64 1,.string X,.string Y,.string ⟨#[]⟩,.slice A1 z.1.enter.length e1,.slice A2 z.1.leave.length e2,.slice A3 z.1.moves.length e3,.slice A4 z.2.length e4,.int .i64 p]):=by rw [hW8];exact CB.many [.int .i64 1,.string X,.string Y,.string ⟨#[]⟩,.slice A1 z.1.enter.length e1,.slice A2 z.1.leave.length e2,.slice A3 z.1.moves.length e3,.slice A4 z.2.length e4,.int .i64 p] 1 HA8.out (by simp)
  have HP9:Hid (XS W8 b K 1 m5):=hp.ch (Ch.of_mv hm8) (fun k e=>by have e':k=g7:=e;omega)
  have HX9:=h_ ((HX7.out.mv hm (by omega)).mv hm8 (by omega))
  have HF9:=h_ ((HF7.out.mv hm (by omega)).mv hm8 (by omega))
  have hs6:=HA7.out.lt
  have hs67:=World.grownBy.size hm
  have hsW26:W2.heap.size≤W6.heap.size:=HCH7.out.size
  have hXlt:=HX2.out.lt
  have HCH9:Hid (Ch (fun k=>k=b∨W2.heap.size≤k) W2 W8):=(HCH7.out.trans2 (Ch.of_mv hm) (fun j hj h=>.inl h)).trans2 (Ch.of_mv hm8) (fun j hj h=>by have h':j=g7:=h;exact .inr (by omega))
  have HQ9:=h_ (hq.ch (Ch.of_mv hm8) (fun g hg _ e=>by have e':g=g7:=e;omega))
  have HDV9:Hid (DvAt W8 (dvVars l) (.slice Av nl cv) FV):=(HDV.out.1.ch (Ch.of_mv hm) (fun g hg e=>by have e':g=b:=e;have:=(HDV.out.2.2 g hg).1;omega)).ch (Ch.of_mv hm8) (fun g hg e=>by have e':g=g7:=e;have:=(HDV.out.2.2 g hg).1;omega)
  have HIZ:=h_ hiz
  have HYY:=h_ hY
  simp only [sets,Nat.reduceAdd] at hW8
  have HWX:=h_ hW8
  have HC2:=h_ (xmust_s W8 b K 1 _ HP9.out 4 ⟨#[125]⟩ (by decide))
  clear hY hiz hq hp hm hme5 hm8 hW8 HC HA7 HN7 HX7 HF7 HP6
  go_upto_region 12 with fail
  rw [←HWX.out]
  clear HWX c1 f1 c2 f2 c3 f3 c4 f4 c5 f5 c6 f6 c7 f7 c8 f8 c9 f9 HA8
  go_wp2_with fail
  refine HC2.out.mono ?_
  rintro e w9 ⟨rfl,hp,hm⟩
  obtain ⟨m6,hme6⟩:∃m6,m5.go (mustR 4 [125])=m6:=⟨_,rfl⟩
  replace hp:XS w9 b K 1 m6:=by rw [←hme6];exact hp
  have HE6:=h_ hme6
  have HAx:=h_ (HA9.out.mv hm hn7b)
  have HXx:=h_ (HX9.out.mv hm (by omega))
  have HFx:=h_ (HF9.out.mv hm (by omega))
  have HCHx:Hid (Ch (fun k=>k=b∨W2.heap.size≤k) W2 w9):=HCH9.out.trans2 (Ch.of_mv hm) (fun j hj h=>.inl h)
  have HQx:=h_ (HQ9.out.ch (Ch.of_mv hm) (fun g hg _ e=>by have e':g=b:=e;omega))
  have HDVx:Hid (DvAt w9 (dvVars l) (.slice Av nl cv) FV):=HDV9.out.ch (Ch.of_mv hm) (fun g hg e=>by have e':g=b:=e;have:=(HDV.out.2.2 g hg).1;omega)
  have HPx:=h_ hp
  have HEQ:Hid (R=(m6.go eN).go fun s=>.ok ⟨l,nodeOf 1 (x,p) z⟩ s):=by
   show _=_
   have hch:=chR_eq (m:=m3) (m1:=m4) (l:=l) (z:=z) HIL.out HE4.out HIZ.out
   rw [HE0.out,chart_eq HE1.out HIS.out HE2.out HE3.out (by rw [hch];exact go_ok_is _ _) (by rw [hch,go_ok_void,HE5.out]) HE6.out]
   exact end_eN _ _
  obtain ⟨t,gt,ot,q,r,hA,hq,htk,hxm,hrd,hcl⟩:=hp.cells
  have r0:=(hcl w9 (fun _ _ h=>h)).1
  have r1:=(hcl w9 (fun _ _ h=>h)).2.1
  have r6:=(hcl w9 (fun _ _ h=>h)).2.2.2.2.2.2.1
  have r8:=(hcl w9 (fun _ _ h=>h)).2.2.2.2.2.2.2.1
  have hq':(q:Int)<K.n:=by omega
  obtain ⟨dc,hdc⟩:∃dc,(r.code==0)=dc:=⟨_,rfl⟩
  obtain ⟨dk,hdk⟩:∃dk,(t.kind != 5)=dk:=⟨_,rfl⟩
  have HEE:Hid (m6.go eN=if (dc&&dk)=true then m6.go (fun s=>wrongR s.ts) else m6):=by
   show _=_
   have hcode:=hxm.code
   rw [hdc] at hcode
   cases m6 with
   |out=>exact hxm.elim
   |bad c p=>split <;> rfl
   |ok u s =>
    obtain ⟨ll,hll⟩:=htk.2 s (by cases u;rfl)
    obtain rfl:dc=true:=hcode
    show eN s=_
    unfold eN
    have e1:kindOf s.ts=t.kind:=by rw [hll];rfl
    rw [e1,Bool.true_and,←hdk]
    by_cases h:t.kind=5
    ·have h5:(t.kind != 5)=false:=by rw [h];rfl
     rw [if_pos h,h5,if_neg (by decide)]
    ·have h5:(t.kind != 5)=true:=by simpa [bne] using h
     rw [if_neg h,h5,if_pos rfl]
     rfl
  clear hp hm hme6 hcl htk hxm hrd HC2 HA9 HX9 HF9 HCH9 HQ9 HDV9 HP9
  go_upto_region 13 with fail
  go_cut [64] from 45 to 64 (fun s64 wr=>s64=.bool (dc&&dk)∧Hid (Below w9.heap.size w9 wr))
  case first =>
   cases dc
   ·go_wp2_with fail
    go_quiet (fail)
    go_wp2_with fail
    go_meet
    exact ⟨rfl,drewN_below w9 _⟩
   ·cases dk
    ·go_wp2_with fail
     go_quiet (fail)
     go_wp2_with fail
     go_meet
     exact ⟨rfl,drewN_below w9 _⟩
    ·go_wp2_with fail
     go_quiet (fail)
     go_wp2_with fail
     go_meet
     exact ⟨rfl,drewN_below w9 _⟩
  case rest =>
  obtain ⟨rfl,HBY⟩:=hcut
  obtain ⟨dA,hdA⟩:∃dA,(dc&&dk)=dA:=⟨_,rfl⟩
  rw [hdA] at HEE ⊢
  have HPy:=h_ (HPx.out.below HBY.out)
  clear hdA hdc hdk r0 r1 r6 r8
  go_upto_if 64 with fail
  obtain ⟨Wy,hWy⟩:∃W,W=wc:=⟨_,rfl⟩
  rw [←hWy] at HPy HBY ⊢
  clear hWy
  go_cut [] from 65 to 66 (fun wr=>Hid (XS wr b K 1 (m6.go eN))∧Hid (Mv b w9 wr))
  case first =>
   cases dA with
   |true =>
    have HC:=h_ (xwrong_s Wy b K 1 _ HPy.out)
    go_wp2_with fail
    refine HC.out.mono ?_
    rintro e w4 ⟨rfl,hp,hm⟩
    have HP:=h_ hp
    have HM:=h_ hm
    clear hp hm HC
    go_wp2_with fail
    go_meet
    exact ⟨by rw [HEE.out];exact HP.out,(Mv.of b HBY.out).trans HM.out⟩
   |false =>
    go_wp2_with fail
    go_meet
    exact ⟨by rw [HEE.out];exact HPy.out,Mv.of b HBY.out⟩
  case rest =>
  obtain ⟨HPz,HMz⟩:=hcut
  obtain ⟨m7,hme7⟩:∃m7,m6.go eN=m7:=⟨_,rfl⟩
  rw [hme7] at HPz HEQ
  have HAz:=h_ (HAx.out.mv HMz.out hn7b)
  have HXz:=h_ (HXx.out.mv HMz.out (by omega))
  have HFz:=h_ (HFx.out.mv HMz.out (by omega))
  have HCHz:Hid (Ch (fun k=>k=b∨W2.heap.size≤k) W2 wc):=HCHx.out.trans2 (Ch.of_mv HMz.out) (fun j hj h=>.inl h)
  have HQz:=h_ (HQx.out.ch (Ch.of_mv HMz.out) (fun g hg _ e=>by have e':g=b:=e;omega))
  have HDVz:Hid (DvAt wc (dvVars l) (.slice Av nl cv) FV):=HDVx.out.ch (Ch.of_mv HMz.out) (fun g hg e=>by have e':g=b:=e;have:=(HDV.out.2.2 g hg).1;omega)
  have HBz:Hid (Below w.heap.size w wc):=((Ch.of_below (S:=fun k=>w.heap.size≤k) HM2.out).trans2 HCHz.out (fun j hj h=>by rcases h with h|h;omega;have:=HM2.out.size;omega)).below (fun k hk h=>by omega)
  have hwz:=HBz.out.size
  clear hme7 HEE HAx HXx HFx HCHx HQx HDVx HPx HPy HBY
  have a0:=HXz.out.c 0 rfl
  have f0:=HXz.out.fr 0
  have a1:=HXz.out.c 1 rfl
  have f1:=HXz.out.fr 1
  have a2:=HXz.out.c 2 rfl
  have f2:=HXz.out.fr 2
  have a3:=HXz.out.c 3 rfl
  have f3:=HXz.out.fr 3
  have a4:=HXz.out.c 4 rfl
  have f4:=HXz.out.fr 4
  have a5:=HXz.out.c 5 rfl
  have f5:=HXz.out.fr 5
  have a6:=HXz.out.c 6 rfl
  have f6:=HXz.out.fr 6
  have a7:=HXz.out.c 7 rfl
  have f7:=HXz.out.fr 7
  have a8:=HXz.out.c 8 rfl
  have f8:=HXz.out.fr 8
  have a9:=HXz.out.c 9 rfl
  have f9:=HXz.out.fr 9
  have k0:=HFz.out.c 0 rfl
  have k1:=HFz.out.c 1 rfl
  have j0:=HFz.out.fr 0
  have j1:=HFz.out.fr 1
  cases m7 with
  |out=>exact absurd rfl HPz.out.notOut
  |bad cc pp =>
   obtain ⟨p6,p7,pz⟩:=HPz.out.fault
   have hwn:(cc != 0)=true:=by simpa [bne] using pz
   have HRB:Hid (R=.bad cc pp):=HEQ.out
   clear pz HEQ
   go_wp2_with fail
   go_region
   go_wp2_with fail
   obtain ⟨W9,hW9⟩:∃W,W=sets (sets wc g1 0 zChart) g2 0 [.int .i64 cc,.int .i64 pp]:=⟨_,rfl⟩
   have hS1:CB W9 g1 30 zChart:=by rw [hW9];exact (HXz.out.all zChart rfl).mv (sets_mv _ g2 0 _) (by omega)
   have hS2:FtB W9 g2 (.int .i64 cc) (.int .i64 pp):=by rw [hW9];exact (HFz.out.mv (sets_mv _ g1 0 _) (by omega)).all [.int .i64 cc,.int .i64 pp] rfl
   have hP9:Below w.heap.size w W9:=by rw [hW9];exact sets_below (sets_below HBz.out (by omega) 0 _) (by omega) 0 _
   simp only [sets,Nat.reduceAdd,zChart] at hW9
   rw [←hW9]
   clear hW9
   refine bodyPost_ret (resCF (w:=W9.drew) rfl _ rfl rfl hS1 hS2) rfl ?_
   exact ⟨zChart,by rw [HRB.out];rfl,by rw [HRB.out];exact rep_noF _ _,rfl,hP9.drew⟩
  |ok u s9 =>
   obtain ⟨cc,p6,hcc⟩:=HPz.out.code
   rw [Rs.tell_ok] at hcc
   have hwn:(cc != 0)=false:=by simp [bne,hcc]
   have HRB:Hid (R=.ok ⟨l,nodeOf 1 (x,p) z⟩ s9):=HEQ.out
   clear HEQ
   have c0:=HAz.out.c 0 rfl
   have c1:=HAz.out.c 1 rfl
   have c2:=HAz.out.c 2 rfl
   have c3:=HAz.out.c 3 rfl
   have c4:=HAz.out.c 4 rfl
   have c5:=HAz.out.c 5 rfl
   have c6:=HAz.out.c 6 rfl
   have c7:=HAz.out.c 7 rfl
   have c8:=HAz.out.c 8 rfl
   have c9:=HAz.out.c 9 rfl
   go_wp2_with fail
   obtain ⟨W9,hW9⟩:∃W,W=sets (sets wc g1 0 [.slice Av nl cv,.int .i64 1,.string X,.string Y,.string ⟨#[]⟩,.slice A1 z.1.enter.length e1,.slice A2 z.1.leave.length e2,.slice A3 z.1.moves.length e3,.slice A4 z.2.length e4,.int .i64 p]) g2 0 [.int .i64 0,.int .i64 0]:=⟨_,rfl⟩
   have hS1:CB W9 g1 30 [.slice Av nl cv,.int .i64 1,.string X,.string Y,.string ⟨#[]⟩,.slice A1 z.1.enter.length e1,.slice A2 z.1.leave.length e2,.slice A3 z.1.moves.length e3,.slice A4 z.2.length e4,.int .i64 p]:=by rw [hW9];exact (HXz.out.all [.slice Av nl cv,.int .i64 1,.string X,.string Y,.string ⟨#[]⟩,.slice A1 z.1.enter.length e1,.slice A2 z.1.leave.length e2,.slice A3 z.1.moves.length e3,.slice A4 z.2.length e4,.int .i64 p] rfl).mv (sets_mv _ g2 0 _) (by omega)
   have hS2:FtB W9 g2 (.int .i64 0) (.int .i64 0):=by rw [hW9];exact (HFz.out.mv (sets_mv _ g1 0 _) (by omega)).all [.int .i64 0,.int .i64 0] rfl
   have hP9:Below w.heap.size w W9:=by rw [hW9];exact sets_below (sets_below HBz.out (by omega) 0 _) (by omega) 0 _
   have hC9:Ch (fun k=>k=g1∨k=g2) wc W9:=by rw [hW9];exact Ch.many (.inl (.inr rfl)) _ 0 (Ch.many (.inl (.inl rfl)) _ 0 (Ch.refl _ _))
   have hq9:=HQz.out.ch hC9 (fun g hg _ e=>by rcases e with e|e <;> omega)
   have hd9:DvAt W9 (dvVars l) (.slice Av nl cv) FV:=HDVz.out.ch hC9 (fun g hg e=>by have:=(HDV.out.2.2 g hg).1;rcases e with e|e <;> omega)
   have hrep:=rep_chartF (x:=x) (p:=p) (rep_five (base:=w.heap.size) hd9 HDV.out.2.1 (fun g hg=>⟨by have:=(HDV.out.2.2 g hg).1;omega,(HDV.out.2.2 g hg).2⟩) (by omega) hq9) HXX.out HYY.out
   simp only [sets,Nat.reduceAdd] at hW9
   rw [←hW9]
   clear hW9
   refine bodyPost_ret (resCF (w:=W9) rfl _ rfl rfl hS1 hS2) rfl ?_
   exact ⟨_,by rw [HRB.out];rfl,by rw [HRB.out];exact hrep,rfl,hP9⟩
 ·have hne:(sc != 0)=true:=by simpa using h0
  have HRS:Hid (R=.bad sc sp):=by show _=_;rw [HRR.out,if_neg h0]
  clear h0 HRR HEN
  go_wp2_with fail
  go_region
  go_wp2_with fail
  have hsw:=HB1.out.size
  obtain ⟨W9,hW9⟩:∃W,W=sets (sets W1 g1 0 zChart) g2 0 [.int .i64 sc,.int .i64 sp]:=⟨_,rfl⟩
  have hS1:CB W9 g1 30 zChart:=by rw [hW9];exact (HX1.out.all zChart rfl).mv (sets_mv _ g2 0 _) (by omega)
  have hS2:FtB W9 g2 (.int .i64 sc) (.int .i64 sp):=by rw [hW9];exact (HF1.out.mv (sets_mv _ g1 0 _) (by omega)).all [.int .i64 sc,.int .i64 sp] rfl
  have hP9:Below w.heap.size w W9:=by rw [hW9];exact sets_below (sets_below HB1.out (by omega) 0 _) (by omega) 0 _
  simp only [sets,Nat.reduceAdd,zChart] at hW9
  rw [←hW9]
  clear hW9
  refine bodyPost_ret (resCF (w:=W9.drew) rfl _ rfl rfl hS1 hS2) rfl ?_
  exact ⟨zChart,by rw [HRS.out];rfl,by rw [HRS.out];exact rep_noF _ _,rfl,hP9.drew⟩
def Rest {α:Type} (w:World) (g:Nat) (T:TypeId) (k:Nat) (f:α→List DV) (l:List α) (i:Nat) (F:List Nat):Prop :=
 ∃cur:Array Value,w.heap[g]?=some (.cells cur T (0,0))∧i*k+l.length*k≤cur.size∧DvsAt w (l.flatMap f) ((cur.toList.drop (i*k)).take (l.length*k)) F∧F.Nodup∧g∉F
section
variable {α:Type} {w w':World} {g:Nat} {T:TypeId} {k:Nat} {f:α→List DV} {l:List α} {i:Nat} {F:List Nat}
theorem Rest.lt (h:Rest w g T k f l i F):g<w.heap.size:=by
 obtain ⟨cur,h1,_⟩:=h
 exact (Array.getElem?_eq_some_iff.1 h1).1
theorem Rest.fr (h:Rest w g T k f l i F) (j:Nat):w.frozen? ⟨g,j,none⟩=false:=by
 obtain ⟨cur,h1,_⟩:=h
 simp [World.frozen?,h1]
theorem Rest.ch {S:Nat→Prop} (h:Rest w g T k f l i F) (hc:Ch S w w') (hg:¬S g) (hF:∀x∈F,¬S x):Rest w' g T k f l i F:=by
 obtain ⟨cur,h1,h2,h3,h4,h5⟩:=h
 exact ⟨cur,(hc.block g (Array.getElem?_eq_some_iff.1 h1).1 hg).trans h1,h2,h3.ch hc hF,h4,h5⟩
theorem Rest.set (h:Rest w g T k f l i F) {j:Nat} (hj:j<i*k) (v:Value):Rest (w.setCell ⟨g,j,none⟩ v) g T k f l i F:=by
 obtain ⟨cur,h1,h2,h3,h4,h5⟩:=h
 refine ⟨cur.setIfInBounds j v,heap_setCell_same w g j _ _ v h1,by simpa using h2,?_,h4,h5⟩
 have e:(cur.setIfInBounds j v).toList.drop (i*k)=cur.toList.drop (i*k):=by
  rw [Array.toList_setIfInBounds,List.drop_set_of_lt hj]
 rw [e]
 exact h3.ch (Ch.of_mv ((Mv.refl g w).set j v)) (fun x hx e=>h5 (e ▸ hx))
theorem Rest.of {x:Value} (h:DvAt w (.row T k l.length (l.flatMap f)) x F) (hn:F.Nodup):∃A c,x=.slice A l.length c∧l.length≤c∧c≤maxLen∧(l≠[]→∃g F',A=some ⟨g,0,none⟩∧F=g::F'∧Rest w g T k f l 0 F'):=by
 unfold DvAt at h
 obtain ⟨xs,H,⟨h1,h2⟩,rfl,h3⟩:=h
 rcases h2 with ⟨h4,h5⟩|⟨g,c,cur,rfl,_,hg,hc1,hc2,hc3,hc4⟩
 ·exact ⟨none,0,by rw [h4,h5],by omega,Nat.zero_le _,fun hne=>absurd (List.eq_nil_of_length_eq_zero h5) hne⟩
 ·refine ⟨_,c,rfl,hc1,hc2,fun _=>⟨g,H,rfl,rfl,cur,hg,?_,?_,?_,?_⟩⟩
  ·rw [Nat.zero_mul,Nat.zero_add,hc3]
   exact Nat.mul_le_mul_right k hc1
  ·rw [Nat.zero_mul,List.drop_zero,hc4]
   exact h3
  ·exact (List.nodup_cons.1 (show (g::H).Nodup from hn)).2
  ·exact (List.nodup_cons.1 (show (g::H).Nodup from hn)).1
theorem Rest.next (hk:∀a,(f a).length=k) {a:α} (h:Rest w g T k f (a::l) i F):∃ys F1 F2,F=F1++F2∧DvsAt w (f a) ys F1∧ys.length=k∧(∀j u,ys[j]?=some u→w.cell? ⟨g,i*k+j,none⟩=some u)∧F1.Nodup∧g∉F1∧(∀x∈F2,x∉F1)∧Rest w g T k f l (i+1) F2:=by
 obtain ⟨cur,h1,h2,h3,h4,h5⟩:=h
 rw [List.flatMap_cons] at h3
 obtain ⟨xs1,xs2,F1,F2,he,rfl,a1,a2⟩:=h3.cut
 have hl:xs1.length=k:=by rw [a1.len];exact hk a
 rw [List.length_cons,Nat.succ_mul] at h2 he
 rw [List.nodup_append] at h4
 rw [List.mem_append,not_or] at h5
 have e1:xs1=(cur.toList.drop (i*k)).take k:=by
  have e:=congrArg (List.take k) he
  rw [List.take_take,Nat.min_eq_left (by omega),List.take_left' hl] at e
  exact e.symm
 have e2:xs2=(cur.toList.drop ((i+1)*k)).take (l.length*k):=by
  have e:=congrArg (List.drop k) he
  rw [List.drop_left' hl,List.drop_take,List.drop_drop,show l.length*k+k-k=l.length*k from by omega] at e
  rw [←e,Nat.succ_mul]
  try rw [Nat.add_comm k (i*k)]
 refine ⟨xs1,F1,F2,rfl,a1,hl,fun j u hj=>?_,h4.1,h5.1,fun x hx hx1=>h4.2.2 x hx1 x hx rfl,cur,h1,by rw [Nat.succ_mul];omega,by rw [←e2];exact a2,h4.2.1,h5.2⟩
 rw [cell_of_row w g _ _ _ _ h1]
 rw [e1,List.getElem?_take] at hj
 split at hj
 ·rw [List.getElem?_drop] at hj
  simpa using hj
 ·cases hj
end
def ERest (w:World) (g lo:Nat) (l:List GX) (i:Nat):Prop:=∃a cs,lo≤a∧w.heap[g]?=some (.cells cs 54 (0,0))∧GWs w g a g l i
theorem GWs.keep {w w':World} {g:Nat}:∀{l:List GX} {a b i:Nat},(∀j,i*6≤j→w'.cell? ⟨g,j,none⟩=w.cell? ⟨g,j,none⟩)→(∀j,a≤j→j<b→w'.heap[j]?=w.heap[j]?)→GWs w g a b l i→GWs w' g a b l i
 |[],_,_,_,_,_,h=>by unfold GWs at h ⊢;exact h
 |x::l,a,b,i,hc,hs,h=>by
  unfold GWs at h ⊢
  obtain ⟨m,v,h1,h2,h3,h4,h5⟩:=h
  refine ⟨m,v,h1,h2,?_,GW.same (fun j h6 h7=>hs j h6 (by omega)) h4,GWs.keep (fun j hj=>hc j (by omega)) (fun j h6 h7=>hs j (by omega) h7) h5⟩
  obtain ⟨c0,c1,c2,c3,c4,c5⟩:=h3
  exact ⟨(hc _ (by omega)).trans c0,(hc _ (by omega)).trans c1,(hc _ (by omega)).trans c2,(hc _ (by omega)).trans c3,(hc _ (by omega)).trans c4,(hc _ (by omega)).trans c5⟩
theorem ERest.set {w:World} {g lo:Nat} {l:List GX} {i:Nat} (h:ERest w g lo l i) {j:Nat} (hj:j<i*6) (v:Value):ERest (w.setCell ⟨g,j,none⟩ v) g lo l i:=by
 obtain ⟨a,cs,h1,h2,h3⟩:=h
 have h4:=heap_setCell_same w g j _ _ v h2
 refine ⟨a,_,h1,h4,GWs.keep (fun q hq=>?_) (fun q _ hq=>Below.heap_setCell w _ v q (by intro e;have e':q=g:=e;omega)) h3⟩
 rw [cell_of_row _ g q _ _ _ h4,cell_of_row _ g q _ _ _ h2,Array.getElem?_setIfInBounds_ne (by omega)]
def SE (l:List GX):Prop:=∀(w:World) (lo hi:Nat) (x:Value),SubAt w true lo hi l x →
 Calls Tryz.prog 52 #[x] w fun e w'=>(∃k:Int,e=.returned (.int .i64 k))∧Ch (fun g=>lo≤g∧g<hi) w w'
theorem spoilE_step (l:List GX) (ih:∀(i:Nat) k n s o sub p,l[i]?=some (.mk k n s o sub p)→SE sub):SE l:=by
 intro w lo hi x h
 obtain ⟨A,c,rfl,hc1,hc2,hlh,hhs,h⟩:=h
 have HIH:=h_ ih
 obtain ⟨g,HG⟩:∃g,Hid (l≠[]→A=some ⟨g,0,none⟩∧lo≤g∧g<hi∧ERest w g lo l 0):=by
  rcases h with h|⟨g,cs,h1,h2,h3,h4,h5⟩
  ·exact ⟨0,fun hne=>absurd h hne⟩
  ·exact ⟨g,fun _=>⟨h1,h2,h3,lo,cs,n_ _,h4,h5⟩⟩
 obtain ⟨n,hn⟩:∃n,l.length=n:=⟨_,rfl⟩
 have HN:=h_ hn
 have HMX:Hid (n≤9223372036854775807):=by show n≤_;have:maxLen≤9223372036854775807:=by decide
                                          omega
 have HHS:=h_ hhs
 rw [hn]
 clear h hc1 hc2 hlh hhs hn ih
 go_enter Tryz.func52,Tryz.ntmps52
 go_wp2_with fail
 go_loopw [3,4] (fun nv iv wr=>∃(i:Nat) (k:Int),i≤n∧iv=.int .i64 (i:Int)∧nv=.int .i64 k∧Hid (i<n→ERest wr g lo (l.drop i) i)∧Hid (Ch (fun g=>lo≤g∧g<hi) w wr)) (fun _ iv _=>n-(intOf iv).toNat)
 case atStart=>exact ⟨0,0,Nat.zero_le _,rfl,rfl,fun h=>(HG.out (by intro e;rw [e] at HN;exact absurd HN.out (by simp;omega))).2.2.2,Ch.refl _ _⟩
 case round =>
  obtain ⟨i,k,hin,rfl,rfl,HR,HCH⟩:=hrel
  by_cases him:i<n
  ·have HIM:=h_ him
   have him':(i:Int)<n:=by omega
   obtain ⟨hA,hlg,hgh,_⟩:=HG.out (by intro e;rw [e] at HN;exact absurd HN.out (by simp;omega))
   obtain ⟨⟨yk,yn,ys,yo,sub,yp⟩,hy⟩:∃y,l[i]?=some y:=⟨_,List.getElem?_eq_getElem (by rw [HN.out];exact him)⟩
   have hdr:l.drop i=.mk yk yn ys yo sub yp::l.drop (i+1):=by
    obtain ⟨h1,h2⟩:=List.getElem?_eq_some_iff.1 hy
    rw [List.drop_eq_getElem_cons h1,h2]
   obtain ⟨a,cs,ha,hcs,hgw⟩:=HR.out him
   rw [hdr] at hgw
   unfold GWs at hgw
   obtain ⟨m,v,h1,h2,hev,hgx,hre⟩:=hgw
   have hgl:g<wr.heap.size:=(Array.getElem?_eq_some_iff.1 hcs).1
   unfold GW at hgx
   obtain ⟨⟨_,_,_,_,_,e6,e7,e8⟩,hgx⟩:=hgx
   have hsub:SubAt wr true a m sub (.slice v.A v.len v.cap):=⟨v.A,v.cap,by rw [e6],by omega,e8,h1,by omega,hgx⟩
   have HC:=h_ (HIH.out i _ _ _ _ _ _ hy wr a m _ hsub)
   rw [Nat.zero_add] at hev
   have HEV:=h_ hev
   have HFR:∀(W:World) (cs':Array Value),W.heap[g]?=some (.cells cs' 54 (0,0))→∀j,W.frozen? ⟨g,j,none⟩=false:=fun W cs' h j=>by simp [World.frozen?,h]
   have HRE:=h_ hre
   have HCS:=h_ hcs
   obtain ⟨x0,x1,x2,x3,x4,x5⟩:=hev
   have HB:=h_ (And.intro ha (And.intro h1 (And.intro h2 (And.intro hgl (And.intro hlg hgh)))))
   subst hA
   clear HR hy hdr hcs hre hsub hgx e6 e7 e8 ha h1 h2 hgl hlg hgh x0 x1 x2 x3 x5
   go_wp2_with fail
   refine HC.out.mono ?_
   rintro e w1 ⟨⟨kk,rfl⟩,hch⟩
   obtain ⟨ha,h1,h2,hgl,hlg,hgh⟩:=HB.out
   have hgg:w1.heap[g]?=wr.heap[g]?:=hch.block g hgl (by omega)
   obtain ⟨x0,x1,x2,x3,x4,x5⟩:=HEV.out.same hgg
   have hc1:=hgg.trans HCS.out
   have f0:=HFR w1 _ hc1 (i*6)
   have f1:=HFR w1 _ hc1 (i*6+1)
   have f2:=HFR w1 _ hc1 (i*6+2)
   have f3:=HFR w1 _ hc1 (i*6+3)
   have f4:=HFR w1 _ hc1 (i*6+4)
   have f5:=HFR w1 _ hc1 (i*6+5)
   have HR1:Hid (ERest w1 g lo (l.drop (i+1)) (i+1)):=⟨m,_,by omega,hc1,HRE.out.same hgg (fun j h3 h4=>hch.block j (by omega) (by omega))⟩
   have HCH1:Hid (Ch (fun g=>lo≤g∧g<hi) w w1):=HCH.out.trans (hch.mono (fun j _ h=>⟨by omega,by omega⟩))
   have HLG:=h_ (And.intro hlg hgh)
   clear hch hgg hc1 HC HB HEV HCS HRE HCH ha h1 h2 hgl hlg hgh HFR
   go_wp2_with fail
   go_roundw
   case rel=>exact ⟨i+1,_,by have:=HIM.out;omega,by have h1:=HIM.out;have h2:=HMX.out;rw [Go.IntWalk.wrap64_in _ ⟨by omega,by omega⟩];rfl,rfl,fun _=>(((((HR1.out.set (by omega) _).set (by omega) _).set (by omega) _).set (by omega) _).set (by omega) _).set (by omega) _,(((((HCH1.out.set (.inl HLG.out) _ _).set (.inl HLG.out) _ _).set (.inl HLG.out) _ _).set (.inl HLG.out) _ _).set (.inl HLG.out) _ _).set (.inl HLG.out) _ _⟩
   case measure=>have h1:=HIM.out;have h2:=HMX.out;rw [Go.IntWalk.wrap64_in _ ⟨by omega,by omega⟩];simp [intOf];omega
  ·have him':¬(i:Int)<n:=by omega
   go_wp2_with fail
   go_ret
   exact ⟨⟨k,rfl⟩,HCH.out⟩
theorem GX.sub_size {l:List GX} {i:Nat} {k n:Int} {s:List UInt8} {o:Int} {sub:List GX} {p:Int} (h:l[i]?=some (.mk k n s o sub p)):SizeOf.sizeOf sub<SizeOf.sizeOf l:=by
 have h1:=List.sizeOf_lt_of_mem (List.mem_of_getElem? h)
 simp only [GX.mk.sizeOf_spec] at h1
 omega
theorem se_all:∀(N:Nat) (l:List GX),SizeOf.sizeOf l<N→SE l
 |0,_,h=>by omega
 |N+1,l,h=>spoilE_step l fun _ _ _ _ _ sub _ hy=>se_all N sub (by have:=GX.sub_size hy;omega)
theorem spoilE_any (w:World) (l:List GX) (x:Value) (F:List Nat) (h:DvAt w (.sub true l) x F) :
  Calls Tryz.prog 52 #[x] w fun e w'=>(∃k:Int,e=.returned (.int .i64 k))∧Ch (·∈F) w w':=by
 unfold DvAt at h
 obtain ⟨lo,hi,h,rfl⟩:=h
 refine (se_all _ l (Nat.lt_succ_self _) w lo hi x h).mono ?_
 rintro e w' ⟨hk,hc⟩
 exact ⟨hk,hc.mono (fun j _ hj=>by rw [List.mem_range'_1];omega)⟩
theorem DvsAt.unV {w:World} {u:Value} {ds:List DV} {xs:List Value} {F:List Nat} (h:DvsAt w (.v u::ds) xs F):∃ys,xs=u::ys∧DvsAt w ds ys F:=by
 unfold DvsAt at h
 obtain ⟨x,ys,F1,F2,rfl,rfl,h1,h2⟩:=h
 unfold DvAt at h1
 obtain ⟨rfl,rfl,_⟩:=h1
 exact ⟨ys,rfl,h2⟩
theorem DvsAt.unD {w:World} {d:DV} {ds:List DV} {xs:List Value} {F:List Nat} (h:DvsAt w (d::ds) xs F):∃x ys F1 F2,xs=x::ys∧F=F1++F2∧DvAt w d x F1∧DvsAt w ds ys F2:=by
 unfold DvsAt at h
 exact h
theorem DvsAt.unN {w:World} {xs:List Value} {F:List Nat} (h:DvsAt w [] xs F):xs=[]∧F=[]:=by
 unfold DvsAt at h
 exact h
theorem act_parts {w:World} {a:SyAct} {ys:List Value} {F:List Nat} (h:DvsAt w (dvAct true a) ys F):∃y0 y1 y2 y3 y4 y5 y6 y7 y8,ys=[y0,y1,y2,y3,y4,y5,y6,y7,y8]∧DvAt w (.sub true (gxO a.value).subs) y6 F:=by
 have q0:DvsAt w (.v _::.v _::.v _::.v _::.v _::.v _::.sub true (gxO a.value).subs::.v _::.v _::[]) ys F:=h
 clear h
 obtain ⟨ys1,rfl,q1⟩:=q0.unV
 obtain ⟨ys2,rfl,q2⟩:=q1.unV
 obtain ⟨ys3,rfl,q3⟩:=q2.unV
 obtain ⟨ys4,rfl,q4⟩:=q3.unV
 obtain ⟨ys5,rfl,q5⟩:=q4.unV
 obtain ⟨ys6,rfl,q6⟩:=q5.unV
 obtain ⟨x,zs,F1,F2,rfl,rfl,hx,q7⟩:=q6.unD
 obtain ⟨ys7,rfl,q8⟩:=q7.unV
 obtain ⟨ys8,rfl,q9⟩:=q8.unV
 obtain ⟨rfl,rfl⟩:=q9.unN
 rw [List.append_nil]
 exact ⟨_,_,_,_,_,_,_,_,_,rfl,hx⟩
theorem move_parts {w:World} {m:SyMove} {ys:List Value} {F:List Nat} (h:DvsAt w (dvMove true m) ys F):∃y0 y1 y2 y3 y4 y5 y6 y7 y8 y9 y10 y11 y12 Fx Fa Ft,ys=[y0,y1,y2,y3,y4,y5,y6,y7,y8,y9,y10,y11,y12]∧F=Fx++(Fa++Ft) ∧
  DvAt w (.sub true (gxO m.guard).subs) y8 Fx∧DvAt w (dvActs true m.acts) y10 Fa∧DvAt w (dvStrs m.targets) y11 Ft:=by
 have q0:DvsAt w (.v _::.v _::.v _::.v _::.v _::.v _::.v _::.v _::.sub true (gxO m.guard).subs::.v _::dvActs true m.acts::dvStrs m.targets::.v _::[]) ys F:=h
 clear h
 obtain ⟨ys9,rfl,q1⟩:=q0.unV
 obtain ⟨ys10,rfl,q2⟩:=q1.unV
 obtain ⟨ys11,rfl,q3⟩:=q2.unV
 obtain ⟨ys12,rfl,q4⟩:=q3.unV
 obtain ⟨ys13,rfl,q5⟩:=q4.unV
 obtain ⟨ys14,rfl,q6⟩:=q5.unV
 obtain ⟨ys15,rfl,q7⟩:=q6.unV
 obtain ⟨ys16,rfl,q8⟩:=q7.unV
 obtain ⟨x,zs,F1,F2,rfl,rfl,hx,q9⟩:=q8.unD
 obtain ⟨ys17,rfl,q10⟩:=q9.unV
 obtain ⟨x2,zs2,F3,F4,rfl,rfl,hx2,q11⟩:=q10.unD
 obtain ⟨x3,zs3,F5,F6,rfl,rfl,hx3,q12⟩:=q11.unD
 obtain ⟨ys18,rfl,q13⟩:=q12.unV
 obtain ⟨rfl,rfl⟩:=q13.unN
 rw [List.append_nil]
 exact ⟨_,_,_,_,_,_,_,_,_,_,_,_,_,F1,F3,F5,rfl,rfl,hx,hx2,hx3⟩
theorem node_parts {w:World} {k p:Int} {nm ini dft:List UInt8} {en le:List SyAct} {mo:List SyMove} {ks:List SyNode} {ys:List Value} {F:List Nat} (h:DvsAt w (dvNode true (.mk k nm ini dft en le mo ks p)) ys F) :
  ∃y0 y1 y2 y3 y4 y5 y6 y7 y8 Fe Fl Fm Fk,ys=[y0,y1,y2,y3,y4,y5,y6,y7,y8]∧F=Fe++(Fl++(Fm++Fk)) ∧
   DvAt w (dvActs true en) y4 Fe∧DvAt w (dvActs true le) y5 Fl∧DvAt w (dvMoves true mo) y6 Fm∧DvAt w (dvKids true ks) y7 Fk:=by
 rw [dvNode_mk] at h
 have q0:=h
 clear h
 obtain ⟨ys19,rfl,q1⟩:=q0.unV
 obtain ⟨ys20,rfl,q2⟩:=q1.unV
 obtain ⟨ys21,rfl,q3⟩:=q2.unV
 obtain ⟨ys22,rfl,q4⟩:=q3.unV
 obtain ⟨x1,zs1,F1,G1,rfl,rfl,h1,q5⟩:=q4.unD
 obtain ⟨x2,zs2,F2,G2,rfl,rfl,h2,q6⟩:=q5.unD
 obtain ⟨x3,zs3,F3,G3,rfl,rfl,h3,q7⟩:=q6.unD
 obtain ⟨x4,zs4,F4,G4,rfl,rfl,h4,q8⟩:=q7.unD
 obtain ⟨ys23,rfl,q9⟩:=q8.unV
 obtain ⟨rfl,rfl⟩:=q9.unN
 rw [List.append_nil]
 exact ⟨_,_,_,_,_,_,_,_,_,F1,F2,F3,F4,rfl,rfl,h1,h2,h3,h4⟩
def RestF {α:Type} (w:World) (g:Nat) (T:TypeId) (k:Nat) (f:α→List DV) (l:List α) (i:Nat) (F:List Nat):Prop:=∃F',Rest w g T k f l i F'∧∀x∈F',x∈F
section
variable {α:Type} {w w':World} {g:Nat} {T:TypeId} {k:Nat} {f:α→List DV} {l:List α} {i:Nat} {F:List Nat}
theorem RestF.set (h:RestF w g T k f l i F) {j:Nat} (hj:j<i*k) (v:Value):RestF (w.setCell ⟨g,j,none⟩ v) g T k f l i F:=by
 obtain ⟨F',h1,h2⟩:=h
 exact ⟨F',h1.set hj v,h2⟩
theorem RestF.fr (h:RestF w g T k f l i F) (j:Nat):w.frozen? ⟨g,j,none⟩=false:=by
 obtain ⟨F',h1,h2⟩:=h
 exact h1.fr j
theorem RestF.of {x:Value} (h:DvAt w (.row T k l.length (l.flatMap f)) x F) (hn:F.Nodup):∃A c g,x=.slice A l.length c∧l.length≤c∧c≤maxLen∧Hid (l≠[]→A=some ⟨g,0,none⟩∧g∈F∧RestF w g T k f l 0 F):=by
 obtain ⟨A,c,h1,h2,h3,h4⟩:=Rest.of h hn
 by_cases he:l=[]
 ·exact ⟨A,c,0,h1,h2,h3,fun hne=>absurd he hne⟩
 ·obtain ⟨g,F',rfl,rfl,h5⟩:=h4 he
  exact ⟨_,c,g,h1,h2,h3,fun _=>⟨rfl,List.mem_cons_self,F',h5,fun x hx=>List.mem_cons_of_mem _ hx⟩⟩
theorem RestF.next (hk:∀a,(f a).length=k) {a:α} (h:RestF w g T k f (a::l) i F):∃ys F1,(∀x∈F1,x∈F)∧DvsAt w (f a) ys F1∧F1.Nodup ∧
  Hid (∀w',Ch (·∈F1) w w'→(∀j u,ys[j]?=some u→w'.cell? ⟨g,i*k+j,none⟩=some u)∧RestF w' g T k f l (i+1) F):=by
 obtain ⟨F',h1,h2⟩:=h
 obtain ⟨ys,F1,F2,rfl,h3,h4,h5,h6,h7,h8,h9⟩:=h1.next hk
 refine ⟨ys,F1,fun x hx=>h2 x (List.mem_append_left _ hx),h3,h6,fun w' hc=>⟨fun j u hj=>?_,F2,h9.ch hc h7 h8,fun x hx=>h2 x (List.mem_append_right _ hx)⟩⟩
 rw [World.cell?_of_block (a:=⟨g,i*k+j,none⟩) (hc.block g h9.lt h7)]
 exact h5 j u hj
end
theorem drop_at7 {α:Type} {l:List α} {i:Nat} {a:α} (h:l[i]?=some a):l.drop i=a::l.drop (i+1):=by
 obtain ⟨h1,h2⟩:=List.getElem?_eq_some_iff.1 h
 rw [List.drop_eq_getElem_cons h1,h2]
theorem spoilacts_any (w:World) (l:List SyAct) (x:Value) (F:List Nat) (h:DvAt w (dvActs true l) x F) (hnd:F.Nodup) :
  Calls Tryz.prog 51 #[x] w fun e w'=>e=.returned (.tuple #[])∧Ch (·∈F) w w':=by
 unfold dvActs at h
 obtain ⟨A,c,g,rfl,hc1,hc2,HG⟩:=RestF.of h hnd
 obtain ⟨n,hn⟩:∃n,l.length=n:=⟨_,rfl⟩
 have HN:=h_ hn
 have HMX:Hid (n≤9223372036854775807):=by show n≤_;have:maxLen≤9223372036854775807:=by decide
                                          omega
 have HNE:Hid (0<n→l≠[]):=fun h e=>by rw [e] at HN;exact absurd HN.out (by simp;omega)
 rw [hn]
 clear h hnd hc1 hc2 hn
 go_enter Tryz.func51,Tryz.ntmps51
 go_wp2_with fail
 go_loopw [2] (fun iv wr=>∃i:Nat,i≤n∧iv=.int .i64 (i:Int)∧Hid (i<n→RestF wr g 120 9 (dvAct true) (l.drop i) i F)∧Hid (Ch (·∈F) w wr)) (fun iv _=>n-(intOf iv).toNat)
 case atStart=>exact ⟨0,Nat.zero_le _,rfl,fun h=>(HG.out (HNE.out h)).2.2,Ch.refl _ _⟩
 case round =>
  obtain ⟨i,hin,rfl,HR,HCH⟩:=hrel
  by_cases him:i<n
  ·have HIM:=h_ him
   have him':(i:Int)<n:=by omega
   obtain ⟨hA,hgF,_⟩:=HG.out (HNE.out (by omega))
   obtain ⟨a,ha⟩:∃a,l[i]?=some a:=⟨_,List.getElem?_eq_getElem (by rw [HN.out];exact him)⟩
   have hr:=HR.out him
   rw [drop_at7 ha] at hr
   obtain ⟨ys,F1,hF1,hd,hn1,HX⟩:=RestF.next (k:=9) (f:=dvAct true) (fun _=>rfl) hr
   obtain ⟨y0,y1,y2,y3,y4,y5,y6,y7,y8,rfl,hs⟩:=act_parts hd
   have HC:=h_ (spoilE_any wr _ y6 F1 hs)
   have HGF:=h_ hgF
   have HF1:=h_ hF1
   have x6:=(HX.out wr (Ch.refl _ _)).1 6 _ rfl
   subst hA
   clear HR hr hd hs ha hgF hF1 hn1
   go_wp2_with fail
   refine HC.out.mono ?_
   rintro e w1 ⟨⟨kk,rfl⟩,hch⟩
   obtain ⟨hx,hr⟩:=HX.out w1 hch
   have HR1:=h_ hr
   have HCH1:Hid (Ch (·∈F) w w1):=HCH.out.trans (hch.mono (fun j _ h=>HF1.out j h))
   have x0:w1.cell? ⟨g,i*9,none⟩=_:=hx 0 _ rfl
   have x1:=hx 1 _ rfl
   have x2:=hx 2 _ rfl
   have x3:=hx 3 _ rfl
   have x4:=hx 4 _ rfl
   have x5:=hx 5 _ rfl
   replace x6:=hx 6 _ rfl
   have x7:=hx 7 _ rfl
   have x8:=hx 8 _ rfl
   have f0:=HR1.out.fr (i*9)
   have f1:=HR1.out.fr (i*9+1)
   have f2:=HR1.out.fr (i*9+2)
   have f3:=HR1.out.fr (i*9+3)
   have f4:=HR1.out.fr (i*9+4)
   have f5:=HR1.out.fr (i*9+5)
   have f6:=HR1.out.fr (i*9+6)
   have f7:=HR1.out.fr (i*9+7)
   have f8:=HR1.out.fr (i*9+8)
   clear hch hx hr HC HCH HX HF1
   go_wp2_with fail
   go_roundw
   case rel=>exact ⟨i+1,by have:=HIM.out;omega,by have h1:=HIM.out;have h2:=HMX.out;rw [Go.IntWalk.wrap64_in _ ⟨by omega,by omega⟩];rfl,fun _=>(((((((((HR1.out).set (by omega) _).set (by omega) _).set (by omega) _).set (by omega) _).set (by omega) _).set (by omega) _).set (by omega) _).set (by omega) _).set (by omega) _,(((((((((HCH1.out).set (.inl HGF.out) _ _).set (.inl HGF.out) _ _).set (.inl HGF.out) _ _).set (.inl HGF.out) _ _).set (.inl HGF.out) _ _).set (.inl HGF.out) _ _).set (.inl HGF.out) _ _).set (.inl HGF.out) _ _).set (.inl HGF.out) _ _⟩
   case measure=>have h1:=HIM.out;have h2:=HMX.out;rw [Go.IntWalk.wrap64_in _ ⟨by omega,by omega⟩];simp [intOf];omega
  ·have him':¬(i:Int)<n:=by omega
   go_wp2_with fail
   go_end0
   exact ⟨rfl,HCH.out⟩
mutual
def ncnt:SyNode→Nat
 |.mk _ _ _ _ _ _ _ ks _=>1+ncnts ks
def ncnts:List SyNode→Nat
 |[]=>0
 |x::l=>ncnt x+ncnts l
end
theorem ncnts_app:∀(l l':List SyNode),ncnts (l++l')=ncnts l+ncnts l'
 |[],l'=>by rw [List.nil_append,ncnts,Nat.zero_add]
 |x::l,l'=>by rw [List.cons_append,ncnts,ncnts,ncnts_app l l',Nat.add_assoc]
theorem ncnts_take {l:List SyNode} {i:Nat} {a:SyNode} (h:l[i]?=some a):ncnts (l.take (i+1))=ncnts (l.take i)+ncnt a∧ncnts (l.take (i+1))≤ncnts l:=by
 obtain ⟨h1,h2⟩:=List.getElem?_eq_some_iff.1 h
 constructor
 ·rw [List.take_add_one,h,ncnts_app]
  simp [ncnts]
 ·have:=ncnts_app (l.take (i+1)) (l.drop (i+1))
  rw [List.take_append_drop] at this
  omega
theorem itF_pot {σ:Type} {stp:σ→Ss→Rs (σ×Bool)} (φ:σ→Nat) (h:∀x s y s',stp x s=.ok y s'→φ y.1+s'.ts.length≤φ x+s.ts.length):∀n x s y s',itF stp n x s=.ok y s'→φ y+s'.ts.length≤φ x+s.ts.length
 |0,_,_,_,_,e=>by cases e
 |n+1,x,s,y,s',e=>by
  rw [itF] at e
  obtain ⟨z,s1,e1,e2⟩:=Rs.some e
  have h1:=h _ _ _ _ e1
  split at e2
  ·have:=itF_pot φ h n _ _ _ _ e2
   omega
  ·injection e2 with e3 e4
   rw [←e3,←e4]
   exact h1
theorem body_cnt {nd:Ss→Rs SyNode} (h:∀s x s',nd s=.ok x s'→ncnt x+s'.ts.length≤s.ts.length) {s:Ss} {z:SyB×List SyNode} {s':Ss} (e:bodyR nd s=.ok z s'):ncnts z.2+s'.ts.length≤s.ts.length:=by
 obtain ⟨b,s1,e1,e2⟩:=Rs.some e
 obtain ⟨l,s2,e3,e4⟩:=Rs.some e2
 have h1:=It_takes clauseS_keeps _ _ _ _ e1
 have h2:=itF_pot (σ:=List SyNode) (stp:=kidS nd) ncnts (fun x s y s' e=>by
  unfold kidS at e
  split at e
  ·injection e with e5 e6
   rw [←e5,←e6]
   exact n_ _
  ·obtain ⟨w,s3,e7,e8⟩:=Rs.some e
   injection e8 with e5 e6
   have:=h _ _ _ e7
   rw [←e5,←e6,ncnts_app,ncnts,ncnts]
   omega) _ _ _ _ _ e3
 injection e4 with e5 e6
 rw [←e5,←e6]
 rw [ncnts] at h2
 show ncnts l+_≤_
 omega
theorem node_cnt:∀(d:Nat) (s:Ss) (x:SyNode) (s':Ss),nodeR d s=.ok x s'→ncnt x+s'.ts.length≤s.ts.length
 |0,s,x,s',e=>by
  unfold nodeR at e
  obtain ⟨_,_,_,e2⟩:=Rs.some e
  cases e2
 |d+1,s,x,s',e=>by
  unfold nodeR at e
  obtain ⟨y,s1,e1,e2⟩:=Rs.some e
  have h1:=namedR_takes _ _ _ _ e1
  have h0:=drop_le s
  split at e2
  ·unfold histR at e2
   obtain ⟨_,s2,a1,e2⟩:=Rs.some e2
   obtain ⟨_,s3,a2,e2⟩:=Rs.some e2
   obtain ⟨_,s4,a3,e2⟩:=Rs.some e2
   have b1:=mustR_takes _ _ _ _ _ a1
   have b2:=nameR_takes _ _ _ a2
   have b3:=mustR_takes _ _ _ _ _ a3
   injection e2 with e3 e4
   rw [←e3,←e4,ncnt,ncnts]
   omega
  ·unfold innerR at e2
   obtain ⟨_,s2,a1,e2⟩:=Rs.some e2
   obtain ⟨z,s3,a2,e2⟩:=Rs.some e2
   obtain ⟨_,s4,a3,e2⟩:=Rs.some e2
   have b1:=mustR_takes _ _ _ _ _ a1
   have b2:=body_cnt (node_cnt d) a2
   have b3:=mustR_takes _ _ _ _ _ a3
   injection e2 with e3 e4
   rw [←e3,←e4]
   unfold nodeOf
   rw [ncnt]
   omega
theorem chart_cnt {ts:List Tk} {c:SyChart} {s:Ss} (h:syR ts=.ok c s):ncnt c.root≤ts.length:=by
 unfold syR chartR at h
 obtain ⟨_,s1,a1,h⟩:=Rs.some h
 obtain ⟨_,s2,a2,h⟩:=Rs.some h
 obtain ⟨_,s3,a3,h⟩:=Rs.some h
 obtain ⟨l,s4,a4,h⟩:=Rs.some h
 obtain ⟨z,s5,a5,h⟩:=Rs.some h
 obtain ⟨_,s6,a6,h⟩:=Rs.some h
 have b1:=mustR_takes _ _ _ _ _ a1
 have b2:=namedR_takes _ _ _ _ a2
 have b3:=mustR_takes _ _ _ _ _ a3
 have b4:=It_takes varS_keeps _ _ _ _ a4
 have b5:=body_cnt (node_cnt 11) a5
 unfold endR at h
 split at h
 ·injection h with h1 h2
  rw [←h1]
  unfold nodeOf
  rw [ncnt]
  simp only at b1
  omega
 ·obtain ⟨_,_,e⟩:=wrong_bad (α:=SyChart) s6.ts
  rw [e] at h
  cases h
end Go.Proofs.YtcddbfdbhjkjgaaGreatDoor
