import Derived.Test.YtcddbfdbhjkjgaaGreatDoorQh
import Derived.Test.YtcddbfdbhjkjgaaGreatDoorQXuB
import Derived.Test.YtcddbfdbhjkjgaaGreatDoorQSzC
import Derived.Test.YtcddbfdbhjkjgaaGreatDoorScCuts
set_option maxHeartbeats 12800000
set_option maxRecDepth 20000
namespace Go.Proofs.YtcddbfdbhjkjgaaGreatDoor
open Go.RowKit
def SP (ks:List SyNode):Prop:=ncnts ks≤9223372036854775807→∀(w:World) (x:Value) (F:List Nat),DvAt w (dvKids true ks) x F→F.Nodup →
 Calls Tryz.prog 23 #[x] w fun e w'=>e=.returned (.int .i64 (ncnts ks:Nat))∧Ch (·∈F) w w'
def SRow (w:World) (g n:Nat):Prop:=∃cur,w.heap[g]?=some (.cells cur 9 (0,0))∧n≤cur.size
theorem SRow.set {w:World} {g n:Nat} (h:SRow w g n) (j:Nat) (v:Value):SRow (w.setCell ⟨g,j,none⟩ v) g n:=by
 obtain ⟨cur,h1,h2⟩:=h
 exact ⟨_,heap_setCell_same w g j _ _ v h1,by simpa using h2⟩
theorem SRow.cell {w:World} {g n:Nat} (h:SRow w g n) {j:Nat} (hj:j<n):(∃u,w.cell? ⟨g,j,none⟩=some u)∧w.frozen? ⟨g,j,none⟩=false:=by
 obtain ⟨cur,h1,h2⟩:=h
 refine ⟨⟨cur[j]'(by omega),?_⟩,by simp [World.frozen?,h1]⟩
 rw [cell_of_row w g j _ _ _ h1]
 exact Array.getElem?_eq_getElem (by omega)
theorem srow_of {w:World} {l:List (List UInt8)} {x:Value} {F:List Nat} (h:DvAt w (dvStrs l) x F):∃A c g,x=.slice A l.length c∧l.length≤c∧c≤maxLen∧Hid (0<l.length→A=some ⟨g,0,none⟩∧g∈F∧SRow w g l.length):=by
 unfold dvStrs DvAt at h
 obtain ⟨xs,H,⟨h1,h2⟩,rfl,_⟩:=h
 rcases h2 with ⟨h4,h5⟩|⟨g,c,cur,rfl,_,hg,hc1,hc2,hc3,hc4⟩
 ·exact ⟨none,0,0,by rw [h4,h5],by omega,Nat.zero_le _,fun hne=>by omega⟩
 ·exact ⟨_,c,g,rfl,hc1,hc2,fun _=>⟨rfl,List.mem_append_left _ (by show g∈[g];simp),cur,hg,by omega⟩⟩
theorem spoiln_step (ks:List SyNode) (ih:∀(i:Nat) k nm ini dft en le mo sub p,ks[i]?=some (.mk k nm ini dft en le mo sub p)→SP sub):SP ks:=by
 intro hcnt w x F h hnd
 unfold dvKids at h
 rw [dvNodes_flat] at h
 obtain ⟨A,c,g,rfl,hc1,hc2,HG⟩:=RestF.of h hnd
 have HIH:=h_ ih
 have HCT:=h_ hcnt
 obtain ⟨n,hn⟩:∃n,ks.length=n:=⟨_,rfl⟩
 have HN:=h_ hn
 have HMX:Hid (n≤9223372036854775807):=by show n≤_;have:maxLen≤9223372036854775807:=by decide
                                          omega
 have HNE:Hid (0<n→ks≠[]):=fun h e=>by rw [e] at HN;exact absurd HN.out (by simp;omega)
 rw [hn]
 clear h hnd hc1 hc2 hn ih hcnt
 go_enter Tryz.func23,Tryz.ntmps23
 go_wp2_with fail
 go_loopw [3,4] (fun nv iv wr=>∃i:Nat,i≤n∧iv=.int .i64 (i:Int)∧nv=.int .i64 (ncnts (ks.take i):Nat)∧Hid (i<n→RestF wr g 28 9 (dvNode true) (ks.drop i) i F)∧Hid (Ch (·∈F) w wr)) (fun _ iv _=>n-(intOf iv).toNat)
 case atStart=>exact ⟨0,Nat.zero_le _,rfl,rfl,fun h=>(HG.out (HNE.out h)).2.2,Ch.refl _ _⟩
 case round =>
  obtain ⟨i,hin,rfl,rfl,HR,HCH⟩:=hrel
  by_cases him:i<n
  ·have HIM:=h_ him
   have him':(i:Int)<n:=by omega
   obtain ⟨hA,hgF,_⟩:=HG.out (HNE.out (by omega))
   obtain ⟨⟨ak,anm,aini,adft,aen,ale,amo,asub,ap⟩,ha⟩:∃a,ks[i]?=some a:=⟨_,List.getElem?_eq_getElem (by rw [HN.out];exact him)⟩
   have hr:=HR.out him
   rw [drop_at7 ha] at hr
   obtain ⟨ys,F1,hF1,hd,hn1,HX⟩:=RestF.next (k:=9) (f:=dvNode true) (fun ⟨_,_,_,_,_,_,_,_,_⟩=>by rw [dvNode_mk];rfl) hr
   obtain ⟨y0,y1,y2,y3,y4,y5,y6,y7,y8,Fe,Fl,Fm,Fk,rfl,rfl,de,dl,dm,dk⟩:=node_parts hd
   obtain ⟨hne,hn2,hx2⟩:=List.nodup_append.1 hn1
   obtain ⟨hnl,hn3,hx3⟩:=List.nodup_append.1 hn2
   obtain ⟨hnm,hnk,hx4⟩:=List.nodup_append.1 hn3
   obtain ⟨t1,t2⟩:=ncnts_take ha
   rw [ncnt] at t1
   have HT:Hid (ncnts (ks.take (i+1))=ncnts (ks.take i)+(1+ncnts asub)∧ncnts (ks.take (i+1))≤9223372036854775807):=⟨t1,Nat.le_trans t2 HCT.out⟩
   have HC:=h_ (HIH.out i _ _ _ _ _ _ _ _ _ ha (by have:=HT.out;omega) wr y7 Fk dk hnk)
   have HE2:Hid (∀w',Ch (·∈Fk) wr w'→DvAt w' (dvActs true aen) y4 Fe):=fun w' hc=>de.ch hc (fun q hq hk=>hx2 q hq q (by simp [hk]) rfl)
   have HE3:Hid (∀w',Ch (fun q=>q∈Fk∨q∈Fe) wr w'→DvAt w' (dvActs true ale) y5 Fl):=fun w' hc=>dl.ch hc (fun q hq hk=>by
    rcases hk with hk|hk
    ·exact hx3 q hq q (by simp [hk]) rfl
    ·exact hx2 q hk q (by simp [hq]) rfl)
   have HE4:Hid (∀w',Ch (fun q=>q∈Fk∨q∈Fe∨q∈Fl) wr w'→DvAt w' (dvMoves true amo) y6 Fm):=fun w' hc=>dm.ch hc (fun q hq hk=>by
    rcases hk with hk|hk|hk
    ·exact hx4 q hq q hk rfl
    ·exact hx2 q hk q (by simp [hq]) rfl
    ·exact hx3 q hk q (by simp [hq]) rfl)
   have HND:=h_ (And.intro hne (And.intro hnl hnm))
   have HGF:=h_ hgF
   have HF1:=h_ hF1
   have x7:=(HX.out wr (Ch.refl _ _)).1 7 _ rfl
   subst hA
   clear HR hr hd hgF hF1 hn1 hn2 hn3 hne hnl hnm hnk hx2 hx3 hx4 t1 t2 de dl dm dk ha
   go_wp2_with fail
   refine HC.out.mono ?_
   rintro e w1 ⟨rfl,hch⟩
   have HC1:Hid (Ch (·∈Fk) wr w1):=hch
   have HC2:=h_ (spoilacts_any w1 aen y4 Fe (HE2.out w1 hch) HND.out.1)
   replace x7:=(HX.out w1 (hch.mono (fun q _ h=>by simp [h]))).1 7 _ rfl
   have x4:=(HX.out w1 (hch.mono (fun q _ h=>by simp [h]))).1 4 _ rfl
   clear hch HC HE2
   go_wp2_with fail
   refine HC2.out.mono ?_
   rintro e w2 ⟨rfl,hch⟩
   have HC3:Hid (Ch (fun q=>q∈Fk∨q∈Fe) wr w2):=(HC1.out.mono (fun q _ h=>.inl h)).trans (hch.mono (fun q _ h=>.inr h))
   have HC4:=h_ (spoilacts_any w2 ale y5 Fl (HE3.out w2 HC3.out) HND.out.2.1)
   have x5:=(HX.out w2 (HC3.out.mono (fun q _ h=>by rcases h with h|h <;> simp [h]))).1 5 _ rfl
   clear hch HC1 HC2 HE3 x7 x4
   go_wp2_with fail
   refine HC4.out.mono ?_
   rintro e w3 ⟨rfl,hch⟩
   have HC5:Hid (Ch (fun q=>q∈Fk∨q∈Fe∨q∈Fl) wr w3):=(HC3.out.mono (fun q _ h=>by rcases h with h|h;exact .inl h;exact .inr (.inl h))).trans (hch.mono (fun q _ h=>.inr (.inr h)))
   have HXM:Hid (∀W,Ch (·∈Fm) w3 W→W.cell? ⟨g,i*9+6,none⟩=some y6):=fun W hc=>(HX.out W ((HC5.out.mono (fun q _ h=>by rcases h with h|h|h <;> simp [h])).trans (hc.mono (fun q _ h=>by simp [h])))).1 6 _ rfl
   have HXE:Hid (∀W,Ch (·∈Fm) w3 W→Ch (·∈Fe++(Fl++(Fm++Fk))) wr W):=fun W hc=>(HC5.out.mono (fun q _ h=>by rcases h with h|h|h <;> simp [h])).trans (hc.mono (fun q _ h=>by simp [h]))
   have hdm:=HE4.out w3 HC5.out
   unfold dvMoves at hdm
   obtain ⟨Am,cm,gm,rfl,hm1,hm2,HGM⟩:=RestF.of hdm HND.out.2.2
   obtain ⟨nm,hnm⟩:∃n,amo.length=n:=⟨_,rfl⟩
   have HNM:=h_ hnm
   have HMM:Hid (nm≤9223372036854775807):=by show nm≤_;have:maxLen≤9223372036854775807:=by decide
                                             omega
   have HNF:Hid (0<nm→amo≠[]):=fun h e=>by rw [e] at HNM;exact absurd HNM.out (by simp;omega)
   rw [hnm] at HXM HX
   have HCW:=h_ HCH.out
   clear hch hdm hnm hm1 hm2 HC3 HC4 HC5 HE4 x5
   go_wp2_with fail
   go_loopw [5] (fun jv W=>∃j:Nat,j≤nm∧jv=.int .i64 (j:Int)∧Hid (j<nm→RestF W gm 56 13 (dvMove true) (amo.drop j) j Fm)∧Hid (Ch (·∈Fm) w3 W)) (fun jv _=>nm-(intOf jv).toNat)
   case atStart=>exact ⟨0,Nat.zero_le _,rfl,fun h=>(HGM.out (HNF.out h)).2.2,Ch.refl _ _⟩
   case round =>
    rename World=>W
    obtain ⟨j,hjn,rfl,HRM,HCM⟩:=hrel
    have x6:=HXM.out W HCM.out
    by_cases hjm:j<nm
    ·have HJM:=h_ hjm
     have hjm':(j:Int)<nm:=by omega
     obtain ⟨hAm,hgm,_⟩:=HGM.out (HNF.out (by omega))
     obtain ⟨mv,hmv⟩:∃a,amo[j]?=some a:=⟨_,List.getElem?_eq_getElem (by rw [HNM.out];exact hjm)⟩
     have hr:=HRM.out hjm
     rw [drop_at7 hmv] at hr
     obtain ⟨zs,G1,hG1,hd,hn1,HZ⟩:=RestF.next (k:=13) (f:=dvMove true) (fun _=>rfl) hr
     obtain ⟨z0,z1,z2,z3,z4,z5,z6,z7,z8,z9,z10,z11,z12,Fx,Fa,Ft,rfl,rfl,dx,da,dt⟩:=move_parts hd
     obtain ⟨hnx,hn2,hx2⟩:=List.nodup_append.1 hn1
     obtain ⟨hna,hnt,hx3⟩:=List.nodup_append.1 hn2
     have HC:=h_ (spoilE_any W _ z8 Fx dx)
     have HE2:Hid (∀w',Ch (·∈Fx) W w'→DvAt w' (dvActs true mv.acts) z10 Fa):=fun w' hc=>da.ch hc (fun q hq hk=>hx2 q hk q (by simp [hq]) rfl)
     have HE3:Hid (∀w',Ch (fun q=>q∈Fx∨q∈Fa) W w'→DvAt w' (dvStrs mv.targets) z11 Ft):=fun w' hc=>dt.ch hc (fun q hq hk=>by
      rcases hk with hk|hk
      ·exact hx2 q hk q (by simp [hq]) rfl
      ·exact hx3 q hk q hq rfl)
     have HGM2:=h_ hgm
     have HG1:=h_ hG1
     have HNA:=h_ hna
     have HXW:Hid (∀V,Ch (·∈Fx++(Fa++Ft)) W V→V.cell? ⟨g,i*9+6,none⟩=some (.slice (some ⟨gm,0,none⟩) nm cm)):=fun V hc=>by
      rw [←hAm]
      exact HXM.out V (HCM.out.trans (hc.mono (fun q _ h=>hG1 q h)))
     have m8:=(HZ.out W (Ch.refl _ _)).1 8 _ rfl
     subst hAm
     clear HRM hr hd hgm hG1 hn1 hn2 hnx hna hnt hx2 hx3 dx da dt hmv
     go_wp2_with fail
     refine HC.out.mono ?_
     rintro e w4 ⟨⟨kk,rfl⟩,hch⟩
     have HC1:Hid (Ch (·∈Fx) W w4):=hch
     have hcx:Ch (·∈Fx++(Fa++Ft)) W w4:=hch.mono (fun q _ h=>by simp [h])
     have HC2:=h_ (spoilacts_any w4 mv.acts z10 Fa (HE2.out w4 hch) HNA.out)
     replace x6:=HXW.out w4 hcx
     have m10:=(HZ.out w4 hcx).1 10 _ rfl
     clear hch hcx HC HE2 m8
     go_wp2_with fail
     refine HC2.out.mono ?_
     rintro e w5 ⟨rfl,hch⟩
     have HC3:Hid (Ch (fun q=>q∈Fx∨q∈Fa) W w5):=(HC1.out.mono (fun q _ h=>.inl h)).trans (hch.mono (fun q _ h=>.inr h))
     have HC5:Hid (∀V,Ch (·∈Ft) w5 V→Ch (·∈Fx++(Fa++Ft)) W V):=fun V hc=>(HC3.out.mono (fun q _ h=>by rcases h with h|h <;> simp [h])).trans (hc.mono (fun q _ h=>by simp [h]))
     obtain ⟨At,ct,gt,rfl,hs1,hs2,HST⟩:=srow_of (HE3.out w5 HC3.out)
     obtain ⟨nt,hnt⟩:∃n,mv.targets.length=n:=⟨_,rfl⟩
     have HMT:Hid (nt≤9223372036854775807):=by show nt≤_;have:maxLen≤9223372036854775807:=by decide
                                               omega
     rw [hnt] at HST HZ
     clear hch hnt hs1 hs2 HC1 HC2 HC3 HE3 m10 x6
     go_wp2_with fail
     go_loopw [6] (fun tv V=>∃t:Nat,t≤nt∧tv=.int .i64 (t:Int)∧Hid (0<nt→SRow V gt nt)∧Hid (Ch (·∈Ft) w5 V)) (fun tv _=>nt-(intOf tv).toNat)
     case atStart=>exact ⟨0,Nat.zero_le _,rfl,fun h=>(HST.out h).2.2,Ch.refl _ _⟩
     case round =>
      rename World=>V
      obtain ⟨t,htn,rfl,HSR,HCT2⟩:=hrel
      have x6:=HXW.out V (HC5.out V HCT2.out)
      have m11:=(HZ.out V (HC5.out V HCT2.out)).1 11 _ rfl
      by_cases htm:t<nt
      ·have HTM:=h_ htm
       have htm':(t:Int)<nt:=by omega
       obtain ⟨hAt,hgt,_⟩:=HST.out (by omega)
       have HS1:=h_ (HSR.out (by omega))
       obtain ⟨⟨u,c0⟩,f0⟩:=HS1.out.cell htm
       have HGT:=h_ hgt
       subst hAt
       clear hgt
       go_wp2_with fail
       go_roundw
       case rel=>exact ⟨t+1,by have:=HTM.out;omega,by have h1:=HTM.out;have h2:=HMT.out;rw [Go.IntWalk.wrap64_in _ ⟨by omega,by omega⟩];rfl,fun _=>HS1.out.set _ _,HCT2.out.set (.inl HGT.out) _ _⟩
       case measure=>have h1:=HTM.out;have h2:=HMT.out;rw [Go.IntWalk.wrap64_in _ ⟨by omega,by omega⟩];simp [intOf];omega
      ·have htm':¬(t:Int)<nt:=by omega
       obtain ⟨hz,hr⟩:=HZ.out V (HC5.out V HCT2.out)
       have HR1:=h_ hr
       have HCV:Hid (Ch (·∈Fm) w3 V):=HCM.out.trans ((HC5.out V HCT2.out).mono (fun q _ h=>HG1.out q h))
       clear m11
       have m0:V.cell? ⟨gm,j*13,none⟩=_:=hz 0 _ rfl
       have m1:V.cell? ⟨gm,j*13+1,none⟩=_:=hz 1 _ rfl
       have m2:V.cell? ⟨gm,j*13+2,none⟩=_:=hz 2 _ rfl
       have m3:V.cell? ⟨gm,j*13+3,none⟩=_:=hz 3 _ rfl
       have m4:V.cell? ⟨gm,j*13+4,none⟩=_:=hz 4 _ rfl
       have m5:V.cell? ⟨gm,j*13+5,none⟩=_:=hz 5 _ rfl
       have m6:V.cell? ⟨gm,j*13+6,none⟩=_:=hz 6 _ rfl
       have m7:V.cell? ⟨gm,j*13+7,none⟩=_:=hz 7 _ rfl
       have m8:V.cell? ⟨gm,j*13+8,none⟩=_:=hz 8 _ rfl
       have m9:V.cell? ⟨gm,j*13+9,none⟩=_:=hz 9 _ rfl
       have m10:V.cell? ⟨gm,j*13+10,none⟩=_:=hz 10 _ rfl
       have m11:V.cell? ⟨gm,j*13+11,none⟩=_:=hz 11 _ rfl
       have m12:V.cell? ⟨gm,j*13+12,none⟩=_:=hz 12 _ rfl
       have f0:=HR1.out.fr (j*13)
       have f1:=HR1.out.fr (j*13+1)
       have f2:=HR1.out.fr (j*13+2)
       have f3:=HR1.out.fr (j*13+3)
       have f4:=HR1.out.fr (j*13+4)
       have f5:=HR1.out.fr (j*13+5)
       have f6:=HR1.out.fr (j*13+6)
       have f7:=HR1.out.fr (j*13+7)
       have f8:=HR1.out.fr (j*13+8)
       have f9:=HR1.out.fr (j*13+9)
       have f10:=HR1.out.fr (j*13+10)
       have f11:=HR1.out.fr (j*13+11)
       have f12:=HR1.out.fr (j*13+12)
       clear hz hr HZ HXW HST HCT2 HSR HC5
       go_wp2_with fail
       go_roundw
       case rel=>exact ⟨j+1,by have:=HJM.out;omega,by have h1:=HJM.out;have h2:=HMM.out;rw [Go.IntWalk.wrap64_in _ ⟨by omega,by omega⟩];rfl,fun _=>(((((((((((((HR1.out).set (by omega) _).set (by omega) _).set (by omega) _).set (by omega) _).set (by omega) _).set (by omega) _).set (by omega) _).set (by omega) _).set (by omega) _).set (by omega) _).set (by omega) _).set (by omega) _).set (by omega) _,(((((((((((((HCV.out).set (.inl HGM2.out) _ _).set (.inl HGM2.out) _ _).set (.inl HGM2.out) _ _).set (.inl HGM2.out) _ _).set (.inl HGM2.out) _ _).set (.inl HGM2.out) _ _).set (.inl HGM2.out) _ _).set (.inl HGM2.out) _ _).set (.inl HGM2.out) _ _).set (.inl HGM2.out) _ _).set (.inl HGM2.out) _ _).set (.inl HGM2.out) _ _).set (.inl HGM2.out) _ _⟩
       case measure=>have h1:=HJM.out;have h2:=HMM.out;rw [Go.IntWalk.wrap64_in _ ⟨by omega,by omega⟩];simp [intOf];omega
    ·have hjm':¬(j:Int)<nm:=by omega
     obtain ⟨hz,hr⟩:=HX.out W (HXE.out W HCM.out)
     have HR1:=h_ hr
     have HCV:Hid (Ch (·∈F) w W):=HCW.out.trans ((HXE.out W HCM.out).mono (fun q _ h=>HF1.out q h))
     clear x6
     have m0:W.cell? ⟨g,i*9,none⟩=_:=hz 0 _ rfl
     have m1:W.cell? ⟨g,i*9+1,none⟩=_:=hz 1 _ rfl
     have m2:W.cell? ⟨g,i*9+2,none⟩=_:=hz 2 _ rfl
     have m3:W.cell? ⟨g,i*9+3,none⟩=_:=hz 3 _ rfl
     have m4:W.cell? ⟨g,i*9+4,none⟩=_:=hz 4 _ rfl
     have m5:W.cell? ⟨g,i*9+5,none⟩=_:=hz 5 _ rfl
     have m6:W.cell? ⟨g,i*9+6,none⟩=_:=hz 6 _ rfl
     have m7:W.cell? ⟨g,i*9+7,none⟩=_:=hz 7 _ rfl
     have m8:W.cell? ⟨g,i*9+8,none⟩=_:=hz 8 _ rfl
     have f0:=HR1.out.fr (i*9)
     have f1:=HR1.out.fr (i*9+1)
     have f2:=HR1.out.fr (i*9+2)
     have f3:=HR1.out.fr (i*9+3)
     have f4:=HR1.out.fr (i*9+4)
     have f5:=HR1.out.fr (i*9+5)
     have f6:=HR1.out.fr (i*9+6)
     have f7:=HR1.out.fr (i*9+7)
     have f8:=HR1.out.fr (i*9+8)
     clear hz hr HX HXE HXM HGM HCM
     go_wp2_with fail
     go_roundw
     case rel=>exact ⟨i+1,by have:=HIM.out;omega,by have h1:=HIM.out;have h2:=HMX.out;rw [Go.IntWalk.wrap64_in _ ⟨by omega,by omega⟩];rfl,by have h1:=HT.out;rw [Go.IntWalk.wrap64_in (((ncnts (ks.take i):Nat):Int)+1) ⟨by omega,by omega⟩,Go.IntWalk.wrap64_in _ ⟨by omega,by omega⟩];congr 1;omega,fun _=>(((((((((HR1.out).set (by omega) _).set (by omega) _).set (by omega) _).set (by omega) _).set (by omega) _).set (by omega) _).set (by omega) _).set (by omega) _).set (by omega) _,(((((((((HCV.out).set (.inl HGF.out) _ _).set (.inl HGF.out) _ _).set (.inl HGF.out) _ _).set (.inl HGF.out) _ _).set (.inl HGF.out) _ _).set (.inl HGF.out) _ _).set (.inl HGF.out) _ _).set (.inl HGF.out) _ _).set (.inl HGF.out) _ _⟩
     case measure=>have h1:=HIM.out;have h2:=HMX.out;rw [Go.IntWalk.wrap64_in _ ⟨by omega,by omega⟩];simp [intOf];omega
  ·have him':¬(i:Int)<n:=by omega
   have hie:i=n:=by omega
   have HTK:Hid (ks.take i=ks):=by show _=_;rw [hie,←HN.out,List.take_length]
   clear hie
   go_wp2_with fail
   go_ret
   exact ⟨by rw [HTK.out];rfl,HCH.out⟩
theorem sub_size7 {ks:List SyNode} {i:Nat} {k:Int} {nm ini dft:List UInt8} {en le:List SyAct} {mo:List SyMove} {sub:List SyNode} {p:Int} (h:ks[i]?=some (.mk k nm ini dft en le mo sub p)):SizeOf.sizeOf sub<SizeOf.sizeOf ks:=by
 have h1:=List.sizeOf_lt_of_mem (List.mem_of_getElem? h)
 simp only [SyNode.mk.sizeOf_spec] at h1
 omega
theorem spoiln_all:∀(N:Nat) (ks:List SyNode),SizeOf.sizeOf ks<N→SP ks
 |0,_,h=>by omega
 |N+1,ks,h=>spoiln_step ks fun _ _ _ _ _ _ _ _ sub _ hy=>spoiln_all N sub (by have:=sub_size7 hy;omega)
theorem spoiln_any (ks:List SyNode):SP ks:=spoiln_all _ ks (Nat.lt_succ_self _)
theorem kids_one {W:World} {g:Nat} {x:SyNode} {ys:List Value} {F:List Nat} (h:CB W g 28 ys) (hl:ys.length=9) (hd:DvsAt W (dvNode true x) ys F):DvAt W (dvKids true [x]) (.slice (some ⟨g,0,none⟩) 1 1) (g::F):=by
 unfold dvKids DvAt
 refine ⟨ys,F,⟨hl,.inr ⟨g,1,ys.toArray,rfl,Nat.zero_le _,h,n_ _,by decide,by simpa using hl,?_⟩⟩,rfl,?_⟩
 ·rw [show [x].length*9=ys.length from by rw [hl];rfl]
  simp
 ·simp only [dvNodes,List.append_nil]
  exact hd
theorem spoilchart_any (w:World) (c:SyChart) (xs:List Value) (F:List Nat) (h:DvsAt w (dvChart true c) xs F) (hnd:F.Nodup) (hcnt:ncnt c.root≤9223372036854775807) :
  Calls Tryz.prog 11 #[.agg xs.toArray] w fun e w'=>e=.returned (.int .i64 (ncnt c.root:Nat))∧Ch (·∈F) w w':=by
 obtain ⟨vs,⟨k,nm,ini,dft,en,le,mo,ks,p⟩⟩:=c
 unfold dvChart at h
 obtain ⟨x0,xs1,Fv,Fr,rfl,rfl,dv,dn⟩:=h.unD
 obtain ⟨hnv,hnr,hx⟩:=List.nodup_append.1 hnd
 obtain ⟨A1,A2,A3,A4,Ac1,Ac2,Ac3,Ac4,_,_,_,_,rfl,_⟩:=node_vals dn
 have hlt:∀q∈Fv++Fr,q<w.heap.size:=h.lt
 unfold dvVars at dv
 obtain ⟨A0,Ac0,gv,rfl,hc1,hc2,HG⟩:=RestF.of (l:=vs) dv hnv
 replace hc1:vs.length≤Ac0:=hc1
 simp only at hcnt ⊢
 obtain ⟨N,hN⟩:=str_of nm
 obtain ⟨I,hI⟩:=str_of ini
 obtain ⟨D,hD⟩:=str_of dft
 obtain ⟨n,hn⟩:∃n,vs.length=n:=⟨_,rfl⟩
 have HN:=h_ hn
 have HMX:Hid (n≤9223372036854775807):=by show n≤_;have:maxLen≤9223372036854775807:=by decide
                                          omega
 have HNE:Hid (0<n→vs≠[]):=fun h e=>by rw [e] at HN;exact absurd HN.out (by simp;omega)
 rw [hN,hI,hD] at dn
 rw [hN,hI,hD,hn]
 have HDN:=h_ dn
 have HLT:=h_ hlt
 have HX:=h_ hx
 have HNR:=h_ hnr
 have HCNT:=h_ hcnt
 obtain ⟨gc,hgc⟩:∃g,g=w.heap.size:=⟨_,rfl⟩
 obtain ⟨W0,hW0⟩:∃W,W=w.alloc (.cells #[.slice A0 n Ac0,.int .i64 k,.string N,.string I,.string D,.slice A1 en.length Ac1,.slice A2 le.length Ac2,.slice A3 mo.length Ac3,.slice A4 ks.length Ac4,.int .i64 p] 30):=⟨_,rfl⟩
 have HCB:Hid (CB W0 gc 30 [.slice A0 n Ac0,.int .i64 k,.string N,.string I,.string D,.slice A1 en.length Ac1,.slice A2 le.length Ac2,.slice A3 mo.length Ac3,.slice A4 ks.length Ac4,.int .i64 p]):=by rw [hW0,hgc];exact CB.new w _ [.slice A0 n Ac0,.int .i64 k,.string N,.string I,.string D,.slice A1 en.length Ac1,.slice A2 le.length Ac2,.slice A3 mo.length Ac3,.slice A4 ks.length Ac4,.int .i64 p]
 have HB0:Hid (Below w.heap.size w W0):=by rw [hW0];exact (b_ _ w).alloc (n_ _) _
 have HGC:Hid (gc=w.heap.size):=hgc
 have hgv:∀i:Nat,i<n→gc≠gv:=fun i h e=>by
  have:=hlt gv (List.mem_append_left _ (HG.out (HNE.out (by omega))).2.1)
  omega
 have HGV:=h_ hgv
 clear h hnd dv dn hnv hnr hx hlt hN hI hD hn hc1 hc2 hcnt hgv
 go_enter Tryz.func11,Tryz.ntmps11
 go_upto_region 1 with fail
 rw [←hW0,←hgc]
 clear hW0 hgc
 go_wp2_with fail
 go_loopw [3] (fun iv wr=>∃i:Nat,i≤n∧iv=.int .i64 (i:Int)∧Hid (i<n→RestF wr gv 51 3 dvVar (vs.drop i) i Fv)∧Hid (Ch (·∈Fv) w wr)∧Hid (CB wr gc 30 [.slice A0 n Ac0,.int .i64 k,.string N,.string I,.string D,.slice A1 en.length Ac1,.slice A2 le.length Ac2,.slice A3 mo.length Ac3,.slice A4 ks.length Ac4,.int .i64 p])) (fun iv _=>n-(intOf iv).toNat)
 case atStart =>
  refine ⟨0,Nat.zero_le _,rfl,fun h=>?_,Ch.of_below HB0.out,HCB⟩
  obtain ⟨F',h1,h2⟩:=(HG.out (HNE.out h)).2.2
  exact ⟨F',h1.ch (Ch.of_below (S:=fun _=>False) HB0.out) (fun e=>e) (fun _ _ e=>e),h2⟩
 case round =>
  obtain ⟨i,hin,rfl,HR,HCH,HCW⟩:=hrel
  have x0:=HCW.out.c 0 rfl
  by_cases him:i<n
  ·have HIM:=h_ him
   have him':(i:Int)<n:=by omega
   obtain ⟨hA,hgF,_⟩:=HG.out (HNE.out (by omega))
   obtain ⟨a,ha⟩:∃a,vs[i]?=some a:=⟨_,List.getElem?_eq_getElem (by rw [HN.out];exact him)⟩
   have hr:=HR.out him
   rw [drop_at7 ha] at hr
   obtain ⟨ys,F1,hF1,hd,hn1,HX1⟩:=RestF.next (k:=3) (f:=dvVar) (fun _=>rfl) hr
   have hl:=hd.len
   obtain ⟨y0,y1,y2,rfl⟩:∃a b c,ys=[a,b,c]:=by
    match ys,hl with
    |[a,b,c],_=>exact ⟨a,b,c,rfl⟩
   obtain ⟨hz,hr⟩:=HX1.out wr (Ch.refl _ _)
   have HR1:=h_ hr
   have HGF:=h_ hgF
   have z0:wr.cell? ⟨gv,i*3,none⟩=_:=hz 0 _ rfl
   have z1:wr.cell? ⟨gv,i*3+1,none⟩=_:=hz 1 _ rfl
   have z2:wr.cell? ⟨gv,i*3+2,none⟩=_:=hz 2 _ rfl
   have f0:=HR1.out.fr (i*3)
   have f1:=HR1.out.fr (i*3+1)
   have f2:=HR1.out.fr (i*3+2)
   subst hA
   clear HR hr hd hl hz hgF hF1 hn1 HX1 ha
   go_wp2_with fail
   go_roundw
   case rel=>exact ⟨i+1,by have:=HIM.out;omega,by have h1:=HIM.out;have h2:=HMX.out;rw [Go.IntWalk.wrap64_in _ ⟨by omega,by omega⟩];rfl,fun _=>(((HR1.out).set (by omega) _).set (by omega) _).set (by omega) _,(((HCH.out).set (.inl HGF.out) _ _).set (.inl HGF.out) _ _).set (.inl HGF.out) _ _,(((HCW.out).other (HGV.out i HIM.out) _ _).other (HGV.out i HIM.out) _ _).other (HGV.out i HIM.out) _ _⟩
   case measure=>have h1:=HIM.out;have h2:=HMX.out;rw [Go.IntWalk.wrap64_in _ ⟨by omega,by omega⟩];simp [intOf];omega
  ·have him':¬(i:Int)<n:=by omega
   have x1:=HCW.out.c 1 rfl
   have x2:=HCW.out.c 2 rfl
   have x3:=HCW.out.c 3 rfl
   have x4:=HCW.out.c 4 rfl
   have x5:=HCW.out.c 5 rfl
   have x6:=HCW.out.c 6 rfl
   have x7:=HCW.out.c 7 rfl
   have x8:=HCW.out.c 8 rfl
   have x9:=HCW.out.c 9 rfl
   obtain ⟨gn,hgn⟩:∃g,g=wr.heap.size:=⟨_,rfl⟩
   obtain ⟨W1,hW1⟩:∃W,W=wr.alloc (.cells #[.int .i64 k,.string N,.string I,.string D,.slice A1 en.length Ac1,.slice A2 le.length Ac2,.slice A3 mo.length Ac3,.slice A4 ks.length Ac4,.int .i64 p] 28):=⟨_,rfl⟩
   have hd1:DvsAt W1 (dvNode true (.mk k nm ini dft en le mo ks p)) [.int .i64 k,.string N,.string I,.string D,.slice A1 en.length Ac1,.slice A2 le.length Ac2,.slice A3 mo.length Ac3,.slice A4 ks.length Ac4,.int .i64 p] Fr:=by rw [hW1];exact (HDN.out.ch HCH.out (fun q hq hv=>HX.out q hv q hq rfl)).below ((b_ _ wr).alloc (n_ _) _)
   have hcb:CB W1 gn 28 [.int .i64 k,.string N,.string I,.string D,.slice A1 en.length Ac1,.slice A2 le.length Ac2,.slice A3 mo.length Ac3,.slice A4 ks.length Ac4,.int .i64 p]:=by rw [hW1,hgn];exact CB.new wr _ [.int .i64 k,.string N,.string I,.string D,.slice A1 en.length Ac1,.slice A2 le.length Ac2,.slice A3 mo.length Ac3,.slice A4 ks.length Ac4,.int .i64 p]
   have hsz:=HCH.out.size
   have HC:=h_ (spoiln_any _ (by simp only [ncnts];exact HCNT.out) W1 _ _ (kids_one hcb rfl hd1) (List.nodup_cons.2 ⟨fun hg=>by have:=HLT.out gn (List.mem_append_right _ hg);omega,HNR.out⟩))
   have HCW1:Hid (Ch (·∈Fv++Fr) w W1):=by rw [hW1];exact (HCH.out.mono (fun q _ h=>List.mem_append_left _ h)).alloc _
   have HGN:Hid (w.heap.size≤gn):=by show _≤_;omega
   clear hd1 hcb hsz
   go_wp2_with fail
   rw [←hW1,←hgn]
   clear hW1 hgn
   refine HC.out.mono ?_
   rintro e w2 ⟨rfl,hch⟩
   have HCW2:Hid (Ch (·∈Fv++Fr) w w2):=⟨hch.os.trans HCW1.out.os,hch.tape.trans HCW1.out.tape,hch.output.trans HCW1.out.output,Nat.le_trans HCW1.out.size hch.size,fun q hq hn=>(hch.block q (Nat.lt_of_lt_of_le hq HCW1.out.size) (fun hm=>by
    rcases List.mem_cons.1 hm with e|e
    ·have:=HGN.out;omega
    ·exact hn (List.mem_append_right _ e))).trans (HCW1.out.block q hq hn)⟩
   clear hch x0 x1 x2 x3 x4 x5 x6 x7 x8 x9
   go_wp2_with fail
   go_ret
   exact ⟨by simp only [ncnts];rfl,HCW2.out⟩
theorem chart_few (l:List UInt8):1≤ncnt (syF l).chart.root∧ncnt (syF l).chart.root≤9223372036854775807:=by
 constructor
 ·obtain ⟨vs,⟨k,nm,ini,dft,en,le,mo,ks,p⟩⟩:=(syF l).chart
  simp only [ncnt]
  omega
 ·obtain ⟨R,hR⟩:∃R,syF l=R:=⟨_,rfl⟩
  rw [hR]
  cases R with
  |out=>show ncnt noChart.root≤_;unfold noChart;simp [ncnt,ncnts]
  |bad c p=>show ncnt noChart.root≤_;unfold noChart;simp [ncnt,ncnts]
  |ok c r =>
   show ncnt c.root≤_
   unfold syF at hR
   split at hR
   ·have:=chart_cnt hR
    have:=scF_len l
    omega
   ·cases hR
theorem again_chart (w:World) (s:ByteArray) {R:Rs SyChart} (hR:syF s.data.toList=R) :
  Calls Tryz.prog 9 #[.string s] w fun e w'=>∃y0 y1 y2 y3 y4 y5 y6 y7 y8 y9 F,e=.returned (.tuple #[.agg #[y0,y1,y2,y3,y4,y5,y6,y7,y8,y9],.agg #[.int .i64 R.fc,.int .i64 R.fp]])∧(∀u∈[y0,y1,y2,y3,y4,y5,y6,y7,y8,y9],u.oneCell'=true)∧DvsAt w' (dvChart false R.chart) [y0,y1,y2,y3,y4,y5,y6,y7,y8,y9] F∧(∀g∈F,w.heap.size≤g)∧Below w.heap.size w w':=by
 refine (xparse_s w s).mono ?_
 rw [hR]
 rintro e w' ⟨ys,rfl,⟨F,hr,h1,h2⟩,hl,hb⟩
 have zo:=hr.ones
 obtain ⟨y0,y1,y2,y3,y4,y5,y6,y7,y8,y9,rfl⟩:=cells10 hl
 exact ⟨y0,y1,y2,y3,y4,y5,y6,y7,y8,y9,F,rfl,zo,hr,h2,hb⟩
theorem sreads_law (S:ByteArray) (w:World) (_h1:S.size≤maxLen) (_h2:S.size≤140737488351232) (hK:KwAt w) (hEr:ErrAt w) (hSg:SgAt w) :
  Calls Tryz.prog 3 #[.string S] w fun e w'=>e=.returned (.bool true)∧Below w.heap.size w w':=by
 have HVR:Hid (Vars w):=⟨hK,hEr⟩
 have HVS:Hid (Vs w):=⟨hK,hSg⟩
 have HS:=h_ (small7_any w HVR.out HVS.out)
 clear hK hEr hSg _h1 _h2
 obtain ⟨R,hR⟩:∃R,syF S.data.toList=R:=⟨_,rfl⟩
 have HFEW:=h_ (chart_few S.data.toList)
 rw [hR] at HFEW
 have HCA:=h_ (fun (W:World) (hb:Below w.heap.size w W)=>chart_any W S (HVR.out.below hb) (HVS.out.below hb) hR)
 have HCD:=h_ (fun (W:World)=>again_chart W S hR)
 clear hR
 go_enter Tryz.func3,Tryz.ntmps3
 go_wp2_with fail
 refine HS.out.mono ?_
 rintro e w1 ⟨rfl,hb1⟩
 have HB1:=h_ hb1
 clear hb1 HS
 go_wp2_with fail
 refine (HCA.out _ HB1.out).mono ?_
 rintro e w2 ⟨y0,y1,y2,y3,y4,y5,y6,y7,y8,y9,F1,rfl,zo,dv2,hnd,hF1,-,hb⟩
 obtain ⟨W2,ga2,gf2,hW,hg1,hg2,HC2,HF2,HB⟩:=pair_chart w2 y0 y1 y2 y3 y4 y5 y6 y7 y8 y9 R.fc R.fp
 have st:∀u∈[y0,y1,y2,y3,y4,y5,y6,y7,y8,y9],∀(w:World) (a:Addr),(store a u).run Tryz.prog w=stored Tryz.prog w a u .plain:=fun u hu w a=>run_store _ w a u .plain (zo u hu)
 have s0:=st y0 (by simp)
 have s1:=st y1 (by simp)
 have s2:=st y2 (by simp)
 have s3:=st y3 (by simp)
 have s4:=st y4 (by simp)
 have s5:=st y5 (by simp)
 have s6:=st y6 (by simp)
 have s7:=st y7 (by simp)
 have s8:=st y8 (by simp)
 have s9:=st y9 (by simp)
 have HDV2:=h_ (dv2.below HB.out)
 have HND:=h_ hnd
 have HLT:Hid (∀q∈F1,w.heap.size≤q∧q<w2.heap.size):=fun q hq=>⟨Nat.le_trans HB1.out.size (hF1 q hq),dv2.lt q hq⟩
 have HGA:Hid (ga2=w2.heap.size∧gf2=w2.heap.size+1):=⟨hg1,hg2⟩
 have HSZ:Hid (w2.heap.size≤W2.heap.size):=HB.out.size
 have HB2:Hid (Below w.heap.size w W2):=HB1.out.trans ((hb.trans (HB.out.mono hb.size)).mono HB1.out.size)
 clear st zo hb HB dv2 hnd hF1 HB1
 go_upto_region 3 with fail
 rw [←hW,←hg2,←hg1]
 clear hW hg1 hg2 s0 s1 s2 s3 s4 s5 s6 s7 s8 s9
 obtain ⟨Y,hY⟩:∃Y,[y0,y1,y2,y3,y4,y5,y6,y7,y8,y9]=Y:=⟨_,rfl⟩
 rw [hY] at HDV2 HC2
 go_wp2_with fail
 refine (HCA.out _ HB2.out).mono ?_
 rintro e w3 ⟨z0,z1,z2,z3,z4,z5,z6,z7,z8,z9,F2,rfl,zo,dv3,-,hF2,-,hb⟩
 obtain ⟨W3,ga3,gf3,hW,hg1,hg2,HC3,HF3,HB⟩:=pair_chart w3 z0 z1 z2 z3 z4 z5 z6 z7 z8 z9 R.fc R.fp
 have st:∀u∈[z0,z1,z2,z3,z4,z5,z6,z7,z8,z9],∀(w:World) (a:Addr),(store a u).run Tryz.prog w=stored Tryz.prog w a u .plain:=fun u hu w a=>run_store _ w a u .plain (zo u hu)
 have s0:=st z0 (by simp)
 have s1:=st z1 (by simp)
 have s2:=st z2 (by simp)
 have s3:=st z3 (by simp)
 have s4:=st z4 (by simp)
 have s5:=st z5 (by simp)
 have s6:=st z6 (by simp)
 have s7:=st z7 (by simp)
 have s8:=st z8 (by simp)
 have s9:=st z9 (by simp)
 have HDV3:=h_ (dv3.below HB.out)
 have HLT3:Hid (∀q∈F2,w2.heap.size≤q):=fun q hq=>Nat.le_trans HSZ.out (hF2 q hq)
 have HGA3:Hid (w2.heap.size≤ga3):=by have:=hb.size;have:=HSZ.out;show _≤_;omega
 have hbb:Below W2.heap.size W2 W3:=hb.trans (HB.out.mono hb.size)
 have HSZ3:Hid (w2.heap.size≤W3.heap.size):=Nat.le_trans HSZ.out hbb.size
 have HB3:Hid (Below w.heap.size w W3):=HB2.out.trans (hbb.mono HB2.out.size)
 have HF2':=h_ (HF2.out.below hbb)
 have HC2':=h_ (HC2.out.below hbb)
 have HDV2':=h_ (HDV2.out.below hbb)
 clear hbb HF2 HC2 HDV2 HB2 HF3 HSZ
 clear st zo hb HB dv3 hF2 HCA
 go_upto_region 4 with fail
 rw [←hW,←hg2,←hg1]
 clear hW hg1 hg2 s0 s1 s2 s3 s4 s5 s6 s7 s8 s9
 obtain ⟨Z,hZ⟩:∃Z,[z0,z1,z2,z3,z4,z5,z6,z7,z8,z9]=Z:=⟨_,rfl⟩
 rw [hZ] at HDV3 HC3
 go_wp2_with fail
 refine (HCD.out _).mono ?_
 rintro e w4 ⟨x0,x1,x2,x3,x4,x5,x6,x7,x8,x9,F3,rfl,zo,dv4,hF3,hb⟩
 obtain ⟨W4,ga4,gf4,hW,hg1,hg2,HC4,HF4,HB⟩:=pair_chart w4 x0 x1 x2 x3 x4 x5 x6 x7 x8 x9 R.fc R.fp
 have st:∀u∈[x0,x1,x2,x3,x4,x5,x6,x7,x8,x9],∀(w:World) (a:Addr),(store a u).run Tryz.prog w=stored Tryz.prog w a u .plain:=fun u hu w a=>run_store _ w a u .plain (zo u hu)
 have s0:=st x0 (by simp)
 have s1:=st x1 (by simp)
 have s2:=st x2 (by simp)
 have s3:=st x3 (by simp)
 have s4:=st x4 (by simp)
 have s5:=st x5 (by simp)
 have s6:=st x6 (by simp)
 have s7:=st x7 (by simp)
 have s8:=st x8 (by simp)
 have s9:=st x9 (by simp)
 have HDV4:=h_ (dv4.below HB.out)
 have HLT4:Hid (∀q∈F3,w2.heap.size≤q):=fun q hq=>Nat.le_trans HSZ3.out (hF3 q hq)
 have HGA4:Hid (w2.heap.size≤ga4∧w2.heap.size≤gf4):=by have:=hb.size;have:=HSZ3.out;exact ⟨by omega,by omega⟩
 have hbb:Below W3.heap.size W3 W4:=hb.trans (HB.out.mono hb.size)
 have HB4:Hid (Below w.heap.size w W4):=HB3.out.trans (hbb.mono HB3.out.size)
 have HF24:=h_ (HF2'.out.below hbb)
 have HC24:=h_ (HC2'.out.below hbb)
 have HDV24:=h_ (HDV2'.out.below hbb)
 have HC34:=h_ (HC3.out.below hbb)
 have HDV34:=h_ (HDV3.out.below hbb)
 clear hbb HF2' HC2' HDV2' HB3 HC3 HDV3 HSZ3
 clear st zo hb HB dv4 hF3 HCD
 go_upto_region 5 with fail
 rw [←hW,←hg2,←hg1]
 clear hW hg1 hg2 s0 s1 s2 s3 s4 s5 s6 s7 s8 s9
 subst hY
 have HSC:=h_ (samechart_any W4 true true false R.chart R.chart _ _ _ _ HDV24.out HDV4.out (cG_same true _))
 have u0:=HC24.out.c 0 rfl
 have u1:=HC24.out.c 1 rfl
 have u2:=HC24.out.c 2 rfl
 have u3:=HC24.out.c 3 rfl
 have u4:=HC24.out.c 4 rfl
 have u5:=HC24.out.c 5 rfl
 have u6:=HC24.out.c 6 rfl
 have u7:=HC24.out.c 7 rfl
 have u8:=HC24.out.c 8 rfl
 have u9:=HC24.out.c 9 rfl
 have v0:=HC4.out.c 0 rfl
 have v1:=HC4.out.c 1 rfl
 have v2:=HC4.out.c 2 rfl
 have v3:=HC4.out.c 3 rfl
 have v4:=HC4.out.c 4 rfl
 have v5:=HC4.out.c 5 rfl
 have v6:=HC4.out.c 6 rfl
 have v7:=HC4.out.c 7 rfl
 have v8:=HC4.out.c 8 rfl
 have v9:=HC4.out.c 9 rfl
 go_wp2_with fail
 refine HSC.out.mono ?_
 rintro e w5 ⟨rfl,hb⟩
 have HB5:Hid (Below w.heap.size w w5):=HB4.out.trans (hb.mono HB4.out.size)
 have HF25:=h_ (HF24.out.below hb)
 have HF45:=h_ (HF4.out.below hb)
 have HC35:=h_ (HC34.out.below hb)
 have HC45:=h_ (HC4.out.below hb)
 have HDV35:=h_ (HDV34.out.below hb)
 have HDV45:=h_ (HDV4.out.below hb)
 have HSP:=h_ (spoilchart_any w5 R.chart _ F1 (HDV24.out.below hb) HND.out HFEW.out.2)
 replace u0:=(HC24.out.below hb).c 0 rfl
 replace u1:=(HC24.out.below hb).c 1 rfl
 replace u2:=(HC24.out.below hb).c 2 rfl
 replace u3:=(HC24.out.below hb).c 3 rfl
 replace u4:=(HC24.out.below hb).c 4 rfl
 replace u5:=(HC24.out.below hb).c 5 rfl
 replace u6:=(HC24.out.below hb).c 6 rfl
 replace u7:=(HC24.out.below hb).c 7 rfl
 replace u8:=(HC24.out.below hb).c 8 rfl
 replace u9:=(HC24.out.below hb).c 9 rfl
 clear hb v0 v1 v2 v3 v4 v5 v6 v7 v8 v9 HSC HB4 HF24 HF4 HC34 HC4 HDV34 HDV4 HC24 HDV24
 go_wp2_with fail
 refine HSP.out.mono ?_
 rintro e w6 ⟨rfl,hch⟩
 have hno:∀q,w2.heap.size≤q→¬q∈F1:=fun q hq hm=>by have:=(HLT.out q hm).2;omega
 have HB6:Hid (Below w.heap.size w w6):=⟨hch.os.trans HB5.out.os,hch.tape.trans HB5.out.tape,hch.output.trans HB5.out.output,Nat.le_trans HB5.out.size hch.size,fun q hq=>(hch.block q (Nat.lt_of_lt_of_le hq HB5.out.size) (fun hm=>by have:=(HLT.out q hm).1;omega)).trans (HB5.out.block q hq)⟩
 have HF26:Hid (FtB w6 gf2 (.int .i64 R.fc) (.int .i64 R.fp)):=(hch.block gf2 HF25.out.lt (hno _ (by have:=HGA.out;omega))).trans HF25.out
 have HF46:Hid (FtB w6 gf4 (.int .i64 R.fc) (.int .i64 R.fp)):=(hch.block gf4 HF45.out.lt (hno _ HGA4.out.2)).trans HF45.out
 have HC36:=h_ (HC35.out.ch hch (hno _ HGA3.out))
 have HC46:=h_ (HC45.out.ch hch (hno _ HGA4.out.1))
 have HSC:=h_ (samechart_any w6 true true false R.chart R.chart _ _ _ _ (HDV35.out.ch hch (fun q hq=>hno q (HLT3.out q hq))) (HDV45.out.ch hch (fun q hq=>hno q (HLT4.out q hq))) (cG_same true _))
 subst hZ
 clear u0 u1 u2 u3 u4 u5 u6 u7 u8 u9 hch hno HSP HB5 HF25 HF45 HC35 HC45 HDV35 HDV45
 have u0:=HC36.out.c 0 rfl
 have u1:=HC36.out.c 1 rfl
 have u2:=HC36.out.c 2 rfl
 have u3:=HC36.out.c 3 rfl
 have u4:=HC36.out.c 4 rfl
 have u5:=HC36.out.c 5 rfl
 have u6:=HC36.out.c 6 rfl
 have u7:=HC36.out.c 7 rfl
 have u8:=HC36.out.c 8 rfl
 have u9:=HC36.out.c 9 rfl
 have v0:=HC46.out.c 0 rfl
 have v1:=HC46.out.c 1 rfl
 have v2:=HC46.out.c 2 rfl
 have v3:=HC46.out.c 3 rfl
 have v4:=HC46.out.c 4 rfl
 have v5:=HC46.out.c 5 rfl
 have v6:=HC46.out.c 6 rfl
 have v7:=HC46.out.c 7 rfl
 have v8:=HC46.out.c 8 rfl
 have v9:=HC46.out.c 9 rfl
 go_wp2_with fail
 refine HSC.out.mono ?_
 rintro e w7 ⟨rfl,hb⟩
 have HB7:=h_ (HB6.out.trans (hb.mono HB6.out.size))
 have s0:=(HF26.out.below hb).c0
 have s1:=(HF26.out.below hb).c1
 have s2:=(HF46.out.below hb).c0
 have s3:=(HF46.out.below hb).c1
 clear u0 u1 u2 u3 u4 u5 u6 u7 u8 u9 v0 v1 v2 v3 v4 v5 v6 v7 v8 v9 hb HSC
 obtain ⟨c,hc⟩:∃c,R.fc=c:=⟨_,rfl⟩
 obtain ⟨p,hp⟩:∃p,R.fp=p:=⟨_,rfl⟩
 obtain ⟨m,hm⟩:∃m,ncnt R.chart.root=m:=⟨_,rfl⟩
 have hm1:1≤m:=by rw [←hm];exact HFEW.out.1
 have hm2:(m:Int) > 0:=by omega
 have HM:=h_ (decide_eq_true (show 0<m from hm1))
 rw [hc] at s0 s2
 rw [hp] at s1 s3
 rw [hm]
 have z1:=heldF
 have z2:=guardF
 have q0:(c==c)=true:=beq_self_eq_true _
 have q1:(p==p)=true:=beq_self_eq_true _
 clear hc hp hm hm1
 go_wp2_with fail
 go_ret
 refine ⟨?_,HB7.out⟩
 rw [HM.out]
 rfl
end Go.Proofs.YtcddbfdbhjkjgaaGreatDoor
