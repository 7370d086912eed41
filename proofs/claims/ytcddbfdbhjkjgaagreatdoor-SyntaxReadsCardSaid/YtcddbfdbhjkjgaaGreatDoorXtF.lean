import Derived.Test.YtcddbfdbhjkjgaaGreatDoorQh
import Derived.Test.YtcddbfdbhjkjgaaGreatDoorXtE
import Derived.Test.YtcddbfdbhjkjgaaGreatDoorYD
set_option maxHeartbeats 12800000
set_option maxRecDepth 20000
namespace Go.Proofs.YtcddbfdbhjkjgaaGreatDoor
open Go.RowKit
def nmN (s:Ss):Rs Unit:=if kindOf s.ts=1∧s.n=64 then stopR 2 s.ts else .ok () s
def nmD (d:Nat) (s:Ss):Rs Unit:=if kindOf s.ts=1∧d=0 then stopR 21 s.ts else .ok () s
theorem nm_bad {m:Rs Unit} {d:Nat} (h:∀s,m=.ok () s→∃t l,s.ts=t::l) {c p:Int} (e:(m.go nmN).go (nmD d)=.bad c p):m.go (namedR d)=.bad c p:=by
 cases m with
 |out=>cases e
 |bad c' p' =>
  have e':Rs.bad c' p'=(Rs.bad c p:Rs Unit):=e
  injection e' with e1 e2
  subst e1 e2
  rfl
 |ok x s =>
  obtain ⟨t,l,hs⟩:=h s rfl
  replace e:(nmN s).go (nmD d)=.bad c p:=e
  show namedR d s=.bad c p
  unfold namedR
  unfold nmN at e
  rw [hs] at e ⊢
  simp only
  have hk:kindOf (t::l)=t.kind:=rfl
  rw [hk] at e
  by_cases h1:t.kind=1
  ·rw [if_pos h1]
   by_cases h2:s.n=64
   ·rw [if_pos ⟨h1,h2⟩] at e
    rw [if_pos h2]
    have e':Rs.bad 2 t.at_=(Rs.bad c p:Rs Unit):=e
    injection e' with e1 e2
    rw [e1,e2]
   ·rw [if_neg (fun h=>h2 h.2)] at e
    rw [if_neg h2]
    replace e:nmD d s=.bad c p:=e
    unfold nmD at e
    rw [hs,hk] at e
    by_cases h3:d=0
    ·rw [if_pos ⟨h1,h3⟩] at e
     rw [if_pos h3]
     have e':Rs.bad 21 t.at_=(Rs.bad c p:Rs Unit):=e
     injection e' with e1 e2
     rw [e1,e2]
    ·rw [if_neg (fun h=>h3 h.2)] at e
     cases e
  ·rw [if_neg (fun h=>h1 h.1)] at e
   replace e:nmD d s=.bad c p:=e
   unfold nmD at e
   rw [hs,hk,if_neg (fun h=>h1 h.1)] at e
   cases e
theorem nm_ok {m:Rs Unit} {d:Nat} {s2:Ss} (h:∀s,m=.ok () s→∃t l,s.ts=t::l) (e:(m.go nmN).go (nmD d)=.ok () s2):m=.ok () s2∧(kindOf s2.ts=1→s2.n≠64∧d≠0):=by
 cases m with
 |out=>cases e
 |bad c' p'=>cases e
 |ok x s =>
  obtain ⟨t,l,hs⟩:=h s rfl
  replace e:(nmN s).go (nmD d)=.ok () s2:=e
  have hk:kindOf s.ts=t.kind:=by rw [hs];rfl
  unfold nmN at e
  by_cases h1:kindOf s.ts=1∧s.n=64
  ·rw [if_pos h1,hs] at e
   cases e
  ·rw [if_neg h1] at e
   replace e:nmD d s=.ok () s2:=e
   unfold nmD at e
   by_cases h2:kindOf s.ts=1∧d=0
   ·rw [if_pos h2,hs] at e
    cases e
   ·rw [if_neg h2] at e
    have:=(Rs.ok.inj e).2
    subst this
    exact ⟨rfl,fun hk=>⟨fun h=>h1 ⟨hk,h⟩,fun h=>h2 ⟨hk,h⟩⟩⟩
theorem named_xs {K:Kx} {r:Rv} {m m2:Rs Unit} {d:Nat} {t:Tk} (hm:XvM K r m2) (h0:r.of K) (hq:r.q<K.n) (ht:TokAt K m2 t) (hl:K.xs.length=K.n) (e2:(m.go nmN).go (nmD d)=m2) (hts:∀s,m=.ok () s→∃t l,s.ts=t::l) (hfit:∀s,m=.ok () s→Fits s) {r':Rv} (hr':r'={ r with N:=wrap64 (r.N+1) }) {x:List UInt8} {p:Int} (hx:((r.code==0)&&(t.kind==1))=true→x=t.text∧p=t.at_) :
  (m.go (namedR d)).is (x,p)∧((if ((r'.code==0)&&(t.kind==1))=true then r'.next true else r'.wrong t).of K)∧(if ((r'.code==0)&&(t.kind==1))=true then r'.next true else r'.wrong t).q<K.n∧(if ((r'.code==0)&&(t.kind==1))=true then r'.next true else r'.wrong t).D=r.D∧XvM K (if ((r'.code==0)&&(t.kind==1))=true then r'.next true else r'.wrong t) (m.go (namedR d)).void:=by
 subst hr'
 have hcode:({ r with N:=wrap64 (r.N+1) }:Rv).code=r.code:=rfl
 rw [hcode]
 cases m2 with
 |out=>exact hm.elim
 |bad c q =>
  have e:=nm_bad hts e2
  have hc:(r.code==0)=false:=by rw [hm.1];exact beq_eq_false_iff_ne.2 hm.2.2
  rw [hc,Bool.false_and,if_neg (by decide),e]
  have hw:({ r with N:=wrap64 (r.N+1) }:Rv).wrong t={ r with N:=wrap64 (r.N+1) }:=by
   unfold Rv.wrong Rv.stop
   rw [if_neg (by show ¬r.code=0;rw [hm.1];exact hm.2.2)]
  rw [hw]
  exact ⟨Rs.is_bad _ _ _,h0,hq,rfl,hm⟩
 |ok u s =>
  obtain ⟨rfl,hk⟩:=nm_ok hts e2
  obtain ⟨l,hs⟩:=ht.2 s rfl
  have hc:(r.code==0)=true:=by rw [hm.1];rfl
  rw [hc,Bool.true_and]
  have hkt:kindOf s.ts=t.kind:=by rw [hs];rfl
  by_cases h1:t.kind=1
  ·have h1':(t.kind==1)=true:=by rw [h1];rfl
   rw [h1',if_pos rfl]
   obtain ⟨hn,hd⟩:=hk (by rw [hkt,h1])
   have hx':=hx (by rw [hc,h1'];rfl)
   have en:(Rs.ok () s:Rs Unit).go (namedR d)=.ok (t.text,t.at_) ⟨l,s.n+1,s.m,s.a⟩:=by
    show namedR d s=_
    unfold namedR
    rw [hs]
    simp only [h1,if_true,hn,hd,if_false]
   rw [en]
   obtain ⟨g1,g2⟩:=hm.step (by rw [hkt,h1];decide) hl
   have hf:=hfit s rfl
   have hN:wrap64 (r.N+1)=((s.n+1:Nat):Int):=by
    rw [hm.2.2.2.1,Go.IntWalk.wrap64_in _ ⟨by omega,by have:=hf.1;omega⟩]
    omega
   refine ⟨Rs.is_ok (by rw [hx'.1,hx'.2]),h0,g1,rfl,?_⟩
   have hts2:s.drop.ts=l:=by show s.ts.tail=l;rw [hs];rfl
   have g3:=g2.2.1
   have g4:=g2.2.2.1
   rw [hts2] at g3 g4
   exact ⟨g2.1,g3,g4,hN,g2.2.2.2.2.1,g2.2.2.2.2.2.1,⟨by show s.n+1≤64;have:=hf.1;omega,hf.2.1,hf.2.2⟩⟩
  ·have h1':(t.kind==1)=false:=beq_eq_false_iff_ne.2 h1
   rw [h1',if_neg (by decide)]
   have en:(Rs.ok () s:Rs Unit).go (namedR d)=wrongR s.ts:=by
    show namedR d s=_
    unfold namedR
    rw [hs]
    simp only [h1,if_false]
   rw [en]
   have k3:=stop_of (r:={ r with N:=wrap64 (r.N+1) }) (K:=K) h0 (wrC t) t
   refine ⟨fun y s' e=>absurd e wrong_ne2,k3.1,by show (Rv.stop _ (wrC t) t).q<K.n;rw [k3.2.1];exact hq,k3.2.2,?_⟩
   rw [wrong_void,hs,wrong_stop]
   unfold Rv.wrong Rv.stop
   rw [if_pos (by show r.code=0;exact hm.1)]
   exact ⟨rfl,rfl,wrC_ne t⟩
structure XnI (w:World) (b g3 g4:Nat) (K:Kx) (D:Int) (m:Rs Unit) (vs:List Value) (W:World):Prop where
 xs:XS W b K D m
 c3:CB W g3 28 vs
 c4:CB W g4 28 zNode
 mv:Mv b w W
def XnEnd (w:World) (b:Nat) (K:Kx) (D:Int) (d:Nat) (m:Rs Unit) (kd:Int) (e:Ending) (w':World):Prop :=
 ∃(x:List UInt8) (X:ByteArray) (p:Int),txV x=.string X∧e=.returned (.agg #[.int .i64 kd,.string X,.string ⟨#[]⟩,.string ⟨#[]⟩,.slice none 0 0,.slice none 0 0,.slice none 0 0,.slice none 0 0,.int .i64 p])∧(m.go (namedR d)).is (x,p)∧XS w' b K D (m.go (namedR d)).void∧Mv b w w'
theorem xnamed_s (w:World) (b:Nat) (K:Kx) (D:Int) (d:Nat) (m:Rs Unit) (kd:Int) (h:XS w b K D m) (hD:D=12-(d:Int)) (hd12:d≤12) :
  Calls Tryz.prog 18 #[.pointer (some ⟨b,0,none⟩),.agg #[.int .i64 kd,.string ⟨#[]⟩,.string ⟨#[]⟩,.string ⟨#[]⟩,.slice none 0 0,.slice none 0 0,.slice none 0 0,.slice none 0 0,.int .i64 0]] w (XnEnd w b K D d m kd):=by
 obtain ⟨g3,hg3⟩:∃g,g=w.heap.size:=⟨_,rfl⟩
 obtain ⟨g4,hg4⟩:∃g,g=w.heap.size+1:=⟨_,rfl⟩
 obtain ⟨Wa,hWa⟩:∃W,W=w.alloc (.cells #[.int .i64 kd,.string ⟨#[]⟩,.string ⟨#[]⟩,.string ⟨#[]⟩,.slice none 0 0,.slice none 0 0,.slice none 0 0,.slice none 0 0,.int .i64 0] 28):=⟨_,rfl⟩
 obtain ⟨W0,hW0⟩:∃W,W=Wa.alloc (.cells #[.int .i64 0,.string ⟨#[]⟩,.string ⟨#[]⟩,.string ⟨#[]⟩,.slice none 0 0,.slice none 0 0,.slice none 0 0,.slice none 0 0,.int .i64 0] 28):=⟨_,rfl⟩
 have hsa:Wa.heap.size=w.heap.size+1:=by rw [hWa];simp
 have HB0:Hid (Below w.heap.size w W0):=by rw [hW0,hWa];exact ((b_ _ w).alloc (n_ _) _).alloc (by simp) _
 have hbw:=h.blt
 have hg3b:g3≠b:=by omega
 have hg4b:g4≠b:=by omega
 have hg34:g4≠g3:=by omega
 have hg3w:w.heap.size≤g3:=by omega
 have hg4w:w.heap.size≤g4:=by omega
 have hb3:b<g3:=by omega
 have hb4:b<g4:=by omega
 have HI0:Hid (XnI w b g3 g4 K D m [.int .i64 kd,.string ⟨#[]⟩,.string ⟨#[]⟩,.string ⟨#[]⟩,.slice none 0 0,.slice none 0 0,.slice none 0 0,.slice none 0 0,.int .i64 0] W0):=by
  refine ⟨h.below HB0.out,?_,?_,Mv.of b HB0.out⟩
  ·rw [hW0,hWa,hg3]
   exact (CB.new w _ [.int .i64 kd,.string ⟨#[]⟩,.string ⟨#[]⟩,.string ⟨#[]⟩,.slice none 0 0,.slice none 0 0,.slice none 0 0,.slice none 0 0,.int .i64 0]).alloc _
  ·have:=CB.new Wa 28 zNode
   rw [hsa,←hg4] at this
   rw [hW0]
   exact this
 obtain ⟨t,gt,ot,q,r,hA,hq,htk,hxm,hrd,hcl⟩:=HI0.out.xs.cells
 have HCL:=h_ hcl
 have HTK:=h_ htk
 have HXM:=h_ hxm
 have hq':(q:Int)<K.n:=by omega
 have HFT:Hid (∀s,m=.ok () s→Fits s):=h.fits
 have HTS:Hid (∀s,m=.ok () s→∃t l,s.ts=t::l):=fun s e=>by obtain ⟨l,hl⟩:=htk.2 s e;exact ⟨t,l,hl⟩
 obtain ⟨dk,hdk⟩:∃dk,(t.kind==1)=dk:=⟨_,rfl⟩
 obtain ⟨dn,hdn⟩:∃dn,(r.N==64)=dn:=⟨_,rfl⟩
 obtain ⟨dd,hdd⟩:∃dd,(D==12)=dd:=⟨_,rfl⟩
 have HDK:=h_ hdk
 have HDN:=h_ hdn
 have HDD:=h_ hdd
 have HD:=h_ (And.intro hD hd12)
 have HRD:=h_ hrd
 clear h hcl htk hxm hsa hD hd12 hrd HB0
 go_enter Tryz.func18,Tryz.ntmps18
 go_upto_region 1 with fail
 rw [←hWa,←hW0,←hg4,←hg3]
 clear hWa hW0 hg4 hg3
 go_cut [23] from 5 to 23 (fun s23 wr=>s23=.bool (dk&&dn)∧Hid (Below W0.heap.size W0 wr))
 case first =>
  have r0:=(HCL.out W0 (fun _ _ h=>h)).1
  have r1:=(HCL.out W0 (fun _ _ h=>h)).2.1
  have r2:=(HCL.out W0 (fun _ _ h=>h)).2.2.1
  have r8:=(HCL.out W0 (fun _ _ h=>h)).2.2.2.2.2.2.2.1
  cases dk
  ·go_wp2_with fail
   go_quiet (fail)
   go_wp2_with fail
   go_meet
   exact ⟨rfl,drewN_below W0 _⟩
  ·cases dn
   ·go_wp2_with fail
    go_quiet (fail)
    go_wp2_with fail
    go_meet
    exact ⟨rfl,drewN_below W0 _⟩
   ·go_wp2_with fail
    go_quiet (fail)
    go_wp2_with fail
    go_meet
    exact ⟨rfl,drewN_below W0 _⟩
 case rest =>
 obtain ⟨rfl,HB1⟩:=hcut
 obtain ⟨dA,hdA⟩:∃dA,(dk&&dn)=dA:=⟨_,rfl⟩
 rw [hdA]
 have HDA:=h_ hdA
 have HI1:Hid (XnI w b g3 g4 K D m [.int .i64 kd,.string ⟨#[]⟩,.string ⟨#[]⟩,.string ⟨#[]⟩,.slice none 0 0,.slice none 0 0,.slice none 0 0,.slice none 0 0,.int .i64 0] wc):=⟨HI0.out.xs.below HB1.out,HI0.out.c3.below HB1.out,HI0.out.c4.below HB1.out,HI0.out.mv.trans (Mv.of b HB1.out)⟩
 clear hdA hdk hdn hdd HI0
 go_upto_if 23 with fail
 obtain ⟨W1,hW1⟩:∃W,W=wc:=⟨_,rfl⟩
 rw [←hW1] at HI1 HB1 ⊢
 clear hW1
 go_cut [] from 24 to 25 (fun wr=>Hid (XnI w b g3 g4 K D (m.go nmN) [.int .i64 kd,.string ⟨#[]⟩,.string ⟨#[]⟩,.string ⟨#[]⟩,.slice none 0 0,.slice none 0 0,.slice none 0 0,.slice none 0 0,.int .i64 0] wr)∧Hid (Ch (fun k=>k=b) W0 wr)∧Hid (dk=false→m.go nmN=m))
 case first =>
  have HNM:Hid (m.go nmN=if dA=true then m.go (fun s=>stopR 2 s.ts) else m):=by
   show _=_
   have hx:=HXM.out
   have ht:=HTK.out
   cases m with
   |out=>exact hx.elim
   |bad c p=>split <;> rfl
   |ok x s =>
    obtain ⟨l,hl⟩:=ht.2 s rfl
    show nmN s=_
    unfold nmN
    have e1:kindOf s.ts=t.kind:=by rw [hl];rfl
    have e2:r.N=(s.n:Int):=hx.2.2.2.1
    have e3:dA=decide (kindOf s.ts=1∧s.n=64):=by
     rw [←HDA.out,←HDK.out,←HDN.out,e1,e2,Bool.eq_iff_iff]
     simp only [Bool.and_eq_true,beq_iff_eq,decide_eq_true_eq]
     omega
    rw [e3]
    by_cases h:kindOf s.ts=1∧s.n=64
    ·rw [if_pos h,decide_eq_true h,if_pos rfl];rfl
    ·rw [if_neg h,decide_eq_false h,if_neg (by decide)]
  have HKF:Hid (dk=false→m.go nmN=m):=fun e=>by
   rw [HNM.out,←HDA.out,e]
   rfl
  cases dA with
  |true =>
   have HC:=h_ (xstop_s W1 b K D _ HI1.out.xs 2 (by decide))
   go_wp2_with fail
   refine HC.out.mono ?_
   rintro e w4 ⟨rfl,hp,hm⟩
   have HP:=h_ hp
   have HM:=h_ hm
   clear hp hm HC
   go_wp2_with fail
   go_meet
   exact ⟨⟨by rw [HNM.out];exact HP.out,HI1.out.c3.mv HM.out hg3b,HI1.out.c4.mv HM.out hg4b,HI1.out.mv.trans HM.out⟩,(Ch.of_below HB1.out).trans (Ch.of_mv HM.out),HKF.out⟩
  |false =>
   go_wp2_with fail
   go_meet
   exact ⟨⟨by rw [HNM.out];exact HI1.out.xs,HI1.out.c3,HI1.out.c4,HI1.out.mv⟩,Ch.of_below HB1.out,HKF.out⟩
 case rest =>
 obtain ⟨HI2,HC2,HK2⟩:=hcut
 obtain ⟨m1,hm1⟩:∃m1,m.go nmN=m1:=⟨_,rfl⟩
 rw [hm1] at HI2 HK2
 have HM1:=h_ hm1
 clear hm1 HI1 HB1
 obtain ⟨t2,gt2,ot2,q2,r2,hA2,hqq2,htk2,hxm2,hrd2,hcl2⟩:=HI2.out.xs.cells
 rw [hA] at hA2
 injection hA2 with hA2
 injection hA2 with hA2 hA3
 subst hA2 hA3
 have HCL2:=h_ hcl2
 have HTK2:=h_ htk2
 have HXM2:=h_ hxm2
 have hq2':(q2:Int)<K.n:=by omega
 obtain ⟨dk2,hdk2⟩:∃dk2,(t2.kind==1)=dk2:=⟨_,rfl⟩
 have HDK2:=h_ hdk2
 have hdd2:(r2.D==12)=dd:=by rw [hrd2];exact HDD.out
 have HRD2:=h_ hrd2
 clear hcl2 htk2 hxm2 hrd2
 go_upto_region 3 with fail
 obtain ⟨W2,hW2⟩:∃W,W=wc:=⟨_,rfl⟩
 rw [←hW2] at HI2 HC2 HCL2 ⊢
 clear hW2
 go_cut [44] from 26 to 44 (fun s44 wr=>s44=.bool (dk2&&dd)∧Hid (Below W2.heap.size W2 wr))
 case first =>
  have r0:=(HCL2.out W2 (fun _ _ h=>h)).1
  have r1:=(HCL2.out W2 (fun _ _ h=>h)).2.1
  have r5:=(HCL2.out W2 (fun _ _ h=>h)).2.2.2.2.2.1
  have r8:=(HCL2.out W2 (fun _ _ h=>h)).2.2.2.2.2.2.2.1
  cases dk2
  ·go_wp2_with fail
   go_quiet (fail)
   go_wp2_with fail
   go_meet
   exact ⟨rfl,drewN_below W2 _⟩
  ·cases dd
   ·go_wp2_with fail
    go_quiet (fail)
    go_wp2_with fail
    go_meet
    exact ⟨rfl,drewN_below W2 _⟩
   ·go_wp2_with fail
    go_quiet (fail)
    go_wp2_with fail
    go_meet
    exact ⟨rfl,drewN_below W2 _⟩
 case rest =>
 obtain ⟨rfl,HB3⟩:=hcut
 obtain ⟨dB,hdB⟩:∃dB,(dk2&&dd)=dB:=⟨_,rfl⟩
 rw [hdB]
 have HDB:=h_ hdB
 have HI3:Hid (XnI w b g3 g4 K D m1 [.int .i64 kd,.string ⟨#[]⟩,.string ⟨#[]⟩,.string ⟨#[]⟩,.slice none 0 0,.slice none 0 0,.slice none 0 0,.slice none 0 0,.int .i64 0] wc):=⟨HI2.out.xs.below HB3.out,HI2.out.c3.below HB3.out,HI2.out.c4.below HB3.out,HI2.out.mv.trans (Mv.of b HB3.out)⟩
 clear hdB hdk2 hdd2 HI2
 go_upto_if 44 with fail
 obtain ⟨W3,hW3⟩:∃W,W=wc:=⟨_,rfl⟩
 rw [←hW3] at HI3 HB3 ⊢
 clear hW3
 go_cut [] from 45 to 46 (fun wr=>Hid (XnI w b g3 g4 K D (m1.go (nmD d)) [.int .i64 kd,.string ⟨#[]⟩,.string ⟨#[]⟩,.string ⟨#[]⟩,.slice none 0 0,.slice none 0 0,.slice none 0 0,.slice none 0 0,.int .i64 0] wr))
 case first =>
  have HNM:Hid (m1.go (nmD d)=if dB=true then m1.go (fun s=>stopR 21 s.ts) else m1):=by
   show _=_
   have hx:=HXM2.out
   have ht:=HTK2.out
   cases m1 with
   |out=>exact hx.elim
   |bad c p=>split <;> rfl
   |ok x s =>
    obtain ⟨l,hl⟩:=ht.2 s rfl
    show nmD d s=_
    unfold nmD
    have e1:kindOf s.ts=t2.kind:=by rw [hl];rfl
    have e3:dB=decide (kindOf s.ts=1∧d=0):=by
     have hD:=HD.out
     rw [←HDB.out,←HDK2.out,←HDD.out,e1,hD.1,Bool.eq_iff_iff]
     simp only [Bool.and_eq_true,beq_iff_eq,decide_eq_true_eq]
     omega
    rw [e3]
    by_cases h:kindOf s.ts=1∧d=0
    ·rw [if_pos h,decide_eq_true h,if_pos rfl];rfl
    ·rw [if_neg h,decide_eq_false h,if_neg (by decide)]
  cases dB with
  |true =>
   have HC:=h_ (xstop_s W3 b K D _ HI3.out.xs 21 (by decide))
   go_wp2_with fail
   refine HC.out.mono ?_
   rintro e w4 ⟨rfl,hp,hm⟩
   have HP:=h_ hp
   have HM:=h_ hm
   clear hp hm HC
   go_wp2_with fail
   go_meet
   exact ⟨by rw [HNM.out];exact HP.out,HI3.out.c3.mv HM.out hg3b,HI3.out.c4.mv HM.out hg4b,HI3.out.mv.trans HM.out⟩
  |false =>
   go_wp2_with fail
   go_meet
   exact ⟨by rw [HNM.out];exact HI3.out.xs,HI3.out.c3,HI3.out.c4,HI3.out.mv⟩
 case rest =>
 replace hcut:Hid (XnI w b g3 g4 K D (m1.go (nmD d)) [.int .i64 kd,.string ⟨#[]⟩,.string ⟨#[]⟩,.string ⟨#[]⟩,.slice none 0 0,.slice none 0 0,.slice none 0 0,.slice none 0 0,.int .i64 0] wc):=hcut
 have HI4:=hcut
 obtain ⟨m2,hm2⟩:∃m2,m1.go (nmD d)=m2:=⟨_,rfl⟩
 rw [hm2] at HI4
 have HM2:Hid ((m.go nmN).go (nmD d)=m2):=by show _=_;rw [HM1.out,hm2]
 clear hcut hm2 HI3 HB3
 obtain ⟨r,t3,hr,hr0,hrq,hrd,hrm,hrt,htk3⟩:=HI4.out.xs.tok
 have r2c:=hr.c2
 have f2:=hr.fr 2
 obtain ⟨W5,hW5⟩:∃W,W=wc.setCell ⟨b,2,none⟩ (.int .i64 (wrap64 (r.N+1))):=⟨_,rfl⟩
 have hm5:Mv b wc W5:=by rw [hW5];exact (Mv.refl b wc).set 2 _
 have hr5:RvB W5 b { r with N:=wrap64 (r.N+1) }:=by rw [hW5];exact hr.setN _
 have HC:=h_ (xname_any W5 b { r with N:=wrap64 (r.N+1) } K.xs t3 hr5 (by show TkAt W5 r.A r.n K.xs;rw [hr0.1,hr0.2.1];exact HI4.out.xs.at_.mv hm5 (fun g o e=>Nat.ne_of_lt (HI4.out.xs.lt g o e))) hrt (by show r.n≤_;rw [hr0.2.1];have:=HI4.out.xs.ok.n;omega))
 have HM5:=h_ hm5
 have HRR:=h_ (And.intro hr0 (And.intro hrq (And.intro hrd (And.intro hrm htk3))))
 have HWW:=h_ hW5
 clear hr hr0 hrq hrd hrm hrt htk3 hm5 hr5 hW5
 go_upto_region 6 with fail
 rw [←HWW.out]
 clear HWW r2c f2
 go_wp2_with fail
 refine HC.out.mono ?_
 rintro e w6 ⟨rfl,hr6,hm6⟩
 obtain ⟨x,X,p,hX,hv,hxp⟩:∃(x:List UInt8) (X:ByteArray) (p:Int),txV x=.string X∧(if (((({ r with N:=wrap64 (r.N+1) }:Rv).code==0)&&(t3.kind==1))=true) then Value.tuple #[txV t3.text,.int .i64 t3.at_] else .tuple #[.string ⟨#[]⟩,.int .i64 0])=.tuple #[.string X,.int .i64 p]∧(((r.code==0)&&(t3.kind==1))=true→x=t3.text∧p=t3.at_):=by
  by_cases hc:((r.code==0)&&(t3.kind==1))=true
  ·obtain ⟨Y,hY⟩:∃Y,txV t3.text=.string Y:=⟨_,rfl⟩
   refine ⟨t3.text,Y,t3.at_,hY,?_,fun _=>⟨rfl,rfl⟩⟩
   rw [if_pos hc,hY]
  ·refine ⟨[],_,0,rfl,?_,fun h=>absurd h hc⟩
   rw [if_neg hc]
 rw [hv]
 obtain ⟨hr0,hrq,hrd,hrm,htk3⟩:=HRR.out
 obtain ⟨k1,k2,k3,k4,k5⟩:=named_xs hrm hr0 hrq htk3 HI4.out.xs.at_.1 HM2.out HTS.out HFT.out rfl hxp
 have hxw:XS w6 b K D (m.go (namedR d)).void:=HI4.out.xs.turn (HM5.out.trans hm6) hr6 k2 k3 (k4.trans hrd) k5
 have HC3:=h_ ((HI4.out.c3.mv HM5.out hg3b).mv hm6 hg3b)
 have HC4:=h_ ((HI4.out.c4.mv HM5.out hg4b).mv hm6 hg4b)
 have hmw:=(HI4.out.mv.trans HM5.out).trans hm6
 obtain ⟨W7,hW7⟩:∃W,W=(w6.setCell ⟨g3,1,none⟩ (.string X)).setCell ⟨g3,8,none⟩ (.int .i64 p):=⟨_,rfl⟩
 have hm7:Mv g3 w6 W7:=by rw [hW7];exact ((Mv.refl g3 w6).set 1 _).set 8 _
 have HA7:Hid (CB W7 g3 28 [.int .i64 kd,.string X,.string ⟨#[]⟩,.string ⟨#[]⟩,.slice none 0 0,.slice none 0 0,.slice none 0 0,.slice none 0 0,.int .i64 p]):=by rw [hW7];exact (HC3.out.set 1 _).set 8 _
 have HR7:=h_ (HC4.out.mv hm7 hg34)
 have HM7:Hid (Mv b w W7):=by rw [hW7];exact (hmw.put 1 g3 hg3w _).put 8 g3 hg3w _
 have HP7:Hid (XS W7 b K D (m.go (namedR d)).void):=hxw.ch (Ch.of_mv hm7) (fun k e=>by have e':k=g3:=e;omega)
 have HIS:=h_ k1
 have HNX:=h_ hX
 have HW7:=h_ hW7
 have c1:=HC3.out.c 1 rfl
 have f1:=HC3.out.fr 1
 have c8:=HC3.out.c 8 rfl
 have f8:=HC3.out.fr 8
 clear hr6 hm6 hX hv hxp hr0 hrq hrd hrm htk3 k1 k2 k3 k4 k5 hxw hmw hm7 hW7 HC HRR
 go_upto_region 7 with fail
 rw [←HW7.out]
 clear HW7 c1 f1 c8 f8 HC3 HC4
 have c0:=HA7.out.c 0 rfl
 have c1:=HA7.out.c 1 rfl
 have c2:=HA7.out.c 2 rfl
 have c3:=HA7.out.c 3 rfl
 have c4:=HA7.out.c 4 rfl
 have c5:=HA7.out.c 5 rfl
 have c6:=HA7.out.c 6 rfl
 have c7:=HA7.out.c 7 rfl
 have c8:=HA7.out.c 8 rfl
 have d0:=HR7.out.c 0 rfl
 have f0:=HR7.out.fr 0
 have d1:=HR7.out.c 1 rfl
 have f1:=HR7.out.fr 1
 have d2:=HR7.out.c 2 rfl
 have f2:=HR7.out.fr 2
 have d3:=HR7.out.c 3 rfl
 have f3:=HR7.out.fr 3
 have d4:=HR7.out.c 4 rfl
 have f4:=HR7.out.fr 4
 have d5:=HR7.out.c 5 rfl
 have f5:=HR7.out.fr 5
 have d6:=HR7.out.c 6 rfl
 have f6:=HR7.out.fr 6
 have d7:=HR7.out.c 7 rfl
 have f7:=HR7.out.fr 7
 have d8:=HR7.out.c 8 rfl
 have f8:=HR7.out.fr 8
 unfold zNode at HR7
 go_wp2_with fail
 have hres:=HR7.out.all [.int .i64 kd,.string X,.string ⟨#[]⟩,.string ⟨#[]⟩,.slice none 0 0,.slice none 0 0,.slice none 0 0,.slice none 0 0,.int .i64 p] rfl
 have hmf:=sets_put HM7.out hg4w 0 [.int .i64 kd,.string X,.string ⟨#[]⟩,.string ⟨#[]⟩,.slice none 0 0,.slice none 0 0,.slice none 0 0,.slice none 0 0,.int .i64 p]
 have hpf:=HP7.out.sets (g:=g4) (by omega) 0 [.int .i64 kd,.string X,.string ⟨#[]⟩,.string ⟨#[]⟩,.slice none 0 0,.slice none 0 0,.slice none 0 0,.slice none 0 0,.int .i64 p]
 simp only [sets,Nat.reduceAdd] at hres hmf hpf
 refine bodyPost_ret (resNode rfl _ rfl hres) rfl ?_
 exact ⟨x,X,p,HNX.out,rfl,HIS.out,hpf,hmf⟩
end Go.Proofs.YtcddbfdbhjkjgaaGreatDoor
