import Derived.Test.YtpgeidpfhakgaaaGreatDoorQh
import Derived.Test.YtpgeidpfhakgaaaGreatDoorQGcO
import Derived.Test.YtpgeidpfhakgaaaGreatDoorGcP
import Derived.BigQuiet
set_option maxHeartbeats 12800000
set_option maxRecDepth 20000
namespace Go.Proofs.YtpgeidpfhakgaaaGreatDoor
open Go.RowKit
theorem wrap_in {x:Int} (h:-9223372036854775808<=x) (h':x<=9223372036854775807):IntKind.i64.wrap x=x:=by
 rw [IntKind.wrap_i64];omega
theorem Fo.at_ {F:List Spt} (h:Fo F) {i:Nat} {s:Spt} (hs:F[i]?=some s):∃e:Nat,s.fin=(e:Int)/\i<e/\e<=F.length:=by
 obtain ⟨h1,h2⟩:=h.fin i s hs;exact ⟨s.fin.toNat,by omega,by omega,by omega⟩
theorem fends_law (c:GC) (xs:List Value) (w:World) (hx:DxsAt w (gChart c) xs) (hr:c.rng) (hf:c.fit) (hK:KwAt w) (hEr:ErrAt w) (hSg:SgAt w) (hPw:PowTab w) :
  Calls Tryz.prog 9 #[.agg xs.toArray] w λ e w'=>e=.returned (.bool true)/\Below w.heap.size w w':=by
 have HEE:Hid (Ee w):=⟨⟨hK,hEr⟩,hSg,hPw⟩
 obtain ⟨x0,x1,x2,x3,x4,x5,x6,x7,x8,x9,rfl⟩:=cells10 (chart_cells hx)
 obtain ⟨W0,hW0⟩:∃W,W=w.alloc (.cells #[x0,x1,x2,x3,x4,x5,x6,x7,x8,x9] 29):=⟨_,rfl⟩
 obtain ⟨g0,hg0⟩:∃g,g=w.heap.size:=⟨_,rfl⟩
 have hal:Below w.heap.size w W0:=by rw [hW0];exact (b_ _ w).alloc (n_ _) _
 have HB0:=h_ hal
 have HC0:Hid (CB W0 g0 29 [x0,x1,x2,x3,x4,x5,x6,x7,x8,x9]):=by rw [hW0,hg0];exact CB.new w _ [x0,x1,x2,x3,x4,x5,x6,x7,x8,x9]
 have ro:∀u∈[x0,x1,x2,x3,x4,x5,x6,x7,x8,x9],u.oneCell'=true:=hx.ones;have HS:=h_ (small9_any W0 (HEE.out.below hal));have HPR:=h_ (λ (W:World) (hb:Below w.heap.size w W)=>flat_any W c _ (HEE.out.below hb) (hx.below hb) hr (fit_lenN _ hf.2));clear hK hEr hSg hPw hx hr hf hal;have o0:=ro x0 (by simp);have o1:=ro x1 (by simp);have o2:=ro x2 (by simp);have o3:=ro x3 (by simp);have o4:=ro x4 (by simp);have o5:=ro x5 (by simp);have o6:=ro x6 (by simp);have o7:=ro x7 (by simp);have o8:=ro x8 (by simp);have o9:=ro x9 (by simp);clear ro;go_enter Tryz.func9,Tryz.ntmps9;go_upto_region 1 with fail;rw [<-hW0,<-hg0];clear hW0 hg0 o0 o1 o2 o3 o4 o5 o6 o7 o8 o9;go_wp2_with fail;refine HS.out.mono ?_;rintro e w1 ⟨rfl,hb1⟩;have HB1:=h_ (HB0.out.trans (hb1.mono HB0.out.size));have HC1:=h_ (HC0.out.below hb1);clear hb1 HS HC0 HB0;have u0:=HC1.out.c 0 rfl;have u1:=HC1.out.c 1 rfl;have u2:=HC1.out.c 2 rfl;have u3:=HC1.out.c 3 rfl;have u4:=HC1.out.c 4 rfl;have u5:=HC1.out.c 5 rfl;have u6:=HC1.out.c 6 rfl;have u7:=HC1.out.c 7 rfl;have u8:=HC1.out.c 8 rfl;have u9:=HC1.out.c 9 rfl;go_wp2_with fail;refine (HPR.out w1 HB1.out).mono ?_;rintro e w3 ⟨v3,rfl,hf3⟩;have HB3:=h_ (HB1.out.trans (hf3.bl.mono HB1.out.size));clear u0 u1 u2 u3 u4 u5 u6 u7 u8 u9 HC1 HPR HEE
 obtain ⟨P,hP⟩:∃P,(prR c).2=P:=⟨_,rfl⟩
 have hno:=hf3.no;have hyes:=hf3.yes;rw [hP] at hno hyes ⊢;clear hf3 hP
 by_cases hz:P=0
 rotate_left
 ·have h2:(P != 0)=true:=by simpa [bne] using hz
  clear hno hyes hz;go_wp2_with fail;go_ret;exact ⟨rfl,HB3.out⟩
 subst hz;obtain ⟨hsp,hn64⟩:=hyes rfl;have hFo:=lay_fo c.root;have hN:=layN_len c.root (-1) 0 0
 obtain ⟨F,hF⟩:∃F,layN c.root (-1) 0 0=F:=⟨_,rfl⟩
 rw [hF] at hsp hFo hN;clear hF hno hyes;obtain ⟨g,cc,cur,rfl,h1,h2,h3,h4,h5,hrow⟩:=hsp.row (by intro e;have:=hFo.pos;rw [e] at this;cases this)
 have hF64:F.length<=64:=by omega
 clear hsp h1 h2 h3 h4 h5 hN hn64 cur;have HSP:=h_ hrow;have HFO:=h_ hFo;have HWT:Hid (∀(W:World) (x y:Int),Below w3.heap.size w3 W->Calls Tryz.prog 22 #[.slice (some ⟨g,0,none⟩) F.length cc,.int .i64 x,.int .i64 y] W λ e w'=>e=.returned (.bool (inW F x y))/\w'=W):=λ W x y hb=>fwithin_any W g cc F x y (hrow.below hb)
 obtain ⟨N,hN⟩:∃N,F.length=N:=⟨_,rfl⟩
 have hpos:=hFo.pos;rw [hN] at hF64 hpos HWT ⊢;have HN:=h_ hN;have HF64:=h_ hF64;have HPOS:=h_ hpos
 obtain ⟨s0,hs0⟩:∃s,F[0]?=some s:=⟨_,List.getElem?_eq_getElem (by omega)⟩
 have e0:=hrow.f 0 s0 hs0;rw [(hFo.root s0 hs0).2,hN] at e0;have HE0:=h_ e0;clear e0 hs0 hN hrow hFo hF64 hpos;go_wp2_with fail
 go_loopw [6] (λ iv wr=>∃i:Nat,i<=N/\iv=.int .i64 (i:Int)/\Hid (Below w3.heap.size w3 wr)) (λ iv _=>N-(intOf iv).toNat)
 case atStart=>exact ⟨0,Nat.zero_le _,rfl,h_ (b_ _ _)⟩
 case round =>
  obtain ⟨i,hi,rfl,HBR⟩:=hrel
  by_cases him:i<N
  rotate_left
  ·have him':¬(i:Int)<N:=by omega
   have p0:(0:Int)<(N:Int):=by have:=HPOS.out;omega
   have e0:wr.cell? ⟨g,0*5+4,none⟩=some (.int .i64 (N:Int)):=by
    rw [World.cell?_of_block (HBR.out.block g HSP.out.lt)];exact HE0.out
   have hBF:=h_ (HB3.out.trans (HBR.out.mono HB3.out.size));clear hi him HWT;go_wp2_with fail;go_ret;exact ⟨rfl,hBF.out⟩
  have him':(i:Int)<N:=by omega
  have HIM:=h_ him
  obtain ⟨s,hs⟩:∃s,F[i]?=some s:=⟨_,List.getElem?_eq_getElem (by rw [HN.out];exact him)⟩
  obtain ⟨E,hE,hE1,hE2⟩:=HFO.out.at_ hs
  have HF4:Hid (∀W:World,Below w3.heap.size w3 W->W.cell? ⟨g,i*5+4,none⟩=some (.int .i64 (E:Int))/\W.cell? ⟨g,i*5+3,none⟩=some (.int .i64 s.dep)/\W.cell? ⟨g,i*5+2,none⟩=some (.int .i64 s.par)):=λ W hb=>by
   have h:=HSP.out.below hb;exact ⟨by rw [<-hE];exact h.f i s hs,h.d i s hs,h.p i s hs⟩
  have HPR:Hid (0<i->∃(p:Nat) (t:Spt),s.par=(p:Int)/\p<i/\s.dep=t.dep+1/\∀W:World,Below w3.heap.size w3 W->W.cell? ⟨g,p*5+3,none⟩=some (.int .i64 t.dep)):=λ h0=>by
   obtain ⟨p,t,k1,k2,k3,_,_,k6⟩:=HFO.out.par i s h0 hs;exact ⟨p,t,k1,k2,k6,λ W hb=>(HSP.out.below hb).d p t k3⟩
  have HDR:Hid (0<=s.dep/\s.dep<=64):=by
   have h1:=HFO.out.dep i s hs;have h2:=HF64.out;exact ⟨h1.1,by omega⟩
  have HIN:Hid (∀k:Nat,k<N->inW F (k:Int) (i:Int)=(decide ((i:Int)<(k:Int))&&decide ((k:Int)<(E:Int)))):=λ k hk=>by
   rw [inW_nat (by rw [HN.out];exact hk) hs,hE]
  rw [HN.out] at hE2;have HEB:=h_ (And.intro hE1 hE2);obtain ⟨sk,sn,sp,sd,sf⟩:=s;simp only at HF4 HPR HDR;clear hs hE hE1 hE2 hi him;clear HSP HFO HN HPOS HE0;go_wp2_with fail
  go_loopw [7,8] (λ nv kv wq=>∃k:Nat,k<=N/\nv=.int .i64 (inC i E k:Nat)/\kv=.int .i64 (k:Int)/\Hid (Below w3.heap.size w3 wq)) (λ _ kv _=>N-(intOf kv).toNat)
  case atStart=>exact ⟨0,Nat.zero_le _,by rw [inC_zero];rfl,rfl,HBR⟩
  case round =>
   rename World=>W0
   obtain ⟨k,hk,rfl,rfl,HBQ⟩:=hrel;clear HBR
   by_cases hkn:k<N
   ·have hkn':(k:Int)<N:=by omega
    have HKN:=h_ hkn;have hfin:=(HF4.out W0 HBQ.out).1;have HWC:=h_ (HWT.out W0 (k:Int) (i:Int) HBQ.out);rw [HIN.out k hkn] at HWC
    have hi64:(i:Int)<=64:=by have:=HIM.out;have:=HF64.out;omega
    have hk64:(k:Int)<=64:=by have:=HF64.out;omega
    by_cases hik:i<k
    ·have hik':(i:Int)<(k:Int):=by omega
     have e1:decide ((i:Int)<(k:Int))=true:=by simp;omega
     rw [e1,Bool.true_and] at HWC
     by_cases hke:k<E
     ·have hke':(k:Int)<(E:Int):=by omega
      have e2:decide ((k:Int)<(E:Int))=true:=by simp;omega
      rw [e2] at HWC;have HY:=h_ (inC_yes hik hke)
      have hc64:(inC i E k:Int)<=64:=by have:=HF64.out;unfold inC;omega
      have HM:Hid (inC i E k=inC i E k):=rfl
      obtain ⟨M,hM⟩:∃M,inC i E k=M:=⟨_,rfl⟩
      rw [hM] at hc64 HY ⊢;clear hik hke hk hkn HIN HM hM;go_wp2_with fail;refine HWC.out.mono ?_;rintro e wz ⟨rfl,rfl⟩;go_wp2_with fail;exact ⟨⟨k+1,by have:=HKN.out;omega,by rw [HY.out];rfl,rfl,HBQ⟩,by have:=HKN.out;simp [intOf];omega⟩
     ·have hke':¬(k:Int)<(E:Int):=by omega
      have e2:decide ((k:Int)<(E:Int))=false:=by simp;omega
      rw [e2] at HWC;have HY:=h_ (inC_no (i:=i) (e:=E) (k:=k) (λ h=>hke h.2))
      obtain ⟨M,hM⟩:∃M,inC i E k=M:=⟨_,rfl⟩
      rw [hM] at HY ⊢;clear hik hke hk hkn HIN hM;go_wp2_with fail;refine HWC.out.mono ?_;rintro e wz ⟨rfl,rfl⟩;go_wp2_with fail;exact ⟨⟨k+1,by have:=HKN.out;omega,by rw [HY.out],rfl,HBQ⟩,by have:=HKN.out;simp [intOf];omega⟩
    ·have hik':¬(i:Int)<(k:Int):=by omega
     have e1:decide ((i:Int)<(k:Int))=false:=by simp;omega
     rw [e1,Bool.false_and] at HWC;have HY:=h_ (inC_no (i:=i) (e:=E) (k:=k) (λ h=>hik h.1))
     obtain ⟨M,hM⟩:∃M,inC i E k=M:=⟨_,rfl⟩
     rw [hM] at HY ⊢;clear hik hk hkn HIN hM;go_wp2_with fail;refine HWC.out.mono ?_;rintro e wz ⟨rfl,rfl⟩;go_wp2_with fail;exact ⟨⟨k+1,by have:=HKN.out;omega,by rw [HY.out],rfl,HBQ⟩,by have:=HKN.out;simp [intOf];omega⟩
   ·have hkn':¬(k:Int)<N:=by omega
    have HCT:Hid (((inC i E k:Nat):Int)=(E:Int)-(i:Int)-1):=by
     have h1:=HEB.out
     have e:k=N:=by omega
     show _=_;subst e;unfold inC;omega
    obtain ⟨M,hM⟩:∃M:Int,((inC i E k:Nat):Int)=M:=⟨_,rfl⟩
    rw [hM] at HCT ⊢;obtain ⟨hfin,hfd,hfp⟩:=HF4.out W0 HBQ.out
    have hE64:(E:Int)<=64:=by have:=HEB.out;have:=HF64.out;omega
    have hiE:(i:Int)<(E:Int):=by have:=HEB.out;omega
    have hne:(M != (E:Int)-(i:Int)-1)=false:=by simp [HCT.out]
    clear hM hk hkn HIN HF4
    by_cases hi0:0<i
    ·obtain ⟨p,tt,rfl,hpi,rfl,hpc⟩:=HPR.out hi0
     have hi0':(0:Int)<(i:Int):=by omega
     have hgi:decide (0<i)=true:=by simp;omega
     have q1:=hpc W0 HBQ.out
     have hp0:(0:Int)<=(p:Int):=by omega
     have hpN:(p:Int)<(N:Int):=by have:=HIM.out;omega
     have hdr:=HDR.out
     have hd1:-9223372036854775808<=tt.dep+1:=by omega
     have hd2:tt.dep+1<=9223372036854775807:=by omega
     obtain ⟨td,htd⟩:∃x,tt.dep=x:=⟨_,rfl⟩
     rw [htd] at q1 hfd hd1 hd2;clear hpc HPR HDR hdr hi0 htd hpi;go_wp2_with fail;have hw1:IntKind.i64.wrap ((E:Int)-(i:Int))=(E:Int)-(i:Int):=wrap_in (by omega) (by omega);have hw2:IntKind.i64.wrap ((E:Int)-(i:Int)-1)=(E:Int)-(i:Int)-1:=wrap_in (by omega) (by omega);have hw3:IntKind.i64.wrap (td+1)=td+1:=wrap_in (by omega) (by omega)
     go_quiet (fail)
     go_wp2_with fail;exact ⟨⟨i+1,by have:=HIM.out;omega,rfl,HBQ.out.trans ((drewN_below W0 _).mono HBQ.out.size)⟩,by have:=HIM.out;simp [intOf];omega⟩
    ·have hi0':¬(0:Int)<(i:Int):=by omega
     have hi1:decide ((0:Int)<(i:Int))=false:=by simp;omega
     have hgi:decide (0<i)=false:=by simp;omega
     clear HPR hi0;go_wp2_with fail;have hw1:IntKind.i64.wrap ((E:Int)-(i:Int))=(E:Int)-(i:Int):=wrap_in (by omega) (by omega);have hw2:IntKind.i64.wrap ((E:Int)-(i:Int)-1)=(E:Int)-(i:Int)-1:=wrap_in (by omega) (by omega)
     go_quiet (fail)
     go_wp2_with fail;exact ⟨⟨i+1,by have:=HIM.out;omega,rfl,HBQ.out.trans ((drewN_below W0 _).mono HBQ.out.size)⟩,by have:=HIM.out;simp [intOf];omega⟩
end Go.Proofs.YtpgeidpfhakgaaaGreatDoor
