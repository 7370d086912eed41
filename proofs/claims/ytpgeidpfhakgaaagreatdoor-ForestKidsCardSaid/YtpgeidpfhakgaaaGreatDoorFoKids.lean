import Derived.Test.YtpgeidpfhakgaaaGreatDoorQh
import Derived.Test.YtpgeidpfhakgaaaGreatDoorFoEnds
set_option maxHeartbeats 12800000
set_option maxRecDepth 20000
namespace Go.Proofs.YtpgeidpfhakgaaaGreatDoor
open Go.RowKit
theorem sumK_mono (F:List Spt):∀{i j:Nat},i<=j->sumK F i<=sumK F j
 |i,0,h=>by rw [Nat.le_zero.1 h];exact n_ _
 |i,j+1,h=>by
  rcases Nat.eq_or_lt_of_le h with rfl|h
  ·exact n_ _
  ·have:=sumK_mono F (i:=i) (j:=j) (by omega);rw [sumK];omega
theorem fkids_law (c:GC) (xs:List Value) (w:World) (hx:DxsAt w (gChart c) xs) (hr:c.rng) (hf:c.fit) (hK:KwAt w) (hEr:ErrAt w) (hSg:SgAt w) (hPw:PowTab w) :
  Calls Tryz.prog 8 #[.agg xs.toArray] w λ e w'=>e=.returned (.bool true)/\Below w.heap.size w w':=by
 have HEE:Hid (Ee w):=⟨⟨hK,hEr⟩,hSg,hPw⟩
 obtain ⟨x0,x1,x2,x3,x4,x5,x6,x7,x8,x9,rfl⟩:=cells10 (chart_cells hx)
 obtain ⟨W0,hW0⟩:∃W,W=w.alloc (.cells #[x0,x1,x2,x3,x4,x5,x6,x7,x8,x9] 29):=⟨_,rfl⟩
 obtain ⟨g0,hg0⟩:∃g,g=w.heap.size:=⟨_,rfl⟩
 have hal:Below w.heap.size w W0:=by rw [hW0];exact (b_ _ w).alloc (n_ _) _
 have HB0:=h_ hal
 have HC0:Hid (CB W0 g0 29 [x0,x1,x2,x3,x4,x5,x6,x7,x8,x9]):=by rw [hW0,hg0];exact CB.new w _ [x0,x1,x2,x3,x4,x5,x6,x7,x8,x9]
 have ro:∀u∈[x0,x1,x2,x3,x4,x5,x6,x7,x8,x9],u.oneCell'=true:=hx.ones;have HS:=h_ (small9_any W0 (HEE.out.below hal));have HPR:=h_ (λ (W:World) (hb:Below w.heap.size w W)=>flat_any W c _ (HEE.out.below hb) (hx.below hb) hr (fit_lenN _ hf.2));clear hK hEr hSg hPw hx hr hf hal;have o0:=ro x0 (by simp);have o1:=ro x1 (by simp);have o2:=ro x2 (by simp);have o3:=ro x3 (by simp);have o4:=ro x4 (by simp);have o5:=ro x5 (by simp);have o6:=ro x6 (by simp);have o7:=ro x7 (by simp);have o8:=ro x8 (by simp);have o9:=ro x9 (by simp);clear ro;go_enter Tryz.func8,Tryz.ntmps8;go_upto_region 1 with fail;rw [<-hW0,<-hg0];clear hW0 hg0 o0 o1 o2 o3 o4 o5 o6 o7 o8 o9;go_wp2_with fail;refine HS.out.mono ?_;rintro e w1 ⟨rfl,hb1⟩;have HB1:=h_ (HB0.out.trans (hb1.mono HB0.out.size));have HC1:=h_ (HC0.out.below hb1);clear hb1 HS HC0 HB0;have u0:=HC1.out.c 0 rfl;have u1:=HC1.out.c 1 rfl;have u2:=HC1.out.c 2 rfl;have u3:=HC1.out.c 3 rfl;have u4:=HC1.out.c 4 rfl;have u5:=HC1.out.c 5 rfl;have u6:=HC1.out.c 6 rfl;have u7:=HC1.out.c 7 rfl;have u8:=HC1.out.c 8 rfl;have u9:=HC1.out.c 9 rfl;go_wp2_with fail;refine (HPR.out w1 HB1.out).mono ?_;rintro e w3 ⟨v3,rfl,hf3⟩;have HB3:=h_ (HB1.out.trans (hf3.bl.mono HB1.out.size));clear u0 u1 u2 u3 u4 u5 u6 u7 u8 u9 HC1 HPR HEE
 obtain ⟨P,hP⟩:∃P,(prR c).2=P:=⟨_,rfl⟩
 have hno:=hf3.no;have hyes:=hf3.yes;rw [hP] at hno hyes ⊢;clear hf3 hP
 by_cases hz:P=0
 rotate_left
 ·have h2:(P != 0)=true:=by simpa [bne] using hz
  clear hno hyes hz;go_wp2_with fail;go_ret;exact ⟨rfl,HB3.out⟩
 subst hz;obtain ⟨hsp,hn64⟩:=hyes rfl;have hFo:=lay_fo c.root;have hN:=layN_len c.root (-1) 0 0
 obtain ⟨F,hF⟩:∃F,layN c.root (-1) 0 0=F:=⟨_,rfl⟩
 rw [hF] at hsp hFo hN;clear hF hno hyes;obtain ⟨g,cc,cur,rfl,h1,h2,h3,h4,h5,hrow⟩:=hsp.row (by intro e;have:=hFo.pos;rw [e] at this;cases this)
 have hF64:F.length<=64:=by omega
 clear hsp h1 h2 h3 h4 h5 hN hn64 cur
 have HUP:Hid (∀(W:World) (x:Int),Below w3.heap.size w3 W->Calls Tryz.prog 23 #[.slice (some ⟨g,0,none⟩) F.length cc,.int .i64 x] W λ e w'=>∃(A:Option Addr) (c:Nat),e=.returned (.slice A (upF F x).length c)/\IntAt w' A (upF F x)/\Below W.heap.size W w'):=λ W x hb=>by
  refine (fup_any W g cc F x (hrow.below hb) (by omega)).mono ?_;rintro e w' ⟨v,rfl,h1,h2⟩;obtain ⟨A,c,rfl,_,_,hA⟩:=h1.at_;exact ⟨A,c,rfl,hA,h2⟩
 have HKD:Hid (∀(W:World) (i:Nat),Below w3.heap.size w3 W->Calls Tryz.prog 26 #[.slice (some ⟨g,0,none⟩) F.length cc,.int .i64 (i:Int)] W λ e w'=>∃(A:Option Addr) (c:Nat),e=.returned (.slice A (kidsF F i).length c)/\IntAt w' A (kidsF F i)/\Below W.heap.size W w'):=λ W i hb=>by
  refine (fkids_any W g cc F i (hrow.below hb) (by omega)).mono ?_;rintro e w' ⟨v,rfl,h1,h2⟩;obtain ⟨A,c,rfl,_,_,hA⟩:=h1.at_;exact ⟨A,c,rfl,hA,h2⟩
 have HFO:=h_ hFo
 obtain ⟨N,hN⟩:∃N,F.length=N:=⟨_,rfl⟩
 rw [hN] at hF64 HUP HKD ⊢;have HN:=h_ hN;have HF64:=h_ hF64
 have hN64:(N:Int)<=64:=by omega
 have HSM:Hid (sumK F N+1=N):=by show _=_;rw [<-hN];exact hFo.sum_eq
 clear hN hrow hFo hF64;go_wp2_with fail
 go_loopw [6,7] (λ nv iv wr=>∃i:Nat,i<=N/\nv=.int .i64 ((sumK F i:Nat):Int)/\iv=.int .i64 (i:Int)/\Hid (Below w3.heap.size w3 wr)) (λ _ iv _=>N-(intOf iv).toNat)
 case atStart=>exact ⟨0,Nat.zero_le _,rfl,rfl,h_ (b_ _ _)⟩
 case round =>
  obtain ⟨i,hi,rfl,rfl,HBR⟩:=hrel
  by_cases him:i<N
  rotate_left
  ·have him':¬(i:Int)<N:=by omega
   obtain ⟨S,hS⟩:∃S:Int,((sumK F i:Nat):Int)=S:=⟨_,rfl⟩
   have HS:Hid (S=(N:Int)-1):=by
    have h1:=HSM.out
    have e:i=N:=by omega
    show _=_;rw [<-hS,e];omega
   have HU0:=HUP.out wr 0 HBR.out;rw [HFO.out.up0] at HU0;have HU:=h_ HU0
   have hn1:(1:Int)<=(N:Int):=by have:=HSM.out;omega
   rw [hS];obtain rfl:=HS.out;clear hi him hS HU0 HUP HKD;go_wp2_with fail;refine HU.out.mono ?_;rintro e w4 ⟨A,c4,rfl,_,hb4⟩;have HBF:=h_ (HB3.out.trans ((HBR.out.trans (hb4.mono HBR.out.size)).mono HB3.out.size));clear hb4 HU;go_wp2_with fail;go_ret;exact ⟨rfl,HBF.out⟩
  have him':(i:Int)<N:=by omega
  have HIM:=h_ him;have HKC:=h_ (HKD.out wr i HBR.out)
  obtain ⟨K,hK⟩:∃K,kidsF F (i:Int)=K:=⟨_,rfl⟩
  have HKE:=h_ hK
  have HS1:Hid (sumK F (i+1)=sumK F i+K.length/\sumK F (i+1)<=64):=by
   have h1:=sumK_mono F (i:=i+1) (j:=N) him;have h2:=HSM.out;have h3:=HF64.out;refine ⟨?_,by omega⟩;rw [sumK,hK]
  rw [hK] at HKC
  obtain ⟨S,hS⟩:∃S:Nat,sumK F i=S:=⟨_,rfl⟩
  rw [hS] at HS1 ⊢
  obtain ⟨L,hL⟩:∃L,K.length=L:=⟨_,rfl⟩
  have HL:=h_ hL;rw [hL] at HKC HS1
  have hSL:(S:Int)+(L:Int)<=64:=by have:=HS1.out;omega
  clear hi him hK HKD hS hL;go_wp2_with fail;refine HKC.out.mono ?_;rintro e w4 ⟨A,c4,rfl,hA4,hb4⟩;have HA4:=h_ hA4;have HB4:=h_ (HBR.out.trans (hb4.mono HBR.out.size));clear hA4 hb4 HKC;go_wp2_with fail
  go_loopw [6,9] (λ nv kv wq=>∃k:Nat,k<=L/\nv=.int .i64 (((S+k:Nat)):Int)/\kv=.int .i64 (k:Int)/\Hid (Below w4.heap.size w4 wq)) (λ _ kv _=>L-(intOf kv).toNat)
  case atStart=>exact ⟨0,Nat.zero_le _,rfl,rfl,h_ (b_ _ _)⟩
  case round =>
   rename World=>W0
   obtain ⟨k,hk,rfl,rfl,HBQ⟩:=hrel
   by_cases hkn:k<L
   rotate_left
   ·have hkn':¬(k:Int)<L:=by omega
    have HE:Hid (S+k=sumK F (i+1)):=by
     have:=HS1.out.1;show _=_;omega
    have HB5:=h_ (HB4.out.trans (HBQ.out.mono HB4.out.size));clear hkn hk;go_wp2_with fail;exact ⟨⟨i+1,by have:=HIM.out;omega,by rw [HE.out],rfl,HB5⟩,by have:=HIM.out;simp [intOf];omega⟩
   have hkn':(k:Int)<L:=by omega
   have HKN:=h_ hkn
   obtain ⟨c0,hc0⟩:∃x,K[k]?=some x:=⟨_,List.getElem?_eq_getElem (by rw [HL.out];exact hkn)⟩
   obtain ⟨gk,ok,rfl,_,z0⟩:=HA4.out.below HBQ.out k c0 hc0;have HB5:=h_ (HB4.out.trans (HBQ.out.mono HB4.out.size));have hup:=HFO.out.kid (i:=i) (c:=c0) (by rw [HKE.out];exact List.mem_of_getElem? hc0);have HUC:=h_ (HUP.out W0 c0 HB5.out);rw [hup] at HUC
   have HK1:Hid (0<k->∃(j:Nat) (c1:Int),k=j+1/\c1<c0/\∀W:World,Below w4.heap.size w4 W->W.cell? ⟨gk,ok+j,none⟩=some (.int .i64 c1)):=λ h0=>by
    obtain ⟨c1,hc1⟩:∃x,K[k-1]?=some x:=⟨_,List.getElem?_eq_getElem (by rw [HL.out];omega)⟩
    refine ⟨k-1,c1,by omega,?_,λ W hb=>?_⟩
    ·have hp:=kids_up (F:=F) (i:Int);rw [HKE.out] at hp
     have h1:=(List.getElem?_eq_some_iff.1 hc0)
     have h2:=(List.getElem?_eq_some_iff.1 hc1)
     obtain ⟨l1,e1⟩:=h1;obtain ⟨l2,e2⟩:=h2;have:=List.pairwise_iff_getElem.1 hp (k-1) k l2 l1 (by omega);rw [e1,e2] at this;exact this
    ·obtain ⟨g',o',e,_,hz⟩:=HA4.out.below hb (k-1) c1 hc1;injection e with e;injection e with e1 e2;subst e1 e2;exact hz
   have HC0:Hid (∀W:World,Below w4.heap.size w4 W->W.cell? ⟨gk,ok+k,none⟩=some (.int .i64 c0)):=λ W hb=>by
    obtain ⟨g',o',e,_,hz⟩:=HA4.out.below hb k c0 hc0;injection e with e;injection e with e1 e2;subst e1 e2;exact hz
   have hk64:(k:Int)<=64:=by omega
   clear hkn hk hc0 hup;go_upto_region 14 with (refine HUC.out.mono ?_);rintro e w6 ⟨A6,c6,rfl,hA6,hb6⟩;obtain ⟨g6,o6,rfl,_,y0⟩:=hA6 0 (i:Int) rfl;rw [Nat.add_zero] at y0;have HB6:=h_ (HBQ.out.trans (hb6.mono HBQ.out.size))
   obtain ⟨U,hU⟩:∃U,((i:Int)::upF F (i:Int)).length=U:=⟨_,rfl⟩
   have hU0:((U:Int)==0)=false:=by
    rw [<-hU,List.length_cons];simp;omega
   have hU1:(0:Int)<(U:Int):=by
    rw [<-hU,List.length_cons];omega
   rw [hU];clear hA6 hb6 HUC hU z0
   obtain ⟨M,hM⟩:∃M:Int,((S+k:Nat):Int)=M:=⟨_,rfl⟩
   have HM:Hid (((S+(k+1):Nat):Int)=M+1):=by show _=_;omega
   have hM0:0<=M:=by omega
   have hM1:M<=100:=by have:=HKN.out;omega
   have z0:=HC0.out w6 HB6.out
   have hii:((i:Int) != (i:Int))=false:=by simp
   rw [hM];clear hM;go_wp2_with fail
   by_cases hk0:0<k
   ·obtain ⟨j,c1,hkj,hlt,hcj⟩:=HK1.out hk0;have z1:=hcj w6 HB6.out
    have hgk:decide (0<k)=true:=by simp;omega
    have hgk2:decide ((0:Int)<(k:Int))=true:=by simp;omega
    have hk1:(0:Int)<(k:Int):=by omega
    have hwk:IntKind.i64.wrap ((k:Int)-1)=(j:Int):=by rw [wrap_in (by omega) (by omega)];omega
    have hj0:(0:Int)<=(j:Int):=by omega
    have hjL:(j:Int)<(L:Int):=by omega
    have hle:decide (c0<=c1)=false:=by simp;omega
    clear hk0 HK1 hcj hkj hlt HC0
    go_quiet (fail)
    go_wp2_with fail;exact ⟨⟨k+1,by have:=HKN.out;omega,by rw [HM.out],rfl,HB6.out.trans ((drewN_below w6 _).mono HB6.out.size)⟩,by have:=HKN.out;simp [intOf];omega⟩
   ·have hgk:decide (0<k)=false:=by simp;omega
    have hgk2:decide ((0:Int)<(k:Int))=false:=by simp;omega
    have hk1:¬(0:Int)<(k:Int):=by omega
    clear hk0 HK1 HC0
    go_quiet (fail)
    go_wp2_with fail;exact ⟨⟨k+1,by have:=HKN.out;omega,by rw [HM.out],rfl,HB6.out.trans ((drewN_below w6 _).mono HB6.out.size)⟩,by have:=HKN.out;simp [intOf];omega⟩
end Go.Proofs.YtpgeidpfhakgaaaGreatDoor
