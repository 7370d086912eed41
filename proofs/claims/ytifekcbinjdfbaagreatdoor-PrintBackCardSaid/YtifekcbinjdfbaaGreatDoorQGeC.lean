import Derived.Test.YtifekcbinjdfbaaGreatDoorQh
import Derived.Test.YtifekcbinjdfbaaGreatDoorQEwF
import Derived.Test.YtifekcbinjdfbaaGreatDoorEB
import Derived.Test.YtifekcbinjdfbaaGreatDoorXE
set_option maxHeartbeats 12800000
set_option maxRecDepth 20000
namespace Go.Proofs.YtifekcbinjdfbaaGreatDoor
open Go.RowKit
theorem nodeOk_true {k n:Int} {s:List UInt8} {o:Int} {m:Nat} (h:nodeOk k n s o m=true) :
  (k=1/\0<=n/\s=[]/\o=0/\m=0)∨(k=2/\n=0/\isNm s=true/\o=0/\m=0)∨(k=3/\n=0/\isNm s=true/\o=0/\m=0) ∨
  (k=4/\n=0/\s=[]/\(o=14∨o=15)/\m=1)∨(k=5/\n=0/\s=[]/\rowOf o<6/\m=2):=by
 unfold nodeOk at h
 by_cases h1:k=1
 ·rw [if_pos h1] at h;simp only [Bool.and_eq_true,decide_eq_true_eq] at h;exact .inl ⟨h1,h.1.2,h.2,h.1.1.1,h.1.1.2⟩
 ·rw [if_neg h1] at h
  by_cases h2:k=2∨k=3
  ·rw [if_pos h2] at h;simp only [Bool.and_eq_true,decide_eq_true_eq] at h;rcases h2 with h2|h2
   ·exact .inr (.inl ⟨h2,h.1.2,h.2,h.1.1.1,h.1.1.2⟩)
   ·exact .inr (.inr (.inl ⟨h2,h.1.2,h.2,h.1.1.1,h.1.1.2⟩))
  ·rw [if_neg h2] at h
   by_cases h4:k=4
   ·rw [if_pos h4] at h;simp only [Bool.and_eq_true,Bool.or_eq_true,decide_eq_true_eq] at h;exact .inr (.inr (.inr (.inl ⟨h4,h.1.1.1,h.1.1.2,h.1.2,h.2⟩)))
   ·rw [if_neg h4] at h
    split at h
    ·rename_i h5;simp only [Bool.and_eq_true,decide_eq_true_eq] at h;exact .inr (.inr (.inr (.inr ⟨h5,h.1.1.1,h.1.1.2,h.1.2,h.2⟩)))
    ·cases h
theorem sign_one {op:Int} (h:op=14∨op=15):∃j:Nat,op=(j:Int)/\j<16/\sgs[j]?=some [if op=14 then 45 else 33]:=by
 rcases h with rfl|rfl
 ·exact ⟨14,rfl,by omega,rfl⟩
 ·exact ⟨15,rfl,by omega,rfl⟩
theorem sign_both {op:Int} (h:rowOf op<6):∃j:Nat,op=(j:Int)/\j<16/\sgs[j]?=some (sgOf op):=by
 rcases row_cases h with rfl|rfl|rfl|rfl|rfl|rfl|rfl|rfl|rfl|rfl|rfl|rfl|rfl
 ·exact ⟨1,rfl,by omega,rfl⟩
 ·exact ⟨2,rfl,by omega,rfl⟩
 ·exact ⟨3,rfl,by omega,rfl⟩
 ·exact ⟨4,rfl,by omega,rfl⟩
 ·exact ⟨5,rfl,by omega,rfl⟩
 ·exact ⟨6,rfl,by omega,rfl⟩
 ·exact ⟨7,rfl,by omega,rfl⟩
 ·exact ⟨8,rfl,by omega,rfl⟩
 ·exact ⟨9,rfl,by omega,rfl⟩
 ·exact ⟨10,rfl,by omega,rfl⟩
 ·exact ⟨11,rfl,by omega,rfl⟩
 ·exact ⟨12,rfl,by omega,rfl⟩
 ·exact ⟨13,rfl,by omega,rfl⟩
theorem WQ.leaf {B b:Nat} {l:List UInt8} {n d:Nat} {w':World} {y:Option Ex} {e0:Ex} {c:Bool} (hx:y=some e0) (h0:e0.nst=0) (h1:e0.size=1) (hc:decide (List.length (l++e0.tx)<=16384)=c)
  (hd:d<=20) (hn:n+1<=16384) (hw:WB w' B b (l++e0.tx) (n+1) d):WQ B b l n d Ex.tx w' c (wrX y n d l.length):=by
 rw [hx];rw [List.length_append] at hc;cases c
 ·have h:=of_decide_eq_false hc;exact WQ.no (wrX_not (by omega))
 ·have h:=of_decide_eq_true hc;exact WQ.yes e0 (wrX_of (by omega)) hw rfl (by rw [h1])
theorem exs_zero {l:List GX} (h:l.length=0):GX.exs l=[]:=by rw [List.eq_nil_of_length_eq_zero h,exs_nil]
theorem node_var {s:List UInt8} (h:isNm s=true):node 2 0 s 0 []=some (.var s 0):=by
 unfold node;rw [if_neg (λ h=>absurd h.1 (by decide)),if_pos ⟨rfl,rfl,h,rfl,rfl⟩]
theorem node_inn {s:List UInt8} (h:isNm s=true):node 3 0 s 0 []=some (.inn s 0):=by
 unfold node;rw [if_neg (λ h=>absurd h.1 (by decide)),if_neg (λ h=>absurd h.1 (by decide)),if_pos ⟨rfl,rfl,h,rfl,rfl⟩]
theorem itoa_short (n:Int) (h0:-9223372036854775808<=n) (h1:n<=9223372036854775807):(Lib.itoa n).length<=20:=by
 unfold Lib.itoa
 split
 ·have:=dec_len (u:=n.natAbs) 18 (by omega);rw [List.length_cons];omega
 ·have:=dec_len (u:=n.toNat) 18 (by omega);omega
theorem nm_small {S:ByteArray} (h:isNm S.data.toList=true):S.size<=24:=by
 obtain ⟨c,r,_,_,_,h2,_⟩:=isNm_parts h;have h3:S.data.toList.length=S.size:=rfl;omega
theorem len_two {α:Type} {l:List α} (h:l.length=2):∃x y,l=[x,y]:=by
 match l,h with
 |[x,y],_=>exact ⟨x,y,rfl⟩
theorem expr_step (u:World) (b:Nat) (hV:Wv u) (x:GX) (hr:x.rng) (ih:∀(i:Nat) (y:GX),x.subs[i]?=some y->WOpd u b y):WExp u b x:=by
 intro w v l n d hg hbl hwb hd hn hl;obtain ⟨kk,nn,ss,oo,subs,pp⟩:=x;obtain ⟨e0,e1,e2,e3,e4,e5,e6,e7,hrow⟩:=hg.out;simp only [GX.kind,GX.num,GX.name,GX.op,GX.p,GX.subs] at e0 e1 e2 e3 e4 e5 hrow ih;rw [GX.rng] at hr;obtain ⟨hr1,hr2,hr3,hr4⟩:=hr;rw [ex_mk];subst e0 e1 e2 e3
 obtain ⟨g1,hg1⟩:∃g1,g1=w.heap.size:=⟨_,rfl⟩
 obtain ⟨W0,hW0⟩:∃W0,W0=w.alloc (.cells #[.int .i64 v.kind,.int .i64 v.num,.string v.name,.int .i64 v.op,.slice v.A v.len v.cap,.int .i64 v.p] 40):=⟨_,rfl⟩
 have HA:Hid (WAt u b g1 v w W0 l n d):=by rw [hW0,hg1];exact WAt.new hbl hwb
 have hn1:g1≠b:=by have:=hwb.lt;omega
 have hgl:b<g1:=by have:=hwb.lt;omega
 have HV:=h_ (λ (W:World) (hb:Below u.heap.size u W)=>hV.below hb);have HFO:=h_ (λ (W:World) (hK:KwAt W)=>formed_any W v hr3 hK);have HIH:=h_ ih;have HROW:=h_ hrow;have HSUB:=h_ e5;have HRG:=h_ hr1;have HN1:=h_ hn1;have HGL:=h_ hgl;have HD:=h_ (And.intro hd (And.intro hn hl))
 obtain ⟨Y,hY⟩:∃Y,node v.kind v.num v.name.data.toList v.op (GX.exs subs)=Y:=⟨_,rfl⟩
 rw [hY];have HY:=h_ hY
 have HFULL:Hid (¬n+1<=16384->wrX Y n d l.length=none):=λ h=>by
  have:=wrX_full (x:=GX.mk v.kind v.num v.name.data.toList v.op subs 0) (d:=d) (L:=l.length) h;rw [ex_mk,hY] at this;exact this
 obtain ⟨k,num,S,op,A,len,cap,p⟩:=v;simp only [EV.val] at HFO ⊢;simp only at HY HSUB HRG HROW hW0;have HCN:=h_ (count_any W0 u.heap.size b l n d HA.out.wb (by omega))
 obtain ⟨c1,hc1⟩:∃c1,decide (n+1<=16384)=c1:=⟨_,rfl⟩
 rw [hc1] at HCN;have HC1:=h_ hc1
 obtain ⟨c2,hc2⟩:∃c2,nodeOk k num S.data.toList op len=c2:=⟨_,rfl⟩
 rw [hc2] at HFO;have HC2:=h_ hc2;clear hg hbl hwb hd hn hl hV ih hrow e4 e5 e6 e7 hr1 hr2 hr3 hr4 hn1 hgl hY hc1 hc2;go_enter Tryz.func151,Tryz.ntmps151;go_upto_region 1 with fail;rw [<-hW0,<-hg1];clear hW0 hg1;go_wp2_with fail;refine HCN.out.mono ?_;rintro e w1 ⟨rfl,hw,hk⟩;have HA1:=h_ (HA.out.go HN1.out hk hw);clear hw hk HCN HA;cases c1
 ·go_wp2_with fail;go_ret;exact ⟨false,rfl,WQ.no (HFULL.out (of_decide_eq_false HC1.out)),HA1.out.wk⟩
 have z0:=HA1.out.xp.c0;have z1:=HA1.out.xp.c1;have z2:=HA1.out.xp.c2;have z3:=HA1.out.xp.c3;have z4:=HA1.out.xp.c4;have z5:=HA1.out.xp.c5;simp only at z0 z1 z2 z3 z4 z5;have HF:=h_ (HFO.out w1 (HV.out w1 HA1.out.bl).kw);clear HFO HFULL;go_wp2_with fail;refine HF.out.mono ?_;rintro e w2 ⟨rfl,hb⟩;have HA2:=h_ (HA1.out.below HN1.out hb);clear hb HF HA1 z0 z1 z2 z3 z4 z5;cases c2
 ·have HNO:Hid (Y=none):=by
   show _=_;rw [<-HY.out];exact node_bad (by rw [exs_len,<-HSUB.out];exact HC2.out)
  go_wp2_with fail;go_ret;exact ⟨false,rfl,WQ.no (by rw [HNO.out];rfl),HA2.out.wk⟩
 have z0:=HA2.out.xp.c0;have z1:=HA2.out.xp.c1;have z2:=HA2.out.xp.c2;have z3:=HA2.out.xp.c3;have z4:=HA2.out.xp.c4;have z5:=HA2.out.xp.c5;simp only at z0 z1 z2 z3 z4 z5;rcases nodeOk_true HC2.out with ⟨rfl,h1,h2,rfl,rfl⟩|⟨rfl,rfl,h2,rfl,rfl⟩|⟨rfl,rfl,h2,rfl,rfl⟩|⟨rfl,rfl,h2,h3,rfl⟩|⟨rfl,rfl,h2,h3,rfl⟩
 ·have HT:=h_ (text_any num w2 HRG.out.1 HRG.out.2 (HV.out w2 HA2.out.bl).pw)
  obtain ⟨T,hT⟩:∃T:ByteArray,(⟨(Lib.itoa num).toArray⟩:ByteArray)=T:=⟨_,rfl⟩
  rw [hT] at HT;have HTT:=h_ hT;have H12:=h_ (And.intro h1 h2);clear h1 h2 hT;go_wp2_with fail;refine HT.out.mono ?_;rintro e w3 ⟨rfl,hb⟩;have HA3:=h_ (HA2.out.below HN1.out hb);clear hb HT HA2
  obtain ⟨g2,hg2⟩:∃g2,g2=w3.heap.size:=⟨_,rfl⟩
  obtain ⟨W4,hW4⟩:∃W4,W4=w3.alloc (.cells #[.string T] 9):=⟨_,rfl⟩
  have HA4:Hid (WAt u b g1 ⟨1,num,S,0,A,0,cap,p⟩ w W4 l (n+1) d):=by rw [hW4];exact HA3.out.alloc HN1.out _
  have HC:=h_ (put_any W4 u.heap.size b g2 1 l (n+1) d [T] HA4.out.wb (by rw [hW4,hg2];exact StR.one w3 T) rfl (by have:=HA3.out.wb.lt;omega)
   (λ t ht=>by rw [List.mem_singleton.1 ht,<-HTT.out];show (Lib.itoa num).toArray.size<=_;rw [List.size_toArray];have:=itoa_short num HRG.out.1 HRG.out.2;omega) (by omega) (by have:=HD.out.2.2;omega) HA4.out.bl.size)
  rw [flat_cons,flat_nil,List.append_nil] at HC
  obtain ⟨c3,hc3⟩:∃c3,decide (List.length (l++T.data.toList)<=16384)=c3:=⟨_,rfl⟩
  rw [hc3] at HC;have HC3:=h_ hc3;clear hc3;go_wp2_with fail;rw [<-hW4,<-hg2];clear hW4 hg2;refine HC.out.mono ?_;rintro e w5 ⟨rfl,hw,hk⟩;have HW:=h_ hw;have HK:=h_ hk;clear hw hk HC;go_wp2_with fail;go_ret;refine ⟨c3,rfl,?_,HA4.out.wk.trans HK.out⟩
  have hYY:Y=some (.int num 0):=by
   rw [<-HY.out,H12.out.2,exs_zero (HSUB.out.symm)];exact if_pos ⟨rfl,H12.out.1,HRG.out.2,rfl,rfl,rfl⟩
  have eT:T.data.toList=(Ex.int num 0).tx:=by rw [<-HTT.out];rfl
  have h3:=HC3.out;have h4:=HW.out;rw [eT] at h3 h4;exact WQ.leaf hYY rfl rfl h3 HD.out.1 (of_decide_eq_true HC1.out) h4
 ·have H2:=h_ h2;clear h2
  obtain ⟨g2,hg2⟩:∃g2,g2=w2.heap.size:=⟨_,rfl⟩
  obtain ⟨W4,hW4⟩:∃W4,W4=w2.alloc (.cells #[.string S] 9):=⟨_,rfl⟩
  have HA4:Hid (WAt u b g1 ⟨2,0,S,0,A,0,cap,p⟩ w W4 l (n+1) d):=by rw [hW4];exact HA2.out.alloc HN1.out _
  have HC:=h_ (put_any W4 u.heap.size b g2 1 l (n+1) d [S] HA4.out.wb (by rw [hW4,hg2];exact StR.one w2 S) rfl (by have:=HA2.out.wb.lt;omega)
   (λ t ht=>by
    have:=nm_small H2.out;simp only [List.mem_cons,List.not_mem_nil,or_false] at ht
    subst ht;omega) (by omega) (by have:=HD.out.2.2;omega) HA4.out.bl.size)
  have hfl:flat [S]=(Ex.var S.data.toList 0).tx:=by rw [flat_cons,flat_nil,List.append_nil];rfl
  rw [hfl] at HC
  obtain ⟨c3,hc3⟩:∃c3,decide (List.length (l++(Ex.var S.data.toList 0).tx)<=16384)=c3:=⟨_,rfl⟩
  rw [hc3] at HC;have HC3:=h_ hc3;clear hc3 hfl;go_wp2_with fail;rw [<-hW4,<-hg2];clear hW4 hg2;refine HC.out.mono ?_;rintro e w5 ⟨rfl,hw,hk⟩;have HW:=h_ hw;have HK:=h_ hk;clear hw hk HC;go_wp2_with fail;go_ret;refine ⟨c3,rfl,?_,HA4.out.wk.trans HK.out⟩
  have hYY:Y=some (.var S.data.toList 0):=by
   rw [<-HY.out,exs_zero (HSUB.out.symm)];exact node_var H2.out
  exact WQ.leaf hYY rfl rfl HC3.out HD.out.1 (of_decide_eq_true HC1.out) HW.out
 ·have H2:=h_ h2;clear h2
  obtain ⟨g2,hg2⟩:∃g2,g2=w2.heap.size:=⟨_,rfl⟩
  obtain ⟨W4,hW4⟩:∃W4,W4=w2.alloc (.cells #[.string ⟨#[105,110,40]⟩,.string S,.string ⟨#[41]⟩] 9):=⟨_,rfl⟩
  have HA4:Hid (WAt u b g1 ⟨3,0,S,0,A,0,cap,p⟩ w W4 l (n+1) d):=by rw [hW4];exact HA2.out.alloc HN1.out _
  have HC:=h_ (put_any W4 u.heap.size b g2 3 l (n+1) d [⟨#[105,110,40]⟩,S,⟨#[41]⟩] HA4.out.wb (by rw [hW4,hg2];exact StR.three w2 _ _ _) rfl (by have:=HA2.out.wb.lt;omega)
   (λ t ht=>by
    have:=nm_small H2.out;simp only [List.mem_cons,List.not_mem_nil,or_false] at ht;rcases ht with rfl|rfl|rfl
    ·decide
    ·omega
    ·decide) (by omega) (by have:=HD.out.2.2;omega) HA4.out.bl.size)
  have hfl:flat [⟨#[105,110,40]⟩,S,⟨#[41]⟩]=(Ex.inn S.data.toList 0).tx:=by rw [flat_cons,flat_cons,flat_cons,flat_nil,List.append_nil];rfl
  rw [hfl] at HC
  obtain ⟨c3,hc3⟩:∃c3,decide (List.length (l++(Ex.inn S.data.toList 0).tx)<=16384)=c3:=⟨_,rfl⟩
  rw [hc3] at HC;have HC3:=h_ hc3;clear hc3 hfl;go_wp2_with fail;rw [<-hW4,<-hg2];clear hW4 hg2;refine HC.out.mono ?_;rintro e w5 ⟨rfl,hw,hk⟩;have HW:=h_ hw;have HK:=h_ hk;clear hw hk HC;go_wp2_with fail;go_ret;refine ⟨c3,rfl,?_,HA4.out.wk.trans HK.out⟩
  have hYY:Y=some (.inn S.data.toList 0):=by
   rw [<-HY.out,exs_zero (HSUB.out.symm)];exact node_inn H2.out
  exact WQ.leaf hYY rfl rfl HC3.out HD.out.1 (of_decide_eq_true HC1.out) HW.out
 ·obtain ⟨z,rfl⟩:=List.length_eq_one_iff.1 HSUB.out.symm;obtain ⟨go,o,v',rfl,_,hgo,hev,hgz⟩:=HROW.out.get 0 z rfl
  have eo:o+(0+0)*6=o:=by omega
  rw [eo] at hev;have HEV:=h_ (λ (W:World) (hb:Below u.heap.size u W)=>hev.same (hb.block go hgo));have HOP:=h_ (λ (W:World) (l:List UInt8) (n d:Nat) (bl:Below u.heap.size u W) (wb:WB W u.heap.size b l n d) (hd:d<=20) (hn:n<=16384) (hl:l.length<=16384)=>HIH.out 0 z rfl W v' 7 l n d hgz bl wb hd hn hl);obtain ⟨j,rfl,hj,hsg⟩:=sign_one h3;have HON:=h_ (wr_one z (j:Int) h3 n d l.length)
  have hYY:node 4 0 [] (j:Int) [z.ex]=Y:=by
   have h:=HY.out;rw [h2,exs_one] at h;exact h
  rw [hYY] at HON;have HTX:=h_ (λ e=>one_tx (j:Int) e);have HPO:=h_ (λ (e:Ex) (h:z.ex=some e)=>pb_one h)
  obtain ⟨cs,hcs⟩:∃cs:UInt8,(if (j:Int)=14 then 45 else 33)=cs:=⟨_,rfl⟩
  rw [hcs] at hsg HTX;have sgc:=(HV.out w2 HA2.out.bl).sg.cell hsg
  obtain ⟨SG,hSG⟩:∃SG:ByteArray,(⟨[cs].toArray⟩:ByteArray)=SG:=⟨_,rfl⟩
  rw [hSG] at sgc
  have hSL:SG.data.toList=[cs]:=by rw [<-hSG]
  have hSZ:SG.size=1:=by rw [<-hSG];rfl
  have hj':(j:Int)<16:=by omega
  obtain ⟨P,hP⟩:∃P,pb z 7=P:=⟨_,rfl⟩
  rw [hP] at HOP HON HPO
  obtain ⟨q7,hq7⟩:∃q:Int,((7:Nat):Int)=q:=⟨_,rfl⟩
  rw [hq7] at HOP;obtain rfl:q7=7:=hq7.symm;obtain ⟨k',num',S',op',A',len',cap',p'⟩:=v';simp only [EV.val] at HOP;have HEN:=h_ (enter_any w2 u.heap.size b l (n+1) d SG HA2.out.wb (by have:=HD.out.1;omega) (by omega) (by have:=HD.out.2.2;omega) HA2.out.bl.size);rw [hSL] at HEN
  obtain ⟨c3,hc3⟩:∃c3,decide (d+1<=20/\List.length (l++[cs])<=16384)=c3:=⟨_,rfl⟩
  rw [hc3] at HEN;have HC3:=h_ hc3;clear hc3 hq7 hP hcs hSG hSL hSZ hsg hYY h2 h3 hev hgz eo hgo hj;go_wp2_with fail;refine HEN.out.mono ?_;rintro e w3 ⟨rfl,hw,hk⟩;have HW:=h_ hw;have HK:=h_ hk;clear hw hk HEN z0 z1 z2 z3 z4 z5 sgc;cases c3
  ·go_wp2_with fail;go_ret;refine ⟨false,rfl,WQ.no (HON.out.1 (λ h=>?_)),HA2.out.wk.trans HK.out⟩;have:=of_decide_eq_false HC3.out;rw [List.length_append,List.length_singleton] at this;exact this h
  have HD3:=h_ (of_decide_eq_true HC3.out);have HA3:=h_ (HA2.out.go HN1.out HK.out (HW.out HD3.out.1));have HO:=h_ (HOP.out w3 (l++[cs]) (n+1) (d+1) HA3.out.bl HA3.out.wb HD3.out.1 (of_decide_eq_true HC1.out) HD3.out.2)
  have e5:(l++[cs]).length=l.length+1:=by rw [List.length_append,List.length_singleton]
  rw [e5] at HO;have z4:=HA3.out.xp.c4;simp only at z4;obtain ⟨y0,y1,y2,y3,y4,y5⟩:=HEV.out w3 HA3.out.bl;simp only at y0 y1 y2 y3 y4 y5;clear HA2 HK HW HOP e5;go_wp2_with fail;refine HO.out.mono ?_;rintro e w4 ⟨r,rfl,hq,hk⟩;have HQ:=h_ hq;have HK:=h_ hk;clear hq hk HO z4 y0 y1 y2 y3 y4 y5;cases r
  ·have HNO:Hid (wrP P z.ex (n+1) (d+1) (l.length+1)=none):=by
    rcases HQ.out with ⟨_,h⟩|⟨h,_⟩
    ·exact h
    ·cases h
   go_wp2_with fail;go_ret;exact ⟨false,rfl,WQ.no (HON.out.2.1 HNO.out),HA3.out.wk.trans HK.out⟩
  ·obtain ⟨e,he,hwb⟩:∃e,wrP P z.ex (n+1) (d+1) (l.length+1)=some e/\WB w4 u.heap.size b (l++[cs]++par P e.tx) (n+1+e.size) (d+1):=by
    rcases HQ.out with ⟨h,_⟩|⟨_,h⟩
    ·cases h
    ·exact h
   have HS:=h_ (wrP_some he);have HEE:=h_ he;have HA4:=h_ (HA3.out.go HN1.out HK.out hwb);have HL:=h_ (leave_any w4 u.heap.size b _ _ d ⟨#[]⟩ HA4.out.wb (by have:=HD.out.1;omega) (by decide) (by have:=HS.out.2.2.1;simp only [List.length_append,List.length_singleton];omega) HA4.out.bl.size);have e41:(⟨#[]⟩:ByteArray).data.toList=[]:=rfl;rw [e41,List.append_nil] at HL
   have hdec:decide (List.length (l++[cs]++par P e.tx)<=16384)=true:=decide_eq_true (by
    have:=HS.out.2.2.1;simp only [List.length_append,List.length_singleton]
    omega)
   rw [hdec] at HL;clear he hwb HQ HK HA3 e41 hdec;go_wp2_with fail;refine HL.out.mono ?_;rintro _ w5 ⟨rfl,hw,hk⟩;have HW:=h_ hw;have HK:=h_ hk;clear hw hk HL;go_wp2_with fail;go_ret;refine ⟨true,rfl,?_,HA4.out.wk.trans HK.out⟩;refine WQ.yes _ (HON.out.2.2 e HEE.out) HW.out ?_ ?_
   ·rw [HTX.out,HPO.out e HS.out.1,a_];rfl
   ·rw [one_size];omega
 ·obtain ⟨z,zz,rfl⟩:=len_two HSUB.out.symm;obtain ⟨go,o,v',rfl,_,hgo,hev,hgz⟩:=HROW.out.get 0 z rfl;obtain ⟨go',o',v2,hA',_,_,hev',hgz'⟩:=HROW.out.get 1 zz rfl
  obtain ⟨rfl,rfl⟩:go'=go/\o'=o:=by
   injection hA' with hA';injection hA' with h1 h2;exact ⟨h1.symm,h2.symm⟩
  have eo:o' + (0+0)*6=o':=by omega
  have eo':o' + (0+1)*6=o' + 6:=by omega
  rw [eo] at hev;rw [eo'] at hev';have HEV:=h_ (λ (W:World) (hb:Below u.heap.size u W)=>hev.same (hb.block go' hgo));have HEV':=h_ (λ (W:World) (hb:Below u.heap.size u W)=>hev'.same (hb.block go' hgo));have hbnd:bnd op=rowOf op+1:=if_pos h3;have HOP:=h_ (λ (W:World) (l:List UInt8) (n d:Nat) (bl:Below u.heap.size u W) (wb:WB W u.heap.size b l n d) (hd:d<=20) (hn:n<=16384) (hl:l.length<=16384)=>HIH.out 0 z rfl W v' (bnd op) l n d hgz bl wb hd hn hl);have HOQ:=h_ (λ (W:World) (l:List UInt8) (n d:Nat) (bl:Below u.heap.size u W) (wb:WB W u.heap.size b l n d) (hd:d<=20) (hn:n<=16384) (hl:l.length<=16384)=>HIH.out 1 zz rfl W v2 (bnd op+1) l n d hgz' bl wb hd hn hl);have HON:=h_ (wr_both z zz op h3 n d l.length)
  have hYY:node 5 0 [] op [z.ex,zz.ex]=Y:=by
   have h:=HY.out;rw [h2,exs_two] at h;exact h
  rw [hYY] at HON;rw [show rowOf op+2=bnd op+1 by rw [hbnd],<-hbnd] at HON;have HSL:=h_ (sg_len h3);have HBI:=h_ (binding_any op w2);obtain ⟨j,rfl,hj,hsg⟩:=sign_both h3;have HBS:=h_ (λ (x y:Ex)=>both_size (j:Int) x y)
  obtain ⟨SG,hSG⟩:∃SG:ByteArray,(⟨(sgOf (j:Int)).toArray⟩:ByteArray)=SG:=⟨_,rfl⟩
  have hSL:SG.data.toList=sgOf (j:Int):=by rw [<-hSG]
  have HSGC:=h_ (λ (W:World) (hb:Below u.heap.size u W)=>(HV.out W hb).sg.cell hsg);rw [hSG] at HSGC
  obtain ⟨sl,hsl⟩:∃sl,sgOf (j:Int)=sl:=⟨_,rfl⟩
  rw [hsl] at hSL HON HSL;have HSG:=h_ hSL
  have hj':(j:Int)<16:=by omega
  have hbl:bnd (j:Int)<=6:=by rw [hbnd];omega
  obtain ⟨q,hq⟩:∃q,bnd (j:Int)=q:=⟨_,rfl⟩
  rw [hq] at HOP HOQ HON HBI hbl
  have hbl':(q:Int)<=6:=by omega
  have eq1:((q+1:Nat):Int)=(q:Int)+1:=by omega
  rw [eq1] at HOQ
  obtain ⟨P,hP⟩:∃P,pb z q=P:=⟨_,rfl⟩
  obtain ⟨P',hP'⟩:∃P,pb zz (q+1)=P:=⟨_,rfl⟩
  rw [hP] at HOP HON;rw [hP'] at HOQ HON;obtain ⟨k',num',S',op',A',len',cap',p'⟩:=v';obtain ⟨k2,num2,S2,op2,A2,len2,cap2,p2⟩:=v2;simp only [EV.val] at HOP HOQ;have HO:=h_ (HOP.out w2 l (n+1) d HA2.out.bl HA2.out.wb HD.out.1 (of_decide_eq_true HC1.out) HD.out.2.2);obtain ⟨y0,y1,y2,y3,y4,y5⟩:=HEV.out w2 HA2.out.bl;simp only at y0 y1 y2 y3 y4 y5;clear hP hP' hq eq1 hSL hSG hsl hsg hYY h2 h3 hev hev' hgz hgz' eo eo' hgo hj hA' hbnd hbl HOP;go_wp2_with fail;refine HBI.out.mono ?_;rintro e w3 ⟨rfl,rfl⟩;go_wp2_with fail;refine HO.out.mono ?_;rintro e w4 ⟨r,rfl,hq,hk⟩;have HQ:=h_ hq;have HK:=h_ hk;clear hq hk HO HBI z0 z1 z2 z3 z4 z5 y0 y1 y2 y3 y4 y5;cases r
  ·have HNO:Hid (wrP P z.ex (n+1) d l.length=none):=by
    rcases HQ.out with ⟨_,h⟩|⟨h,_⟩
    ·exact h
    ·cases h
   go_wp2_with fail;go_ret;exact ⟨false,rfl,WQ.no (HON.out.1 HNO.out),HA2.out.wk.trans HK.out⟩
  obtain ⟨e,he,hwb⟩:∃e,wrP P z.ex (n+1) d l.length=some e/\WB w4 u.heap.size b (l++par P e.tx) (n+1+e.size) d:=by
   rcases HQ.out with ⟨h,_⟩|⟨_,h⟩
   ·cases h
   ·exact h
  have HS:=h_ (wrP_some he);have HON2:=h_ (HON.out.2 e he);have HA4:=h_ (HA2.out.go HN1.out HK.out hwb)
  obtain ⟨g2,hg2⟩:∃g2,g2=w4.heap.size:=⟨_,rfl⟩
  obtain ⟨W5,hW5⟩:∃W5,W5=w4.alloc (.cells #[.string ⟨#[32]⟩,.string SG,.string ⟨#[32]⟩] 9):=⟨_,rfl⟩
  have HA5:Hid (WAt u b g1 ⟨5,0,S,(j:Int),some ⟨go',o',none⟩,2,cap,p⟩ w W5 (l++par P e.tx) (n+1+e.size) d):=by rw [hW5];exact HA4.out.alloc HN1.out _
  have HC:=h_ (put_any W5 u.heap.size b g2 3 (l++par P e.tx) (n+1+e.size) d [⟨#[32]⟩,SG,⟨#[32]⟩] HA5.out.wb (by rw [hW5,hg2];exact StR.three w4 _ _ _) rfl (by have:=HA4.out.wb.lt;omega)
   (λ t ht=>by
    have h1:SG.data.toList.length=SG.size:=rfl;rw [HSG.out] at h1;have:=HSL.out;simp only [List.mem_cons,List.not_mem_nil,or_false] at ht;rcases ht with rfl|rfl|rfl
    ·decide
    ·omega
    ·decide) (by omega) (by have:=HS.out.2.2.1;rw [List.length_append];omega) HA5.out.bl.size)
  have hfl:flat [⟨#[32]⟩,SG,⟨#[32]⟩]=32::(sl++[32]):=by rw [flat_cons,flat_cons,flat_cons,flat_nil,List.append_nil,HSG.out];rfl
  rw [hfl] at HC
  obtain ⟨c3,hc3⟩:∃c3,decide (List.length (l++par P e.tx++(32::(sl++[32])))<=16384)=c3:=⟨_,rfl⟩
  rw [hc3] at HC
  have HC3:Hid (decide (l.length+(par P e.tx).length+(sl.length+2)<=16384)=c3):=by
   show _=_;rw [<-hc3]
   congr 1
   simp only [List.length_append,List.length_cons,List.length_nil]
   all_goals
    apply propext
    constructor <;> intro h <;> omega
  have z3:=HA4.out.xp.c3;simp only at z3;have sgc:=HSGC.out w4 HA4.out.bl;clear he hwb HQ HK HA2 HA4 hfl hc3;go_wp2_with fail;rw [<-hW5,<-hg2];clear hW5 hg2;refine HC.out.mono ?_;rintro _ w6 ⟨rfl,hw,hk⟩;have HA6:=h_ (HA5.out.go HN1.out hk hw);clear hw hk HC HA5 z3 sgc;cases c3
  ·go_wp2_with fail;go_ret;exact ⟨false,rfl,WQ.no (HON2.out.1 (of_decide_eq_false HC3.out)),HA6.out.wk⟩
  have HO:=h_ (HOQ.out w6 (l++par P e.tx++(32::(sl++[32]))) (n+1+e.size) d HA6.out.bl HA6.out.wb HD.out.1 HS.out.2.2.2 (by
   have:=of_decide_eq_true HC3.out;simp only [List.length_append,List.length_cons,List.length_nil]
   omega))
  have e5:(l++par P e.tx++(32::(sl++[32]))).length=l.length+(par P e.tx).length+(sl.length+2):=by
   simp only [List.length_append,List.length_cons,List.length_nil]
   all_goals omega
  rw [e5] at HO;have z4:=HA6.out.xp.c4;simp only at z4;obtain ⟨y0,y1,y2,y3,y4,y5⟩:=HEV'.out w6 HA6.out.bl;simp only at y0 y1 y2 y3 y4 y5;clear HOQ e5;go_wp2_with fail;refine HO.out.mono ?_;rintro _ w7 ⟨r,rfl,hq,hk⟩;have HQ:=h_ hq;have HK:=h_ hk;clear hq hk HO z4 y0 y1 y2 y3 y4 y5;go_wp2_with fail;go_ret;refine ⟨r,rfl,?_,HA6.out.wk.trans HK.out⟩;rcases HQ.out with ⟨rfl,h⟩|⟨rfl,e',h,hw⟩
  ·exact WQ.no (HON2.out.2.1 h)
  ·obtain ⟨h1,h2⟩:=HON2.out.2.2 e' h;refine WQ.yes _ h1 hw ?_ ?_
   ·rw [h2];simp only [a_,List.cons_append,List.nil_append]
   ·rw [HBS.out];omega
theorem expr_all (u:World) (b:Nat) (hV:Wv u):∀(m:Nat) (x:GX),SizeOf.sizeOf x<=m->x.rng->WExp u b x
 |0,x,hm,_=>by
  obtain ⟨k,n,s,o,l,p⟩:=x;simp only [GX.mk.sizeOf_spec] at hm;omega
 |m+1,x,hm,hr=>expr_step u b hV x hr (λ i y hi=>operand_any u b y (expr_all u b hV m y (by have:=sub_size hi;omega) (by
   obtain ⟨k,n,s,o,l,p⟩:=x;rw [GX.rng] at hr
   exact rng_get hr.2.2.2 hi)))
theorem expr_any (u:World) (b:Nat) (hV:Wv u) (x:GX) (hr:x.rng):WExp u b x:=expr_all u b hV _ x (n_ _) hr
theorem WB.new' {w:World} {B:Nat} (hB:B<=w.heap.size):WB (w.alloc (.cells #[.pointer none,.slice none 0 0,.int .i64 0,.int .i64 0] 185)) B w.heap.size [] 0 0 :=
 ⟨hB,_,_,.inl rfl,heap_alloc_new w _,World.ownsRow_nil _ _ _ _,by simp [Value.ownBlock]⟩
theorem GX.right_some {x:GX} {e:Ex} (h:x.right=some e):x.ex=some e/\e.nst<=20/\e.tx.length<=16384:=by
 unfold GX.right at h
 cases hx:x.ex with
 |none=>rw [hx] at h;cases h
 |some y =>
  rw [hx] at h
  by_cases c:y.nst<=20/\y.tx.length<=16384
  ·have h':(if y.nst<=20/\y.tx.length<=16384 then some y else none)=some e:=h;rw [if_pos c] at h';injection h' with h';subst h';exact ⟨rfl,c⟩
  ·have h':(if y.nst<=20/\y.tx.length<=16384 then some y else none)=some e:=h;rw [if_neg c] at h';cases h'
theorem GX.txt_some {x:GX} {e:Ex} (h:x.right=some e):x.txt=e.tx:=by unfold GX.txt;rw [h]
theorem GX.txt_none {x:GX} (h:x.right=none):x.txt=[]:=by unfold GX.txt;rw [h]
theorem newWriter (w:World) (v:EV):∃(W0:World) (g1 b:Nat),W0=(w.alloc (.cells #[.int .i64 v.kind,.int .i64 v.num,.string v.name,.int .i64 v.op,.slice v.A v.len v.cap,.int .i64 v.p] 40)).alloc (.cells #[.pointer none,.slice none 0 0,.int .i64 0,.int .i64 0] 185) /\
  g1=w.heap.size/\b=w.heap.size+1/\Hid (WAt w b g1 v w W0 [] 0 0)/\g1≠b:=by
 have e:(w.alloc (.cells #[.int .i64 v.kind,.int .i64 v.num,.string v.name,.int .i64 v.op,.slice v.A v.len v.cap,.int .i64 v.p] 40)).heap.size=w.heap.size+1:=by simp
 refine ⟨_,_,_,rfl,rfl,rfl,?_,by omega⟩;rw [<-e];have hb:Below w.heap.size w (w.alloc (.cells #[.int .i64 v.kind,.int .i64 v.num,.string v.name,.int .i64 v.op,.slice v.A v.len v.cap,.int .i64 v.p] 40)):=(b_ _ w).alloc (n_ _) _;exact ⟨hb.alloc hb.size _,WB.new' hb.size,(XpB.new w v).alloc _,(Wk.alloc (n_ _) _).trans (Wk.alloc hb.size _)⟩
theorem etext_any (w:World) (x:GX) (v:EV) (hV:Wv w) (hr:x.rng) (hg:GV w 0 w.heap.size x v) :
  Calls Tryz.prog 112 #[v.val] w λ e w'=>e=.returned (.string ⟨x.txt.toArray⟩)/\Below w.heap.size w w':=by
 obtain ⟨W0,g1,b,hW0,hg1,hb1,HA,hne⟩:=newWriter w v;have HE:=h_ (expr_any w b hV x hr W0 v [] 0 0 hg HA.out.bl HA.out.wb (by omega) (by omega) (by decide));rw [show ([]:List UInt8).length=0 from rfl,wrX_right] at HE;have HR:=h_ (λ (e:Ex) (h:x.right=some e)=>And.intro (GX.txt_some h) (tx_Hd e (ex_some x e (GX.right_some h).1).1));have HN:=h_ (@GX.txt_none x);have HNE:=h_ hne
 obtain ⟨T,hT⟩:∃T,x.txt=T:=⟨_,rfl⟩
 rw [hT] at HR HN ⊢;obtain ⟨k,num,S,op,A,len,cap,p⟩:=v;simp only [EV.val] at HE ⊢;simp only at hW0;have z0:=HA.out.xp.c0;have z1:=HA.out.xp.c1;have z2:=HA.out.xp.c2;have z3:=HA.out.xp.c3;have z4:=HA.out.xp.c4;have z5:=HA.out.xp.c5;simp only at z0 z1 z2 z3 z4 z5;clear hV hr hg hT hne;go_enter Tryz.func112,Tryz.ntmps112;go_upto_region 2 with fail;rw [<-hW0,<-hb1,<-hg1];clear hW0 hg1 hb1;go_wp2_with fail;refine HE.out.mono ?_;rintro e w1 ⟨r,rfl,hq,hk⟩;have HQ:=h_ hq;have HK:=h_ (HA.out.wk.trans hk);clear hq hk HE z0 z1 z2 z3 z4 z5;cases r
 ·obtain rfl:T=[]:=HN.out (by
   rcases HQ.out with ⟨_,h⟩|⟨h,_⟩
   ·exact h
   ·cases h)
  go_wp2_with fail;go_ret;exact ⟨rfl,HK.out.below⟩
 ·obtain ⟨e,he,hwb⟩:∃e,x.right=some e/\WB w1 w.heap.size b e.tx e.size 0:=by
   rcases HQ.out with ⟨h,_⟩|⟨_,e,h,hw⟩
   ·cases h
   ·exact ⟨e,h,by rw [List.nil_append,Nat.zero_add] at hw;exact hw⟩
  obtain ⟨h1,h2⟩:=HR.out e he;have HS:=h_ (bstring_any w1 w.heap.size b e.tx e.size 0 hwb (by obtain ⟨c,r,h,_⟩:=h2;rw [h];simp));rw [<-h1] at HS;clear he hwb h1 h2 HR HN HQ;go_wp2_with fail;refine HS.out.mono ?_;rintro _ w2 ⟨rfl,hb⟩;go_wp2_with fail;go_ret;exact ⟨rfl,HK.out.below.trans hb⟩
theorem eright_any (w:World) (x:GX) (v:EV) (hV:Wv w) (hr:x.rng) (hg:GV w 0 w.heap.size x v) :
  Calls Tryz.prog 172 #[v.val] w λ e w'=>e=.returned (.bool x.right.isSome)/\Below w.heap.size w w':=by
 obtain ⟨W0,g1,b,hW0,hg1,hb1,HA,hne⟩:=newWriter w v;have HE:=h_ (expr_any w b hV x hr W0 v [] 0 0 hg HA.out.bl HA.out.wb (by omega) (by omega) (by decide));rw [show ([]:List UInt8).length=0 from rfl,wrX_right] at HE
 obtain ⟨Y,hY⟩:∃Y,x.right=Y:=⟨_,rfl⟩
 rw [hY] at HE ⊢;obtain ⟨k,num,S,op,A,len,cap,p⟩:=v;simp only [EV.val] at HE ⊢;simp only at hW0;have z0:=HA.out.xp.c0;have z1:=HA.out.xp.c1;have z2:=HA.out.xp.c2;have z3:=HA.out.xp.c3;have z4:=HA.out.xp.c4;have z5:=HA.out.xp.c5;simp only at z0 z1 z2 z3 z4 z5;clear hV hr hg hY hne;go_enter Tryz.func172,Tryz.ntmps172;go_wp2_with fail;rw [<-hW0,<-hb1];clear hW0 hg1 hb1;refine HE.out.mono ?_;rintro e w1 ⟨r,rfl,hq,hk⟩;have HQ:=h_ hq;have HK:=h_ (HA.out.wk.trans hk);clear hq hk HE z0 z1 z2 z3 z4 z5;go_wp2_with fail;go_ret;refine ⟨?_,HK.out.below⟩;rcases HQ.out with ⟨rfl,h⟩|⟨rfl,e,h,_⟩
 ·rw [h];rfl
 ·rw [h];rfl
def SyAct.g (a:SyAct):GA:=⟨a.kind,a.name,gxO a.value,a.at_⟩
def SyMove.g (m:SyMove):GM:=⟨m.kind,m.event,m.wait,m.guarded,gxO m.guard,m.acts.map SyAct.g,m.targets,m.at_⟩
mutual
def SyNode.g:SyNode->GN
 |.mk k n i d e l m ks p=>.mk k n i d (e.map SyAct.g) (l.map SyAct.g) (m.map SyMove.g) (SyNode.gs ks) p
def SyNode.gs:List SyNode->List GN
 |[]=>[]
 |x::l=>x.g::SyNode.gs l
end
def SyChart.g (c:SyChart):GC:=⟨c.vars,c.root.g⟩
theorem gs_map:∀l:List SyNode,SyNode.gs l=l.map SyNode.g
 |[]=>by rw [SyNode.gs];rfl
 |x::l=>by rw [SyNode.gs,gs_map l];rfl
theorem pls_flat {α β:Type} {f:α->List DV} {h:β->List DV} {g:α->β} (hf:∀a,DV.pls (f a)=h (g a)) (l:List α):DV.pls (l.flatMap f)=(l.map g).flatMap h:=by
 induction l with
 |nil=>rw [pls_map];rfl
 |cons a l ih =>
  rw [pls_map,List.flatMap_cons,List.map_append,<-pls_map,<-pls_map,hf,ih,List.map_cons,List.flatMap_cons]
theorem pls_act (o:Bool) (a:SyAct):DV.pls (dvAct o a)=gAct a.g:=by
 rw [pls_map];simp [dvAct,dvEx,gAct,gEx,SyAct.g,DV.pl]
theorem pl_acts (o:Bool) (l:List SyAct):(dvActs o l).pl=gActs (l.map SyAct.g):=by
 unfold dvActs gActs;rw [DV.pl,pls_flat (pls_act o),List.length_map]
theorem pl_strs (l:List (List UInt8)):(dvStrs l).pl=dvStrs l:=by
 unfold dvStrs;rw [DV.pl,pls_map,List.map_map]
 congr 1
theorem pls_move (o:Bool) (m:SyMove):DV.pls (dvMove o m)=gMove m.g:=by
 rw [pls_map];simp [dvMove,dvEx,gMove,gEx,SyMove.g,DV.pl,pl_acts,pl_strs]
mutual
theorem pls_node (o:Bool):∀x:SyNode,DV.pls (dvNode o x)=gNode x.g
 |.mk k n i d e l m ks p=>by
  have h:=pls_nodes o ks
  have hl:(SyNode.gs ks).length=ks.length:=by rw [gs_map,List.length_map]
  rw [pls_map,dvNode_mk,SyNode.g,gNode_mk];unfold dvMoves gMoves dvKids gKids;simp only [List.map_cons,List.map_nil,DV.pl,pl_acts,pls_flat (pls_move o),h,hl,List.length_map]
theorem pls_nodes (o:Bool):∀l:List SyNode,DV.pls (dvNodes o l)=gNodes (SyNode.gs l)
 |[]=>by rw [dvNodes,SyNode.gs,gNodes,DV.pls]
 |x::l=>by
  rw [dvNodes,SyNode.gs,gNodes,pls_map,List.map_append,<-pls_map,<-pls_map,pls_node o x,pls_nodes o l]
end
theorem pl_vars (l:List SyVar):(dvVars l).pl=dvVars l:=by
 unfold dvVars;rw [DV.pl,pls_flat (h:=dvVar) (g:=id) (λ a=>by rw [pls_map];simp [dvVar,DV.pl])];simp
theorem chart_dx {w:World} {o:Bool} {c:SyChart} {xs:List Value} {F:List Nat} (h:DvsAt w (dvChart o c) xs F):DxsAt w (gChart c.g) xs:=by
 have:=h.dx;unfold dvChart at this;rw [DV.pls,pls_node,pl_vars] at this;exact this
def nothing (x:GX):Bool:=decide (x.kind=0)&&decide (x.num=0)&&x.name.isEmpty&&decide (x.op=0)&&x.subs.isEmpty
def okA (a:GA):Bool:=isNm a.name&&(if a.kind=1∨a.kind=3 then a.val.right.isSome else decide (a.kind=2)&&nothing a.val)
def trig (m:GM):Bool:=if m.kind=1 then isNm m.event&&decide (m.wait=0) else if m.kind=2 then m.event.isEmpty&&decide (m.wait=0) else decide (m.kind=3)&&m.event.isEmpty&&decide (0<=m.wait)
def grd (m:GM):Bool:=if m.guarded then m.guard.right.isSome else nothing m.guard
def okM (m:GM):Bool:=trig m&&grd m&&m.acts.all okA&&m.targets.all isNm
mutual
def okN:Nat->GN->Bool
 |0,_=>false
 |d+1,.mk k nm ini dft en le mo ks _=>isNm nm&&(if k=3∨k=4 then isNm dft&&ini.isEmpty&&en.isEmpty&&le.isEmpty&&mo.isEmpty&&ks.isEmpty
   else decide (k=1∨k=2)&&dft.isEmpty&&(ini.isEmpty || isNm ini)&&en.all okA&&le.all okA&&mo.all okM&&okNs d ks)
def okNs:Nat->List GN->Bool
 |_,[]=>true
 |d,x::l=>okN d x&&okNs d l
end
def mvG:List GM->Nat
 |[]=>0
 |m::l=>m.acts.length+mvG l
mutual
def nN:GN->Nat
 |.mk _ _ _ _ _ _ _ ks _=>1+nNs ks
def nNs:List GN->Nat
 |[]=>0
 |x::l=>nN x+nNs l
end
mutual
def nM:GN->Nat
 |.mk _ _ _ _ _ _ mo ks _=>mo.length+nMs ks
def nMs:List GN->Nat
 |[]=>0
 |x::l=>nM x+nMs l
end
mutual
def nA:GN->Nat
 |.mk _ _ _ _ en le mo ks _=>en.length+le.length+mvG mo+nAs ks
def nAs:List GN->Nat
 |[]=>0
 |x::l=>nA x+nAs l
end
def GN.kind:GN->Int|.mk k _ _ _ _ _ _ _ _=>k
def okV (v:SyVar):Bool:=isNm v.name&&decide (v.num≠-9223372036854775808)
def okC (c:GC):Bool:=decide (c.vars.length<=16)&&c.vars.all okV&&decide (c.root.kind=1)&&okN 12 c.root&&decide (nN c.root<=64)&&decide (nM c.root<=200)&&decide (nA c.root<=400)
def GA.s (a:GA):SyAct:=⟨a.kind,a.name,a.val.right,a.at_⟩
def GM.s (m:GM):SyMove:=⟨m.kind,m.event,m.wait,m.guarded,m.guard.right,m.acts.map GA.s,m.targets,m.at_⟩
mutual
def GN.s:GN->SyNode
 |.mk k n i d e l m ks p=>.mk k n i d (e.map GA.s) (l.map GA.s) (m.map GM.s) (GN.ss ks) p
def GN.ss:List GN->List SyNode
 |[]=>[]
 |x::l=>x.s::GN.ss l
end
def GC.s (c:GC):SyChart:=⟨c.vars,c.root.s⟩
theorem ss_map:∀l:List GN,GN.ss l=l.map GN.s
 |[]=>by rw [GN.ss];rfl
 |x::l=>by rw [GN.ss,ss_map l];rfl
def prR (c:GC):List UInt8×Int:=if okC c=true then (if (chartT c.s).length<=16384 then (chartT c.s,0) else ([],2)) else ([],22)
theorem nothing_right {x:GX} (h:nothing x=true):x.right=none:=by
 obtain ⟨k,n,s,o,l,p⟩:=x;unfold nothing at h;simp only [Bool.and_eq_true,decide_eq_true_eq] at h;have hk:k=0:=h.1.1.1.1;subst hk
 have:(GX.mk 0 n s o l p).ex=none:=by
  rw [ex_mk];apply node_bad;unfold nodeOk;rw [if_neg (by decide),if_neg (by decide),if_neg (by decide),if_neg (by decide)]
 unfold GX.right;rw [this]
theorem right_may {x:GX} {e:Ex} (h:x.right=some e):e.may:=by
 obtain ⟨h1,h2,_⟩:=GX.right_some h;exact ⟨(ex_some x e h1).1,h2⟩
theorem okA_good {a:GA} (h:okA a=true):a.s.good:=by
 unfold okA at h;rw [Bool.and_eq_true] at h;obtain ⟨h1,h2⟩:=h
 by_cases hk:a.kind=1∨a.kind=3
 ·rw [if_pos hk] at h2;obtain ⟨e,he⟩:=x_ h2;refine ⟨by rcases hk with h|h;exact .inl h;exact .inr (.inr h),h1,λ hk2=>?_,λ _=>⟨e,he,right_may he⟩⟩;have:a.kind=2:=hk2;omega
 ·rw [if_neg hk,Bool.and_eq_true,decide_eq_true_eq] at h2;exact ⟨.inr (.inl h2.1),h1,λ _=>nothing_right h2.2,λ hn=>absurd h2.1 hn⟩
theorem okAs_good {l:List GA} (h:l.all okA=true):∀a∈l.map GA.s,a.good:=λ a ha=>by
 obtain ⟨b,hb,rfl⟩:=List.mem_map.1 ha;exact okA_good (List.all_eq_true.1 h b hb)
theorem okM_good {m:GM} (h:okM m=true) (hw:m.wait<=9223372036854775807):m.s.good:=by
 unfold okM at h;simp only [Bool.and_eq_true] at h;obtain ⟨⟨⟨h1,h2⟩,h3⟩,h4⟩:=h
 have hT:(m.kind=1/\isNm m.event=true/\m.wait=0)∨(m.kind=2/\m.event=[]/\m.wait=0)∨(m.kind=3/\m.event=[]/\0<=m.wait):=by
  unfold trig at h1
  by_cases k1:m.kind=1
  ·rw [if_pos k1] at h1;simp only [Bool.and_eq_true,decide_eq_true_eq] at h1;exact .inl ⟨k1,h1⟩
  ·rw [if_neg k1] at h1
   by_cases k2:m.kind=2
   ·rw [if_pos k2] at h1;simp only [Bool.and_eq_true,decide_eq_true_eq,List.isEmpty_iff] at h1;exact .inr (.inl ⟨k2,h1⟩)
   ·rw [if_neg k2] at h1;simp only [Bool.and_eq_true,decide_eq_true_eq,List.isEmpty_iff] at h1;exact .inr (.inr ⟨h1.1.1,h1.1.2,h1.2⟩)
 have hG:m.guarded=m.guard.right.isSome:=by
  unfold grd at h2
  cases hg:m.guarded with
  |true=>rw [hg,if_pos rfl] at h2;exact h2.symm
  |false=>rw [hg,if_neg (by decide)] at h2;rw [nothing_right h2];rfl
 refine ⟨?_,?_,?_,hG,λ x hx=>right_may hx,okAs_good h3,λ t ht=>List.all_eq_true.1 h4 t ht⟩
 ·rcases hT with h|h|h
  ·exact .inl h.1
  ·exact .inr (.inl h.1)
  ·exact .inr (.inr h.1)
 ·rcases hT with h|h|h
  ·exact .inl ⟨h.1,h.2.1⟩
  ·exact .inr ⟨by show m.kind≠1;omega,h.2.1⟩
  ·exact .inr ⟨by show m.kind≠1;omega,h.2.1⟩
 ·rcases hT with h|h|h
  ·exact .inr ⟨by show m.kind≠3;omega,h.2.2⟩
  ·exact .inr ⟨by show m.kind≠3;omega,h.2.2⟩
  ·exact .inl ⟨h.1,h.2.2,hw⟩
def GA.rng (a:GA):Prop:=a.name.length<=140737488351232/\a.val.rng
def GM.rng (m:GM):Prop:=m.event.length<=140737488351232/\(-9223372036854775808<=m.wait/\m.wait<=9223372036854775807)/\m.guard.rng/\(∀a∈m.acts,a.rng)/\∀t∈m.targets,t.length<=140737488351232
mutual
def GN.rng:GN->Prop
 |.mk _ nm ini dft en le mo ks _=>nm.length<=140737488351232/\ini.length<=140737488351232/\dft.length<=140737488351232/\(∀a∈en,a.rng)/\(∀a∈le,a.rng)/\(∀m∈mo,m.rng)/\GN.rngs ks
def GN.rngs:List GN->Prop
 |[]=>True
 |x::l=>x.rng/\GN.rngs l
end
def SyVar.rng (v:SyVar):Prop:=v.name.length<=140737488351232/\-9223372036854775808<=v.num/\v.num<=9223372036854775807
def GC.rng (c:GC):Prop:=(∀v∈c.vars,v.rng)/\c.root.rng
theorem GN.rngs_iff:∀{l:List GN},GN.rngs l ↔ ∀x∈l,x.rng
 |[]=>by rw [GN.rngs];simp
 |x::l=>by rw [GN.rngs,GN.rngs_iff];simp
theorem okNs_iff {d:Nat}:∀{l:List GN},okNs d l=true ↔ ∀x∈l,okN d x=true
 |[]=>by rw [okNs];simp
 |x::l=>by rw [okNs,Bool.and_eq_true,okNs_iff];simp
theorem okN_good:∀(d:Nat) (x:GN),okN d x=true->x.rng->GdN d x.s
 |0,x,h,_=>by rw [okN] at h;cases h
 |d+1,.mk k nm ini dft en le mo ks p,h,hr=>by
  rw [okN] at h;rw [Bool.and_eq_true] at h;obtain ⟨h1,h2⟩:=h;rw [GN.rng] at hr;obtain ⟨_,_,_,_,_,r6,r7⟩:=hr;rw [GN.s,GdN];refine ⟨h1,?_⟩
  by_cases hk:k=3∨k=4
  ·rw [if_pos hk] at h2;simp only [Bool.and_eq_true,List.isEmpty_iff] at h2;obtain ⟨⟨⟨⟨⟨a1,rfl⟩,rfl⟩,rfl⟩,rfl⟩,rfl⟩:=h2;exact .inl ⟨hk,a1,rfl,rfl,rfl,rfl,by rw [GN.ss]⟩
  ·rw [if_neg hk] at h2;simp only [Bool.and_eq_true,decide_eq_true_eq,List.isEmpty_iff,Bool.or_eq_true] at h2;obtain ⟨⟨⟨⟨⟨⟨a1,rfl⟩,a3⟩,a4⟩,a5⟩,a6⟩,a7⟩:=h2;refine .inr ⟨a1,rfl,a3,okAs_good a4,okAs_good a5,λ m hm=>?_,λ x hx=>?_⟩
   ·obtain ⟨b,hb,rfl⟩:=List.mem_map.1 hm;exact okM_good (List.all_eq_true.1 a6 b hb) (r6 b hb).2.1.2
   ·rw [ss_map] at hx;obtain ⟨b,hb,rfl⟩:=List.mem_map.1 hx;exact okN_good d b (okNs_iff.1 a7 b hb) (GN.rngs_iff.1 r7 b hb)
theorem mvG_s:∀l:List GM,mvA (l.map GM.s)=mvG l
 |[]=>rfl
 |m::l=>by
  rw [List.map_cons,mvA,mvG,mvG_s l];unfold GM.s;simp only [List.length_map]
mutual
theorem cN_s:∀x:GN,cN x.s=nN x
 |.mk _ _ _ _ _ _ _ ks _=>by rw [GN.s,cN,nN,cNs_s ks]
theorem cNs_s:∀l:List GN,cNs (GN.ss l)=nNs l
 |[]=>by rw [GN.ss,cNs,nNs]
 |x::l=>by rw [GN.ss,cNs,nNs,cN_s x,cNs_s l]
end
mutual
theorem cM_s:∀x:GN,cM x.s=nM x
 |.mk _ _ _ _ _ _ _ ks _=>by rw [GN.s,cM,nM,cMs_s ks,List.length_map]
theorem cMs_s:∀l:List GN,cMs (GN.ss l)=nMs l
 |[]=>by rw [GN.ss,cMs,nMs]
 |x::l=>by rw [GN.ss,cMs,nMs,cM_s x,cMs_s l]
end
mutual
theorem cA_s:∀x:GN,cA x.s=nA x
 |.mk _ _ _ _ _ _ _ ks _=>by rw [GN.s,cA,nA,cAs_s ks,List.length_map,List.length_map,mvG_s]
theorem cAs_s:∀l:List GN,cAs (GN.ss l)=nAs l
 |[]=>by rw [GN.ss,cAs,nAs]
 |x::l=>by rw [GN.ss,cAs,nAs,cA_s x,cAs_s l]
end
theorem okC_good {c:GC} (h:okC c=true) (hr:c.rng):c.s.good:=by
 unfold okC at h;simp only [Bool.and_eq_true,decide_eq_true_eq] at h;obtain ⟨⟨⟨⟨⟨⟨h1,h2⟩,h3⟩,h4⟩,h5⟩,h6⟩,h7⟩:=h
 have hv:∀v∈c.vars,isNm v.name=true/\v.num≠-9223372036854775808:=λ v hv=>by
  have:=List.all_eq_true.1 h2 v hv;unfold okV at this;simpa only [Bool.and_eq_true,decide_eq_true_eq] using this
 refine ⟨λ v hm=>(hv v hm).1,λ v hm=>?_,h1,?_,okN_good 12 c.root h4 hr.2,?_,?_,?_⟩
 ·have:=(hv v hm).2;have:=hr.1 v hm;exact ⟨by have:=this.2.1;omega,this.2.2⟩
 ·obtain ⟨vs,⟨k,nm,ini,dft,en,le,mo,ks,p⟩⟩:=c;obtain rfl:k=1:=h3;exact ⟨nm,ini,dft,en.map GA.s,le.map GA.s,mo.map GM.s,GN.ss ks,p,by unfold GC.s;rw [GN.s]⟩
 ·show cN c.root.s<=64;rw [cN_s];exact h5
 ·show cM c.root.s<=200;rw [cM_s];exact h6
 ·show cA c.root.s<=400;rw [cA_s];exact h7
theorem Mv.of_below {w w':World} (b:Nat) (h:Below w.heap.size w w'):Mv b w w':=⟨h.os,h.tape,h.output,h.size,λ _ hk _=>h.block _ hk⟩
def KS (w0 w:World) (b lvl:Nat) (s:Nat×Nat×Nat):Prop:=Below w0.heap.size w0 w/\CB w b 86 [.int .i64 (s.1:Int),.int .i64 (s.2.1:Int),.int .i64 (s.2.2:Int),.int .i64 (lvl:Int)]
theorem KS.below {w0 w w':World} {b lvl:Nat} {s:Nat×Nat×Nat} (h:KS w0 w b lvl s) (hb:Below w.heap.size w w'):KS w0 w' b lvl s:=⟨h.1.trans (hb.mono h.1.size),h.2.below hb⟩
def foldS {σ α:Type} (step:σ->α->Bool×σ):σ->List α->Bool×σ
 |s,[]=>(true,s)
 |s,a::l=>if (step s a).1=true then foldS step (step s a).2 l else (false,(step s a).2)
def blkC (s:Nat×Nat×Nat) (l:List GA):Bool×(Nat×Nat×Nat):=(decide (s.2.2+l.length<=400)&&l.all okA,(s.1,s.2.1,s.2.2+l.length))
def mvS (s:Nat×Nat×Nat) (m:GM):Bool×(Nat×Nat×Nat):=if (trig m&&grd m)=true then ((blkC s m.acts).1&&m.targets.all isNm,(blkC s m.acts).2) else (false,s)
def hdS (s:Nat×Nat×Nat) (ini:List UInt8) (en le:List GA) (mo:List GM):Bool×(Nat×Nat×Nat) :=
 if (ini.isEmpty || isNm ini)=true then
  if (blkC s en).1=true then
   if (blkC (blkC s en).2 le).1=true then
    if (blkC (blkC s en).2 le).2.2.1+mo.length<=200 then foldS mvS ((blkC (blkC s en).2 le).2.1,(blkC (blkC s en).2 le).2.2.1+mo.length,(blkC (blkC s en).2 le).2.2.2) mo
    else (false,((blkC (blkC s en).2 le).2.1,(blkC (blkC s en).2 le).2.2.1+mo.length,(blkC (blkC s en).2 le).2.2.2))
   else (false,(blkC (blkC s en).2 le).2)
  else (false,(blkC s en).2)
 else (false,s)
mutual
def ndS (lvl:Nat) (s:Nat×Nat×Nat):GN->Bool×(Nat×Nat×Nat)
 |.mk k nm ini dft en le mo ks _ =>
  if (decide (s.1+1<=64)&&decide (lvl<12)&&isNm nm)=true then
   if k=1∨k=2 then
    if dft.isEmpty=true then
     if (hdS (s.1+1,s.2) ini en le mo).1=true then ndsS (lvl+1) (hdS (s.1+1,s.2) ini en le mo).2 ks else (false,(hdS (s.1+1,s.2) ini en le mo).2)
    else (false,(s.1+1,s.2))
   else if k=3∨k=4 then (isNm dft&&(ini.isEmpty&&en.isEmpty&&le.isEmpty&&mo.isEmpty&&ks.isEmpty),(s.1+1,s.2))
   else (false,(s.1+1,s.2))
  else (false,(s.1+1,s.2))
def ndsS (lvl:Nat) (s:Nat×Nat×Nat):List GN->Bool×(Nat×Nat×Nat)
 |[]=>(true,s)
 |x::l=>if (ndS lvl s x).1=true then ndsS lvl (ndS lvl s x).2 l else (false,(ndS lvl s x).2)
end
theorem ndsS_fold (lvl:Nat):∀(l:List GN) (s:Nat×Nat×Nat),ndsS lvl s l=foldS (ndS lvl) s l
 |[],s=>by rw [ndsS];rfl
 |x::l,s=>by
  rw [ndsS,foldS,ndsS_fold lvl l]
def Rm (s:Nat×Nat×Nat):Prop:=s.1<=64/\s.2.1<=200/\s.2.2<=400
theorem blkC_spec (s:Nat×Nat×Nat) (l:List GA) (hs:Rm s):((blkC s l).1=true->Rm (blkC s l).2/\l.all okA=true/\(blkC s l).2=(s.1,s.2.1,s.2.2+l.length))/\(l.all okA=true->s.2.2+l.length<=400->(blkC s l).1=true):=by
 unfold blkC;simp only [Bool.and_eq_true,decide_eq_true_eq];exact ⟨λ h=>⟨⟨hs.1,hs.2.1,h.1⟩,h.2,trivial⟩,λ h1 h2=>⟨h2,h1⟩⟩
theorem mvS_spec (s:Nat×Nat×Nat) (m:GM) (hs:Rm s):((mvS s m).1=true->Rm (mvS s m).2/\okM m=true/\(mvS s m).2=(s.1,s.2.1,s.2.2+m.acts.length))/\(okM m=true->s.2.2+m.acts.length<=400->(mvS s m).1=true):=by
 obtain ⟨h1,h2⟩:=blkC_spec s m.acts hs;unfold mvS okM
 cases ht:(trig m&&grd m) with
 |false =>
  rw [if_neg (by decide)];exact ⟨λ h=>(by cases h),λ h=>(by simp at h)⟩
 |true =>
  rw [if_pos rfl];simp only [Bool.and_eq_true,Bool.true_and];exact ⟨λ h=>⟨(h1 h.1).1,⟨(h1 h.1).2.1,h.2⟩,(h1 h.1).2.2⟩,λ h hl=>⟨h2 h.1 hl,h.2⟩⟩
theorem mvsS_spec:∀(l:List GM) (s:Nat×Nat×Nat),Rm s->((foldS mvS s l).1=true->Rm (foldS mvS s l).2/\l.all okM=true/\(foldS mvS s l).2=(s.1,s.2.1,s.2.2+mvG l))/\(l.all okM=true->s.2.2+mvG l<=400->(foldS mvS s l).1=true)
 |[],s,hs=>⟨λ _=>⟨hs,rfl,rfl⟩,λ _ _=>rfl⟩
 |m::l,s,hs=>by
  obtain ⟨h1,h2⟩:=mvS_spec s m hs;rw [foldS]
  by_cases c:(mvS s m).1=true
  ·rw [if_pos c];obtain ⟨h3,h4,h5⟩:=h1 c;obtain ⟨h6,h7⟩:=mvsS_spec l (mvS s m).2 h3;rw [h5] at h6 h7 ⊢;rw [List.all_cons,h4,Bool.true_and];unfold mvG;refine ⟨λ h=>?_,λ h hl=>h7 h (by show s.2.2+m.acts.length+mvG l<=400;omega)⟩;obtain ⟨a1,a2,a3⟩:=h6 h;exact ⟨a1,a2,by rw [a3,Nat.add_assoc]⟩
  ·rw [if_neg c];refine ⟨λ h=>(by cases h),λ h hl=>?_⟩;rw [List.all_cons,Bool.and_eq_true] at h;unfold mvG at hl;exact absurd (h2 h.1 (by omega)) c
theorem hdS_spec (s:Nat×Nat×Nat) (ini:List UInt8) (en le:List GA) (mo:List GM) (hs:Rm s) :
  ((hdS s ini en le mo).1=true->Rm (hdS s ini en le mo).2/\((ini.isEmpty || isNm ini)=true/\en.all okA=true/\le.all okA=true/\mo.all okM=true)/\(hdS s ini en le mo).2=(s.1,s.2.1+mo.length,s.2.2+(en.length+le.length+mvG mo))) /\
  ((ini.isEmpty || isNm ini)=true->en.all okA=true->le.all okA=true->mo.all okM=true->s.2.1+mo.length<=200->s.2.2+(en.length+le.length+mvG mo)<=400->(hdS s ini en le mo).1=true):=by
 unfold hdS
 cases c0:(ini.isEmpty || isNm ini) with
 |false=>rw [if_neg (by decide)];exact ⟨λ h=>(by cases h),λ h=>(by cases h)⟩
 |true =>
  rw [if_pos rfl];obtain ⟨e1,e2⟩:=blkC_spec s en hs
  by_cases c1:(blkC s en).1=true
  ·rw [if_pos c1];obtain ⟨e3,e4,e5⟩:=e1 c1;obtain ⟨l1,l2⟩:=blkC_spec (blkC s en).2 le e3
   by_cases c2:(blkC (blkC s en).2 le).1=true
   ·rw [if_pos c2];obtain ⟨l3,l4,l5⟩:=l1 c2;rw [l5,e5];rw [l5,e5] at l3;simp only
    by_cases c3:s.2.1+mo.length<=200
    ·rw [if_pos c3];obtain ⟨m1,m2⟩:=mvsS_spec mo (s.1,s.2.1+mo.length,s.2.2+en.length+le.length) ⟨l3.1,c3,l3.2.2⟩;refine ⟨λ h=>?_,λ _ _ _ h4 _ h6=>m2 h4 (by show s.2.2+en.length+le.length+mvG mo<=400;omega)⟩;obtain ⟨a1,a2,a3⟩:=m1 h;exact ⟨a1,⟨trivial,e4,l4,a2⟩,by rw [a3];simp only [Prod.mk.injEq,true_and];omega⟩
    ·rw [if_neg c3];exact ⟨λ h=>(by cases h),λ _ _ _ _ h=>absurd h c3⟩
   ·rw [if_neg c2];refine ⟨λ h=>(by cases h),λ _ _ h3 _ _ h6=>absurd (l2 h3 ?_) c2⟩;rw [e5];show s.2.2+en.length+le.length<=400;omega
  ·rw [if_neg c1];exact ⟨λ h=>(by cases h),λ _ h2 _ _ _ h6=>absurd (e2 h2 (by omega)) c1⟩
mutual
theorem ndS_spec:∀(x:GN) (lvl:Nat) (s:Nat×Nat×Nat),Rm s->((ndS lvl s x).1=true->Rm (ndS lvl s x).2/\okN (12-lvl) x=true/\(ndS lvl s x).2=(s.1+nN x,s.2.1+nM x,s.2.2+nA x))/\(okN (12-lvl) x=true->s.1+nN x<=64->s.2.1+nM x<=200->s.2.2+nA x<=400->(ndS lvl s x).1=true)
 |.mk k nm ini dft en le mo ks p,lvl,s,hs=>by
  rw [ndS,nN,nM,nA]
  by_cases c0:(decide (s.1+1<=64)&&decide (lvl<12)&&isNm nm)=true
  ·rw [if_pos c0];simp only [Bool.and_eq_true,decide_eq_true_eq] at c0;obtain ⟨⟨c1,c2⟩,c3⟩:=c0
   obtain ⟨d,hd⟩:∃d,12-lvl=d+1:=⟨11-lvl,by omega⟩
   have hd':12-(lvl+1)=d:=by omega
   rw [hd,okN,c3,Bool.true_and]
   have hs':Rm (s.1+1,s.2):=⟨c1,hs.2.1,hs.2.2⟩
   by_cases hk:k=1∨k=2
   ·rw [if_pos hk,if_neg (c:=k=3∨k=4) (by omega),decide_eq_true hk,Bool.true_and]
    by_cases hdf:dft.isEmpty=true
    ·rw [if_pos hdf,hdf,Bool.true_and];obtain ⟨h1,h2⟩:=hdS_spec (s.1+1,s.2) ini en le mo hs'
     by_cases c4:(hdS (s.1+1,s.2) ini en le mo).1=true
     ·rw [if_pos c4];obtain ⟨h3,⟨h4,h5,h6,h7⟩,h8⟩:=h1 c4;obtain ⟨k1,k2⟩:=ndsS_spec ks (lvl+1) (hdS (s.1+1,s.2) ini en le mo).2 h3;rw [h8] at k1 k2 ⊢;rw [hd'] at k1 k2;rw [h4,h5,h6,h7];simp only [Bool.true_and] at k1 k2 ⊢;refine ⟨λ h=>?_,λ ha hb hc hdd=>k2 ha (by omega) (by omega) (by omega)⟩;obtain ⟨a1,a2,a3⟩:=k1 h;exact ⟨a1,a2,by rw [a3];simp only [Prod.mk.injEq];omega⟩
     ·rw [if_neg c4];refine ⟨λ h=>(by cases h),λ ha hb hc hdd=>?_⟩;simp only [Bool.and_eq_true] at ha;obtain ⟨⟨⟨⟨a1,a2⟩,a3⟩,a4⟩,_⟩:=ha;exact absurd (h2 a1 a2 a3 a4 (by show s.2.1+mo.length<=200;omega) (by show s.2.2+(en.length+le.length+mvG mo)<=400;omega)) c4
    ·rw [if_neg hdf];refine ⟨λ h=>(by cases h),λ ha=>?_⟩;rw [show dft.isEmpty=false from by simpa using hdf] at ha;simp at ha
   ·rw [if_neg hk]
    by_cases hk3:k=3∨k=4
    ·rw [if_pos hk3,if_pos hk3];simp only [Bool.and_eq_true,List.isEmpty_iff];refine ⟨λ h=>?_,λ h _ _ _=>?_⟩
     ·obtain ⟨a1,⟨⟨⟨a2,a3⟩,a4⟩,a5⟩,a6⟩:=h;subst a2 a3 a4 a5 a6;exact ⟨hs',⟨⟨⟨⟨⟨a1,rfl⟩,rfl⟩,rfl⟩,rfl⟩,rfl⟩,by rw [nNs,nMs,nAs];rfl⟩
     ·obtain ⟨⟨⟨⟨⟨a1,a2⟩,a3⟩,a4⟩,a5⟩,a6⟩:=h;exact ⟨a1,⟨⟨⟨a2,a3⟩,a4⟩,a5⟩,a6⟩
    ·rw [if_neg hk3,if_neg hk3];refine ⟨λ h=>(by cases h),λ ha=>?_⟩;rw [decide_eq_false hk] at ha;simp at ha
  ·rw [if_neg c0];refine ⟨λ h=>(by cases h),λ ha hb hc hd=>absurd ?_ c0⟩;simp only [Bool.and_eq_true,decide_eq_true_eq]
   by_cases hl:lvl<12
   ·obtain ⟨d,hdd⟩:∃d,12-lvl=d+1:=⟨11-lvl,by omega⟩
    rw [hdd,okN,Bool.and_eq_true] at ha;exact ⟨⟨by omega,hl⟩,ha.1⟩
   ·rw [show 12-lvl=0 from by omega,okN] at ha;cases ha
theorem ndsS_spec:∀(l:List GN) (lvl:Nat) (s:Nat×Nat×Nat),Rm s->((ndsS lvl s l).1=true->Rm (ndsS lvl s l).2/\okNs (12-lvl) l=true/\(ndsS lvl s l).2=(s.1+nNs l,s.2.1+nMs l,s.2.2+nAs l))/\(okNs (12-lvl) l=true->s.1+nNs l<=64->s.2.1+nMs l<=200->s.2.2+nAs l<=400->(ndsS lvl s l).1=true)
 |[],lvl,s,hs=>by
  rw [ndsS,okNs,nNs,nMs,nAs];exact ⟨λ _=>⟨hs,rfl,rfl⟩,λ _ _ _ _=>rfl⟩
 |x::l,lvl,s,hs=>by
  obtain ⟨h1,h2⟩:=ndS_spec x lvl s hs;rw [ndsS,okNs,nNs,nMs,nAs]
  by_cases c:(ndS lvl s x).1=true
  ·rw [if_pos c];obtain ⟨h3,h4,h5⟩:=h1 c;obtain ⟨h6,h7⟩:=ndsS_spec l lvl (ndS lvl s x).2 h3;rw [h5] at h6 h7 ⊢;rw [h4,Bool.true_and];simp only at h6 h7 ⊢;refine ⟨λ h=>?_,λ ha hb hc hd=>h7 ha (by omega) (by omega) (by omega)⟩;obtain ⟨a1,a2,a3⟩:=h6 h;exact ⟨a1,a2,by rw [a3];simp only [Prod.mk.injEq];omega⟩
  ·rw [if_neg c];refine ⟨λ h=>(by cases h),λ ha hb hc hd=>?_⟩;rw [Bool.and_eq_true] at ha;exact absurd (h2 ha.1 (by omega) (by omega) (by omega)) c
end
theorem okC_of (c:GC):okC c=(decide (c.vars.length<=16)&&c.vars.all okV&&decide (c.root.kind=1)&&(ndS 0 (0,0,0) c.root).1):=by
 obtain ⟨h1,h2⟩:=ndS_spec c.root 0 (0,0,0) ⟨by decide,by decide,by decide⟩;unfold okC
 cases hx:(ndS 0 (0,0,0) c.root).1 with
 |true =>
  obtain ⟨h3,h4,h5⟩:=h1 hx;rw [h5] at h3
  have e1:nN c.root<=64:=by have:=h3.1;simpa using this
  have e2:nM c.root<=200:=by have:=h3.2.1;simpa using this
  have e3:nA c.root<=400:=by have:=h3.2.2;simpa using this
  rw [show okN 12 c.root=true from h4,decide_eq_true e1,decide_eq_true e2,decide_eq_true e3];simp
 |false =>
  have:(okN 12 c.root&&decide (nN c.root<=64)&&decide (nM c.root<=200)&&decide (nA c.root<=400))=false:=by
   rw [Bool.eq_false_iff];intro h;simp only [Bool.and_eq_true,decide_eq_true_eq] at h;have:=h2 h.1.1.1 (by simpa using h.1.1.2) (by simpa using h.1.2) (by simpa using h.2);rw [hx] at this;cases this
  rw [Bool.and_false];rw [Bool.eq_false_iff] at this ⊢;intro h;apply this;simp only [Bool.and_eq_true] at h ⊢;exact ⟨⟨⟨h.1.1.1.2,h.1.1.2⟩,h.1.2⟩,h.2⟩
theorem notV_any (w:World) (S:ByteArray) (p q:Int) (h:Nat) (r:Bool) (hc:w.cell? ⟨h,0,none⟩=some (.func (.func 35) #[] #[])) (hh:h<w.heap.size)
  (HF:Hid (∀W,Below w.heap.size w W->Calls Tryz.prog 35 #[.agg #[.string S,.int .i64 p,.int .i64 q]] W λ e w'=>e=.returned (.bool r)/\Below W.heap.size W w')) :
  Calls Tryz.prog 64 #[.agg #[.string S,.int .i64 p,.int .i64 q],.pointer (some ⟨h,0,none⟩)] w λ e w'=>e=.returned (.bool (!r))/\Below w.heap.size w w':=by
 obtain ⟨W0,hW0⟩:∃W,W=w.alloc (.cells #[.string S,.int .i64 p,.int .i64 q] 63):=⟨_,rfl⟩
 obtain ⟨g0,hg0⟩:∃g,g=w.heap.size:=⟨_,rfl⟩
 have HB:Hid (Below w.heap.size w W0):=by rw [hW0];exact (b_ _ w).alloc (n_ _) _
 have HX:Hid (CB W0 g0 63 [.string S,.int .i64 p,.int .i64 q]):=by rw [hW0,hg0];exact CB.new w _ [.string S,.int .i64 p,.int .i64 q]
 have c0:W0.cell? ⟨h,0,none⟩=some (.func (.func 35) #[] #[]):=by rw [World.cell?_of_block (HB.out.block h hh)];exact hc
 have HC:=h_ (HF.out W0 HB.out);have z0:=HX.out.c 0 rfl;have z1:=HX.out.c 1 rfl;have z2:=HX.out.c 2 rfl;clear hc hh HF;go_enter Tryz.func64,Tryz.ntmps64;go_upto_region 1 with fail;rw [<-hW0,<-hg0];clear hW0 hg0;go_wp2_with fail;refine HC.out.mono ?_;rintro e w2 ⟨rfl,hb⟩;have HB2:=h_ (HB.out.trans (hb.mono HB.out.size));clear hb HC HX z0 z1 z2 c0;go_wp2_with fail;go_ret;exact ⟨rfl,HB2.out⟩
def allWV (w:World) (l:List SyVar) (v:Value):Prop:=∀(i:Nat) (a:SyVar),l[i]?=some a->∃(g og c:Nat) (_:Unit),v=.slice (some ⟨g,og,none⟩) l.length c/\g<w.heap.size/\w.cell? ⟨g,og+i*3,none⟩=some (txV a.name)/\w.cell? ⟨g,og+i*3+1,none⟩=some (.int .i64 a.num)/\w.cell? ⟨g,og+i*3+2,none⟩=some (.int .i64 a.at_) /\
 ∀W,Below w.heap.size w W->Calls Tryz.prog 35 #[.agg #[txV a.name,.int .i64 a.num,.int .i64 a.at_]] W λ e w'=>e=.returned (.bool (okV a))/\Below W.heap.size W w'
theorem firstV_any (w0 w:World) (l:List SyVar) (A:Option Addr) (c h n:Nat) (hn:l.length=n) (hm:n<=9223372036854775807) (H0:Hid (allWV w0 l (.slice A n c))) (hb0:Below w0.heap.size w0 w) (hc:w.cell? ⟨h,0,none⟩=some (.func (.func 35) #[] #[])) (hh:h<w.heap.size) :
  Calls Tryz.prog 100 #[.slice A n c,.func (.func 64) #[] #[.pointer (some ⟨h,0,none⟩)]] w λ e w'=>∃r:Int,e=.returned (.int .i64 r)/\decide (0<=r)=!(l.all okV)/\Below w.heap.size w w':=by
 have HN:=h_ hn;have HM:=h_ hm;have HB0:=h_ hb0;have HC0:=h_ (And.intro hc hh);clear hn hm hb0 hc hh;go_enter Tryz.func100,Tryz.ntmps100;go_wp2_with fail
 go_loopw [8] (λ iv wr=>∃i:Nat,i<=n/\iv=.int .i64 (i:Int)/\Hid ((l.take i).all okV=true)/\Hid (Below w.heap.size w wr)) (λ iv _=>n-(intOf iv).toNat)
 case atStart=>exact ⟨0,Nat.zero_le _,rfl,rfl,b_ _ w⟩
 case round =>
  obtain ⟨i,hi,rfl,HT,HBW⟩:=hrel
  by_cases him:i<n
  ·have him':(i:Int)<n:=by omega
   have HIM:=h_ him
   obtain ⟨a,ha⟩:∃a,l[i]?=some a:=⟨_,List.getElem?_eq_getElem (by rw [HN.out];exact him)⟩
   have hyc:=H0.out i a ha;rw [HN.out] at hyc;obtain ⟨g,og,c',_,hv,hg,y0,y1,y2,hcall⟩:=hyc
   obtain rfl:A=some ⟨g,og,none⟩:=by injection hv
   have hbw:Below w0.heap.size w0 wr:=HB0.out.trans (HBW.out.mono HB0.out.size)
   have kb:∀{p:Addr} {u:Value},w0.cell? p=some u->wr.cell? p=some u:=λ hc=>by rw [World.cell?_of_block (hbw.block _ (World.block_lt_of_cell? w0 _ hc))];exact hc
   have u0:=kb y0;have u1:=kb y1;have u2:=kb y2;have HCL:=h_ (notV_any wr ⟨a.name.toArray⟩ a.num a.at_ h (okV a) (by rw [World.cell?_of_block (HBW.out.block h HC0.out.2)];exact HC0.out.1) (Nat.lt_of_lt_of_le HC0.out.2 HBW.out.size) (λ W hb=>hcall W (hbw.trans (hb.mono hbw.size))))
   obtain ⟨r,hr⟩:∃r,okV a=r:=⟨_,rfl⟩
   rw [hr] at HCL;have HAR:=h_ (And.intro ha hr);clear ha hr hv hg hcall hbw kb y0 y1 y2;cases r
   ·go_wp2_with fail;refine HCL.out.mono ?_;rintro e w2 ⟨rfl,hb⟩;have HB2:=h_ (HBW.out.trans (hb.mono HBW.out.size));clear hb HCL u0 u1 u2 HBW;go_wp2_with fail;go_ret;refine ⟨_,rfl,?_,HB2.out⟩
    have hf:l.all okV=false:=by
     rw [List.all_eq_false];exact ⟨a,List.mem_of_getElem? HAR.out.1,by rw [HAR.out.2];decide⟩
    rw [hf];simp
   ·go_wp2_with fail;refine HCL.out.mono ?_;rintro e w2 ⟨rfl,hb⟩;have HB2:=h_ (HBW.out.trans (hb.mono HBW.out.size));clear hb HCL u0 u1 u2 HBW;go_wp2_with fail
    go_roundw
    case rel =>
     refine ⟨i+1,by have:=HIM.out;omega,by have h1:=HIM.out;have h2:=HM.out;rw [Go.IntWalk.wrap64_in _ ⟨by omega,by omega⟩];rfl,?_,HB2⟩;show (l.take (i+1)).all okV=true;rw [List.take_add_one,HAR.out.1,List.all_append,HT.out];simp [HAR.out.2]
    case measure=>have h1:=HIM.out;have h2:=HM.out;rw [Go.IntWalk.wrap64_in _ ⟨by omega,by omega⟩];simp [intOf];omega
  ·have him':¬(i:Int)<n:=by omega
   have HALL:Hid (l.all okV=true):=by
    have:=HT.out;rw [List.take_of_length_le (by rw [HN.out];omega)] at this;exact this
   clear hi;go_wp2_with fail;go_ret;exact ⟨_,rfl,by rw [HALL.out];rfl,HBW.out⟩
theorem contV_any (w0 w:World) (l:List SyVar) (A:Option Addr) (c h n:Nat) (R:Bool) (hR:l.all okV=R) (hn:l.length=n) (hm:n<=9223372036854775807) (H0:Hid (allWV w0 l (.slice A n c))) (hb0:Below w0.heap.size w0 w) (hc:w.cell? ⟨h,0,none⟩=some (.func (.func 35) #[] #[])) (hh:h<w.heap.size) :
  Calls Tryz.prog 63 #[.slice A n c,.func (.func 64) #[] #[.pointer (some ⟨h,0,none⟩)]] w λ e w'=>e=.returned (.bool (!R))/\Below w.heap.size w w':=by
 have HC:=h_ (firstV_any w0 w l A c h n hn hm H0 hb0 hc hh);rw [hR] at HC;clear hn hm H0 hb0 hc hh hR;go_enter Tryz.func63,Tryz.ntmps63;go_wp2_with fail;refine HC.out.mono ?_;rintro e w2 ⟨r,rfl,hr,hb⟩;have HB2:=h_ hb;have HR2:=h_ hr;clear hb hr HC;go_wp2_with fail;go_ret;refine ⟨?_,HB2.out⟩;rw [<-HR2.out];rfl
theorem everyV_any (w:World) (l:List SyVar) (A:Option Addr) (c n:Nat) (hn:l.length=n) (hm:n<=9223372036854775807) (H0:Hid (allWV w l (.slice A n c))) :
  Calls Tryz.prog 34 #[.slice A n c,.func (.func 35) #[] #[]] w λ e w'=>e=.returned (.bool (l.all okV))/\Below w.heap.size w w':=by
 obtain ⟨W0,hW0⟩:∃W,W=w.alloc (.cells #[.func (.func 35) #[] #[]] 83):=⟨_,rfl⟩
 obtain ⟨g0,hg0⟩:∃g,g=w.heap.size:=⟨_,rfl⟩
 have HB:Hid (Below w.heap.size w W0):=by rw [hW0];exact (b_ _ w).alloc (n_ _) _
 have HX:Hid (CB W0 g0 83 [.func (.func 35) #[] #[]]):=by rw [hW0,hg0];exact CB.new w _ [.func (.func 35) #[] #[]]
 obtain ⟨R,hR⟩:∃R,l.all okV=R:=⟨_,rfl⟩
 have HC:=h_ (contV_any w W0 l A c g0 n R hR hn hm H0 HB.out (HX.out.c 0 rfl) HX.out.lt);rw [hR];clear hn hm H0 hR HX;go_enter Tryz.func34,Tryz.ntmps34;go_upto_region 1 with fail;rw [<-hW0,<-hg0];clear hW0 hg0;go_wp2_with fail;refine HC.out.mono ?_;rintro e w2 ⟨rfl,hb⟩;have HB2:=h_ (HB.out.trans (hb.mono HB.out.size));clear hb HC;go_wp2_with fail;go_ret;exact ⟨by cases R <;> rfl,HB2.out⟩
theorem notA_any (w:World) (k q:Int) (S:ByteArray) (ev:EV) (h:Nat) (r:Bool) (hc:w.cell? ⟨h,0,none⟩=some (.func (.func 137) #[] #[])) (hh:h<w.heap.size)
  (HF:Hid (∀W,Below w.heap.size w W->Calls Tryz.prog 137 #[.agg #[.int .i64 k,.string S,.int .i64 ev.kind,.int .i64 ev.num,.string ev.name,.int .i64 ev.op,.slice ev.A ev.len ev.cap,.int .i64 ev.p,.int .i64 q]] W λ e w'=>e=.returned (.bool r)/\Below W.heap.size W w')) :
  Calls Tryz.prog 171 #[.agg #[.int .i64 k,.string S,.int .i64 ev.kind,.int .i64 ev.num,.string ev.name,.int .i64 ev.op,.slice ev.A ev.len ev.cap,.int .i64 ev.p,.int .i64 q],.pointer (some ⟨h,0,none⟩)] w λ e w'=>e=.returned (.bool (!r))/\Below w.heap.size w w':=by
 obtain ⟨W0,hW0⟩:∃W,W=w.alloc (.cells #[.int .i64 k,.string S,.int .i64 ev.kind,.int .i64 ev.num,.string ev.name,.int .i64 ev.op,.slice ev.A ev.len ev.cap,.int .i64 ev.p,.int .i64 q] 121):=⟨_,rfl⟩
 obtain ⟨g0,hg0⟩:∃g,g=w.heap.size:=⟨_,rfl⟩
 have HB:Hid (Below w.heap.size w W0):=by rw [hW0];exact (b_ _ w).alloc (n_ _) _
 have HX:Hid (CB W0 g0 121 [.int .i64 k,.string S,.int .i64 ev.kind,.int .i64 ev.num,.string ev.name,.int .i64 ev.op,.slice ev.A ev.len ev.cap,.int .i64 ev.p,.int .i64 q]):=by rw [hW0,hg0];exact CB.new w _ [.int .i64 k,.string S,.int .i64 ev.kind,.int .i64 ev.num,.string ev.name,.int .i64 ev.op,.slice ev.A ev.len ev.cap,.int .i64 ev.p,.int .i64 q]
 have c0:W0.cell? ⟨h,0,none⟩=some (.func (.func 137) #[] #[]):=by rw [World.cell?_of_block (HB.out.block h hh)];exact hc
 have HC:=h_ (HF.out W0 HB.out);have z0:=HX.out.c 0 rfl;have z1:=HX.out.c 1 rfl;have z2:=HX.out.c 2 rfl;have z3:=HX.out.c 3 rfl;have z4:=HX.out.c 4 rfl;have z5:=HX.out.c 5 rfl;have z6:=HX.out.c 6 rfl;have z7:=HX.out.c 7 rfl;have z8:=HX.out.c 8 rfl;clear hc hh HF;go_enter Tryz.func171,Tryz.ntmps171;go_upto_region 1 with fail;rw [<-hW0,<-hg0];clear hW0 hg0;go_wp2_with fail;refine HC.out.mono ?_;rintro e w2 ⟨rfl,hb⟩;have HB2:=h_ (HB.out.trans (hb.mono HB.out.size));clear hb HC HX z0 z1 z2 z3 z4 z5 z6 z7 z8 c0;go_wp2_with fail;go_ret;exact ⟨rfl,HB2.out⟩
def allWA (w:World) (l:List GA) (v:Value):Prop:=∀(i:Nat) (a:GA),l[i]?=some a->∃(g og c:Nat) (ev:EV),v=.slice (some ⟨g,og,none⟩) l.length c/\g<w.heap.size/\w.cell? ⟨g,og+i*9,none⟩=some (.int .i64 a.kind)/\w.cell? ⟨g,og+i*9+1,none⟩=some (txV a.name)/\w.cell? ⟨g,og+i*9+2,none⟩=some (.int .i64 ev.kind)/\w.cell? ⟨g,og+i*9+3,none⟩=some (.int .i64 ev.num)/\w.cell? ⟨g,og+i*9+4,none⟩=some (.string ev.name)/\w.cell? ⟨g,og+i*9+5,none⟩=some (.int .i64 ev.op)/\w.cell? ⟨g,og+i*9+6,none⟩=some (.slice ev.A ev.len ev.cap)/\w.cell? ⟨g,og+i*9+7,none⟩=some (.int .i64 ev.p)/\w.cell? ⟨g,og+i*9+8,none⟩=some (.int .i64 a.at_) /\
 ∀W,Below w.heap.size w W->Calls Tryz.prog 137 #[.agg #[.int .i64 a.kind,txV a.name,.int .i64 ev.kind,.int .i64 ev.num,.string ev.name,.int .i64 ev.op,.slice ev.A ev.len ev.cap,.int .i64 ev.p,.int .i64 a.at_]] W λ e w'=>e=.returned (.bool (okA a))/\Below W.heap.size W w'
theorem firstA_any (w0 w:World) (l:List GA) (A:Option Addr) (c h n:Nat) (hn:l.length=n) (hm:n<=9223372036854775807) (H0:Hid (allWA w0 l (.slice A n c))) (hb0:Below w0.heap.size w0 w) (hc:w.cell? ⟨h,0,none⟩=some (.func (.func 137) #[] #[])) (hh:h<w.heap.size) :
  Calls Tryz.prog 203 #[.slice A n c,.func (.func 171) #[] #[.pointer (some ⟨h,0,none⟩)]] w λ e w'=>∃r:Int,e=.returned (.int .i64 r)/\decide (0<=r)=!(l.all okA)/\Below w.heap.size w w':=by
 have HN:=h_ hn;have HM:=h_ hm;have HB0:=h_ hb0;have HC0:=h_ (And.intro hc hh);clear hn hm hb0 hc hh;go_enter Tryz.func203,Tryz.ntmps203;go_wp2_with fail
 go_loopw [8] (λ iv wr=>∃i:Nat,i<=n/\iv=.int .i64 (i:Int)/\Hid ((l.take i).all okA=true)/\Hid (Below w.heap.size w wr)) (λ iv _=>n-(intOf iv).toNat)
 case atStart=>exact ⟨0,Nat.zero_le _,rfl,rfl,b_ _ w⟩
 case round =>
  obtain ⟨i,hi,rfl,HT,HBW⟩:=hrel
  by_cases him:i<n
  ·have him':(i:Int)<n:=by omega
   have HIM:=h_ him
   obtain ⟨a,ha⟩:∃a,l[i]?=some a:=⟨_,List.getElem?_eq_getElem (by rw [HN.out];exact him)⟩
   have hyc:=H0.out i a ha;rw [HN.out] at hyc;obtain ⟨g,og,c',ev,hv,hg,y0,y1,y2,y3,y4,y5,y6,y7,y8,hcall⟩:=hyc
   obtain rfl:A=some ⟨g,og,none⟩:=by injection hv
   have hbw:Below w0.heap.size w0 wr:=HB0.out.trans (HBW.out.mono HB0.out.size)
   have kb:∀{p:Addr} {u:Value},w0.cell? p=some u->wr.cell? p=some u:=λ hc=>by rw [World.cell?_of_block (hbw.block _ (World.block_lt_of_cell? w0 _ hc))];exact hc
   have u0:=kb y0;have u1:=kb y1;have u2:=kb y2;have u3:=kb y3;have u4:=kb y4;have u5:=kb y5;have u6:=kb y6;have u7:=kb y7;have u8:=kb y8;have HCL:=h_ (notA_any wr a.kind a.at_ ⟨a.name.toArray⟩ ev h (okA a) (by rw [World.cell?_of_block (HBW.out.block h HC0.out.2)];exact HC0.out.1) (Nat.lt_of_lt_of_le HC0.out.2 HBW.out.size) (λ W hb=>hcall W (hbw.trans (hb.mono hbw.size))))
   obtain ⟨r,hr⟩:∃r,okA a=r:=⟨_,rfl⟩
   rw [hr] at HCL;have HAR:=h_ (And.intro ha hr);clear ha hr hv hg hcall hbw kb y0 y1 y2 y3 y4 y5 y6 y7 y8;cases r
   ·go_wp2_with fail;refine HCL.out.mono ?_;rintro e w2 ⟨rfl,hb⟩;have HB2:=h_ (HBW.out.trans (hb.mono HBW.out.size));clear hb HCL u0 u1 u2 u3 u4 u5 u6 u7 u8 HBW;go_wp2_with fail;go_ret;refine ⟨_,rfl,?_,HB2.out⟩
    have hf:l.all okA=false:=by
     rw [List.all_eq_false];exact ⟨a,List.mem_of_getElem? HAR.out.1,by rw [HAR.out.2];decide⟩
    rw [hf];simp
   ·go_wp2_with fail;refine HCL.out.mono ?_;rintro e w2 ⟨rfl,hb⟩;have HB2:=h_ (HBW.out.trans (hb.mono HBW.out.size));clear hb HCL u0 u1 u2 u3 u4 u5 u6 u7 u8 HBW;go_wp2_with fail
    go_roundw
    case rel =>
     refine ⟨i+1,by have:=HIM.out;omega,by have h1:=HIM.out;have h2:=HM.out;rw [Go.IntWalk.wrap64_in _ ⟨by omega,by omega⟩];rfl,?_,HB2⟩;show (l.take (i+1)).all okA=true;rw [List.take_add_one,HAR.out.1,List.all_append,HT.out];simp [HAR.out.2]
    case measure=>have h1:=HIM.out;have h2:=HM.out;rw [Go.IntWalk.wrap64_in _ ⟨by omega,by omega⟩];simp [intOf];omega
  ·have him':¬(i:Int)<n:=by omega
   have HALL:Hid (l.all okA=true):=by
    have:=HT.out;rw [List.take_of_length_le (by rw [HN.out];omega)] at this;exact this
   clear hi;go_wp2_with fail;go_ret;exact ⟨_,rfl,by rw [HALL.out];rfl,HBW.out⟩
theorem contA_any (w0 w:World) (l:List GA) (A:Option Addr) (c h n:Nat) (R:Bool) (hR:l.all okA=R) (hn:l.length=n) (hm:n<=9223372036854775807) (H0:Hid (allWA w0 l (.slice A n c))) (hb0:Below w0.heap.size w0 w) (hc:w.cell? ⟨h,0,none⟩=some (.func (.func 137) #[] #[])) (hh:h<w.heap.size) :
  Calls Tryz.prog 170 #[.slice A n c,.func (.func 171) #[] #[.pointer (some ⟨h,0,none⟩)]] w λ e w'=>e=.returned (.bool (!R))/\Below w.heap.size w w':=by
 have HC:=h_ (firstA_any w0 w l A c h n hn hm H0 hb0 hc hh);rw [hR] at HC;clear hn hm H0 hb0 hc hh hR;go_enter Tryz.func170,Tryz.ntmps170;go_wp2_with fail;refine HC.out.mono ?_;rintro e w2 ⟨r,rfl,hr,hb⟩;have HB2:=h_ hb;have HR2:=h_ hr;clear hb hr HC;go_wp2_with fail;go_ret;refine ⟨?_,HB2.out⟩;rw [<-HR2.out];rfl
theorem everyA_any (w:World) (l:List GA) (A:Option Addr) (c n:Nat) (hn:l.length=n) (hm:n<=9223372036854775807) (H0:Hid (allWA w l (.slice A n c))) :
  Calls Tryz.prog 136 #[.slice A n c,.func (.func 137) #[] #[]] w λ e w'=>e=.returned (.bool (l.all okA))/\Below w.heap.size w w':=by
 obtain ⟨W0,hW0⟩:∃W,W=w.alloc (.cells #[.func (.func 137) #[] #[]] 173):=⟨_,rfl⟩
 obtain ⟨g0,hg0⟩:∃g,g=w.heap.size:=⟨_,rfl⟩
 have HB:Hid (Below w.heap.size w W0):=by rw [hW0];exact (b_ _ w).alloc (n_ _) _
 have HX:Hid (CB W0 g0 173 [.func (.func 137) #[] #[]]):=by rw [hW0,hg0];exact CB.new w _ [.func (.func 137) #[] #[]]
 obtain ⟨R,hR⟩:∃R,l.all okA=R:=⟨_,rfl⟩
 have HC:=h_ (contA_any w W0 l A c g0 n R hR hn hm H0 HB.out (HX.out.c 0 rfl) HX.out.lt);rw [hR];clear hn hm H0 hR HX;go_enter Tryz.func136,Tryz.ntmps136;go_upto_region 1 with fail;rw [<-hW0,<-hg0];clear hW0 hg0;go_wp2_with fail;refine HC.out.mono ?_;rintro e w2 ⟨rfl,hb⟩;have HB2:=h_ (HB.out.trans (hb.mono HB.out.size));clear hb HC;go_wp2_with fail;go_ret;exact ⟨by cases R <;> rfl,HB2.out⟩
theorem notS_any (w:World) (S:ByteArray) (h:Nat) (r:Bool) (hc:w.cell? ⟨h,0,none⟩=some (.func (.func 65) #[] #[])) (_hh:h<w.heap.size)
  (HF:Hid (∀W,Below w.heap.size w W->Calls Tryz.prog 65 #[.string S] W λ e w'=>e=.returned (.bool r)/\Below W.heap.size W w')) :
  Calls Tryz.prog 176 #[.string S,.pointer (some ⟨h,0,none⟩)] w λ e w'=>e=.returned (.bool (!r))/\Below w.heap.size w w':=by
 have HC:=h_ (HF.out w (b_ _ w));clear _hh HF;go_enter Tryz.func176,Tryz.ntmps176;go_wp2_with fail;refine HC.out.mono ?_;rintro e w2 ⟨rfl,hb⟩;have HB2:=h_ hb;clear hb HC hc;go_wp2_with fail;go_ret;exact ⟨rfl,HB2.out⟩
def allWS (w:World) (l:List (List UInt8)) (v:Value):Prop:=∀(i:Nat) (a:(List UInt8)),l[i]?=some a->∃(g og c:Nat) (_:Unit),v=.slice (some ⟨g,og,none⟩) l.length c/\g<w.heap.size/\w.cell? ⟨g,og+i,none⟩=some (txV a) /\
 ∀W,Below w.heap.size w W->Calls Tryz.prog 65 #[txV a] W λ e w'=>e=.returned (.bool (isNm a))/\Below W.heap.size W w'
theorem firstS_any (w0 w:World) (l:List (List UInt8)) (A:Option Addr) (c h n:Nat) (hn:l.length=n) (hm:n<=9223372036854775807) (H0:Hid (allWS w0 l (.slice A n c))) (hb0:Below w0.heap.size w0 w) (hc:w.cell? ⟨h,0,none⟩=some (.func (.func 65) #[] #[])) (hh:h<w.heap.size) :
  Calls Tryz.prog 204 #[.slice A n c,.func (.func 176) #[] #[.pointer (some ⟨h,0,none⟩)]] w λ e w'=>∃r:Int,e=.returned (.int .i64 r)/\decide (0<=r)=!(l.all isNm)/\Below w.heap.size w w':=by
 have HN:=h_ hn;have HM:=h_ hm;have HB0:=h_ hb0;have HC0:=h_ (And.intro hc hh);clear hn hm hb0 hc hh;go_enter Tryz.func204,Tryz.ntmps204;go_wp2_with fail
 go_loopw [8] (λ iv wr=>∃i:Nat,i<=n/\iv=.int .i64 (i:Int)/\Hid ((l.take i).all isNm=true)/\Hid (Below w.heap.size w wr)) (λ iv _=>n-(intOf iv).toNat)
 case atStart=>exact ⟨0,Nat.zero_le _,rfl,rfl,b_ _ w⟩
 case round =>
  obtain ⟨i,hi,rfl,HT,HBW⟩:=hrel
  by_cases him:i<n
  ·have him':(i:Int)<n:=by omega
   have HIM:=h_ him
   obtain ⟨a,ha⟩:∃a,l[i]?=some a:=⟨_,List.getElem?_eq_getElem (by rw [HN.out];exact him)⟩
   have hyc:=H0.out i a ha;rw [HN.out] at hyc;obtain ⟨g,og,c',_,hv,hg,y0,hcall⟩:=hyc
   obtain rfl:A=some ⟨g,og,none⟩:=by injection hv
   have hbw:Below w0.heap.size w0 wr:=HB0.out.trans (HBW.out.mono HB0.out.size)
   have kb:∀{p:Addr} {u:Value},w0.cell? p=some u->wr.cell? p=some u:=λ hc=>by rw [World.cell?_of_block (hbw.block _ (World.block_lt_of_cell? w0 _ hc))];exact hc
   have u0:=kb y0;have HCL:=h_ (notS_any wr ⟨a.toArray⟩ h (isNm a) (by rw [World.cell?_of_block (HBW.out.block h HC0.out.2)];exact HC0.out.1) (Nat.lt_of_lt_of_le HC0.out.2 HBW.out.size) (λ W hb=>hcall W (hbw.trans (hb.mono hbw.size))))
   obtain ⟨r,hr⟩:∃r,isNm a=r:=⟨_,rfl⟩
   rw [hr] at HCL;have HAR:=h_ (And.intro ha hr);clear ha hr hv hg hcall hbw kb y0;cases r
   ·go_wp2_with fail;refine HCL.out.mono ?_;rintro e w2 ⟨rfl,hb⟩;have HB2:=h_ (HBW.out.trans (hb.mono HBW.out.size));clear hb HCL u0 HBW;go_wp2_with fail;go_ret;refine ⟨_,rfl,?_,HB2.out⟩
    have hf:l.all isNm=false:=by
     rw [List.all_eq_false];exact ⟨a,List.mem_of_getElem? HAR.out.1,by rw [HAR.out.2];decide⟩
    rw [hf];simp
   ·go_wp2_with fail;refine HCL.out.mono ?_;rintro e w2 ⟨rfl,hb⟩;have HB2:=h_ (HBW.out.trans (hb.mono HBW.out.size));clear hb HCL u0 HBW;go_wp2_with fail
    go_roundw
    case rel =>
     refine ⟨i+1,by have:=HIM.out;omega,by have h1:=HIM.out;have h2:=HM.out;rw [Go.IntWalk.wrap64_in _ ⟨by omega,by omega⟩];rfl,?_,HB2⟩;show (l.take (i+1)).all isNm=true;rw [List.take_add_one,HAR.out.1,List.all_append,HT.out];simp [HAR.out.2]
    case measure=>have h1:=HIM.out;have h2:=HM.out;rw [Go.IntWalk.wrap64_in _ ⟨by omega,by omega⟩];simp [intOf];omega
  ·have him':¬(i:Int)<n:=by omega
   have HALL:Hid (l.all isNm=true):=by
    have:=HT.out;rw [List.take_of_length_le (by rw [HN.out];omega)] at this;exact this
   clear hi;go_wp2_with fail;go_ret;exact ⟨_,rfl,by rw [HALL.out];rfl,HBW.out⟩
theorem contS_any (w0 w:World) (l:List (List UInt8)) (A:Option Addr) (c h n:Nat) (R:Bool) (hR:l.all isNm=R) (hn:l.length=n) (hm:n<=9223372036854775807) (H0:Hid (allWS w0 l (.slice A n c))) (hb0:Below w0.heap.size w0 w) (hc:w.cell? ⟨h,0,none⟩=some (.func (.func 65) #[] #[])) (hh:h<w.heap.size) :
  Calls Tryz.prog 175 #[.slice A n c,.func (.func 176) #[] #[.pointer (some ⟨h,0,none⟩)]] w λ e w'=>e=.returned (.bool (!R))/\Below w.heap.size w w':=by
 have HC:=h_ (firstS_any w0 w l A c h n hn hm H0 hb0 hc hh);rw [hR] at HC;clear hn hm H0 hb0 hc hh hR;go_enter Tryz.func175,Tryz.ntmps175;go_wp2_with fail;refine HC.out.mono ?_;rintro e w2 ⟨r,rfl,hr,hb⟩;have HB2:=h_ hb;have HR2:=h_ hr;clear hb hr HC;go_wp2_with fail;go_ret;refine ⟨?_,HB2.out⟩;rw [<-HR2.out];rfl
theorem everyS_any (w:World) (l:List (List UInt8)) (A:Option Addr) (c n:Nat) (hn:l.length=n) (hm:n<=9223372036854775807) (H0:Hid (allWS w l (.slice A n c))) :
  Calls Tryz.prog 142 #[.slice A n c,.func (.func 65) #[] #[]] w λ e w'=>e=.returned (.bool (l.all isNm))/\Below w.heap.size w w':=by
 obtain ⟨W0,hW0⟩:∃W,W=w.alloc (.cells #[.func (.func 65) #[] #[]] 50):=⟨_,rfl⟩
 obtain ⟨g0,hg0⟩:∃g,g=w.heap.size:=⟨_,rfl⟩
 have HB:Hid (Below w.heap.size w W0):=by rw [hW0];exact (b_ _ w).alloc (n_ _) _
 have HX:Hid (CB W0 g0 50 [.func (.func 65) #[] #[]]):=by rw [hW0,hg0];exact CB.new w _ [.func (.func 65) #[] #[]]
 obtain ⟨R,hR⟩:∃R,l.all isNm=R:=⟨_,rfl⟩
 have HC:=h_ (contS_any w W0 l A c g0 n R hR hn hm H0 HB.out (HX.out.c 0 rfl) HX.out.lt);rw [hR];clear hn hm H0 hR HX;go_enter Tryz.func142,Tryz.ntmps142;go_upto_region 1 with fail;rw [<-hW0,<-hg0];clear hW0 hg0;go_wp2_with fail;refine HC.out.mono ?_;rintro e w2 ⟨rfl,hb⟩;have HB2:=h_ (HB.out.trans (hb.mono HB.out.size));clear hb HC;go_wp2_with fail;go_ret;exact ⟨by cases R <;> rfl,HB2.out⟩
structure Ee (w:World):Prop where
 vr:Vars w
 sg:SgAt w
 pw:PowTab w
theorem Ee.below {w w':World} (h:Ee w) (hb:Below w.heap.size w w'):Ee w':=⟨h.vr.below hb,h.sg.below hb,h.pw.below hb⟩
theorem Ee.vs {w:World} (h:Ee w):Vs w:=⟨h.vr.kw,h.sg⟩
theorem Ee.wv {w:World} (h:Ee w):Wv w:=⟨h.vr.kw,h.sg,h.pw⟩
theorem fine_rng:∀e:Ex,e.fine->e.gx.rng
 |.int n p,h=>by
  show GX.rng (.mk 1 n [] 0 [] p);rw [GX.rng,GX.rngs];exact ⟨⟨by have:=h.1;omega,h.2⟩,by decide,by decide,trivial⟩
 |.var s p,h=>by
  show GX.rng (.mk 2 0 s 0 [] p);rw [GX.rng,GX.rngs];obtain ⟨_,_,_,_,_,h2,_⟩:=isNm_parts h;exact ⟨by decide,by decide,by omega,trivial⟩
 |.inn s p,h=>by
  show GX.rng (.mk 3 0 s 0 [] p);rw [GX.rng,GX.rngs];obtain ⟨_,_,_,_,_,h2,_⟩:=isNm_parts h;exact ⟨by decide,by decide,by omega,trivial⟩
 |.one op x p,h=>by
  show GX.rng (.mk 4 0 [] op [x.gx] p);rw [GX.rng,GX.rngs,GX.rngs];exact ⟨by decide,by rcases h.1 with h|h <;> rw [h] <;> decide,by decide,fine_rng x h.2,trivial⟩
 |.both op x y,h=>by
  show GX.rng (.mk 5 0 [] op [x.gx,y.gx] x.pos);rw [GX.rng,GX.rngs,GX.rngs,GX.rngs];refine ⟨by decide,?_,by decide,fine_rng x h.2.1,fine_rng y h.2.2,trivial⟩
  rcases row_cases h.1 with h|h|h|h|h|h|h|h|h|h|h|h|h <;> rw [h] <;> decide
def aX (pl:Bool) (a b:GA):Prop:=a.kind=b.kind/\a.name=b.name/\sm pl a.val b.val=true/\(pl=true->a.at_=b.at_)
def asX (pl:Bool) (l l':List GA):Prop:=l.length=l'.length/\∀(i:Nat) (a b:GA),l[i]?=some a->l'[i]?=some b->aX pl a b
theorem sameacts_g (w:World) (pl:Bool) (l l':List GA) (v v':Value) (h:DxAt w (gActs l) v) (h':DxAt w (gActs l') v') (hs:asX pl l l') :
  Calls Tryz.prog 40 #[v,v',.bool pl] w λ e w'=>e=.returned (.bool true)/\Below w.heap.size w w':=by
 obtain ⟨A,c,rfl,hc1,hc2⟩:=DxAt.slice (show DxAt w (.row _ 9 l.length _) v from h);obtain ⟨A',c',rfl,hc1',hc2'⟩:=DxAt.slice (show DxAt w (.row _ 9 l'.length _) v' from h');have H:=h_ h;have H':=h_ h';have HA:=h_ hs.2
 obtain ⟨n,hn⟩:∃n,l.length=n:=⟨_,rfl⟩
 have hn':l'.length=n:=by rw [<-hs.1];exact hn
 have HN:=h_ hn;have HN':=h_ hn'
 have HMX:Hid (n<=9223372036854775807):=by show n<=_;have:maxLen<=9223372036854775807:=by decide
                                           omega
 rw [hn,hn'];clear h h' hs hc1 hc2 hc1' hc2' hn hn'
 have q6:((n:Int) != n)=false:=by simp [bne]
 go_enter Tryz.func40,Tryz.ntmps40;go_wp2_with fail;clear q6
 go_loopw [7] (λ iv wr=>∃i:Nat,i<=n/\iv=.int .i64 (i:Int)/\Hid (Below w.heap.size w wr)) (λ iv _=>n-(intOf iv).toNat)
 case atStart=>exact ⟨0,Nat.zero_le _,rfl,(b_ _ w)⟩
 case round =>
  obtain ⟨i,hi,rfl,HBW⟩:=hrel
  by_cases him:i<n
  ·have HIM:=h_ him
   have him':(i:Int)<n:=by omega
   obtain ⟨x,hx⟩:∃x,l[i]?=some x:=⟨_,List.getElem?_eq_getElem (by rw [HN.out];exact him)⟩
   obtain ⟨y,hy⟩:∃y,l'[i]?=some y:=⟨_,List.getElem?_eq_getElem (by rw [HN'.out];exact him)⟩
   obtain ⟨a1,a2,a3,a4⟩:=HA.out i x y hx hy;obtain ⟨g,o,c0,ev,hv,hg,x0,x1,hev,hgv,x8⟩:=acts_at H.out hx;obtain ⟨g',o',c0',ev',hv',hg',y0,y1,hev',hgv',y8⟩:=acts_at H'.out hy
   obtain rfl:A=some ⟨g,o,none⟩:=by injection hv
   obtain rfl:A'=some ⟨g',o',none⟩:=by injection hv'
   have kb:∀{p:Addr} {u:Value},w.cell? p=some u->wr.cell? p=some u:=λ hc=>by rw [World.cell?_of_block (HBW.out.block _ (World.block_lt_of_cell? w _ hc))];exact hc
   obtain ⟨X,hX⟩:=str_of x.name;obtain ⟨Y,hY⟩:=str_of y.name;rw [hX] at x1;rw [hY] at y1;have X0:=h_ (kb x0);have X1:=h_ (kb x1);have X8:=h_ (kb x8);have Y0:=h_ (kb y0);have Y1:=h_ (kb y1);have Y8:=h_ (kb y8);obtain ⟨x2,x3,x4,x5,x6,x7⟩:=hev.same (HBW.out.block g hg);obtain ⟨y2,y3,y4,y5,y6,y7⟩:=hev'.same (HBW.out.block g' hg');have HC:=h_ (λ (W:World) (hb:Below w.heap.size w W)=>esame_any W x.val y.val ev ev' pl ((GV.below hgv hb (n_ _)).mono (n_ _) hb.size) ((GV.below hgv' hb (n_ _)).mono (n_ _) hb.size));rw [a3] at HC
   have HXY:Hid (X=Y):=by
    show X=Y
    have:txV x.name=txV y.name:=by rw [a2]
    rw [hX,hY] at this;injection this
   have HK:=h_ a1;have HT:=h_ a4;obtain ⟨k2,num2,S2,op2,A2,len2,cap2,p2⟩:=ev;obtain ⟨k3,num3,S3,op3,A3,len3,cap3,p3⟩:=ev';simp only [EV.val] at HC;simp only at x2 x3 x4 x5 x6 x7 y2 y3 y4 y5 y6 y7;clear hev hev' hgv hgv' hv hv' kb x0 x1 x8 y0 y1 y8 hX hY a1 a2 a3 a4 hx hy hg hg';go_wp2_with fail
   go_still_tail 11,(by kernel_rfl)
   change wpList _ _ _ _ _ (World.drew wr)
   obtain ⟨W1,hW1⟩:∃W1,W1=wr.drew:=⟨_,rfl⟩
   have HB1:Hid (Below w.heap.size w W1):=by rw [hW1];exact HBW.out.trans (b_ _ wr).drew
   have kb:∀{p:Addr} {u:Value},wr.cell? p=some u->W1.cell? p=some u:=λ hc=>by rw [hW1];exact hc
   have X0':=h_ (kb X0.out);have X1':=h_ (kb X1.out);have X8':=h_ (kb X8.out);have Y0':=h_ (kb Y0.out);have Y1':=h_ (kb Y1.out);have Y8':=h_ (kb Y8.out);have HCC:=h_ (HC.out W1 HB1.out);rw [<-hW1];clear kb hW1 HC HBW x2 x3 x4 x5 x6 x7 y2 y3 y4 y5 y6 y7 X0 X1 X8 Y0 Y1 Y8;go_wp2_with fail;refine HCC.out.mono ?_;rintro e w2 ⟨rfl,hb⟩;have HB2:=h_ (HB1.out.trans (hb.mono HB1.out.size))
   have kb:∀{p:Addr} {u:Value},W1.cell? p=some u->w2.cell? p=some u:=λ hc=>by rw [World.cell?_of_block (hb.block _ (World.block_lt_of_cell? W1 _ hc))];exact hc
   have x0:=kb X0'.out;have x1:=kb X1'.out;have x8:=kb X8'.out;have y0:=kb Y0'.out;have y1:=kb Y1'.out;have y8:=kb Y8'.out;obtain rfl:=HXY.out
   have q0:(x.kind != y.kind)=false:=by simp [bne,HK.out]
   clear kb hb HCC HB1 X0' X1' X8' Y0' Y1' Y8';cases pl
   ·go_wp2_with fail
    go_quiet (fail)
    clear x0 x1 x8 y0 y1 y8 q0;go_wp2_with fail
    go_roundw
    case rel=>exact ⟨i+1,by have:=HIM.out;omega,by have h1:=HIM.out;have h2:=HMX.out;rw [Go.IntWalk.wrap64_in _ ⟨by omega,by omega⟩];rfl,HB2.out.trans ((drewN_below w2 _).mono HB2.out.size)⟩
    case measure=>have h1:=HIM.out;have h2:=HMX.out;rw [Go.IntWalk.wrap64_in _ ⟨by omega,by omega⟩];simp [intOf];omega
   ·have q8:(x.at_ != y.at_)=false:=by simp [bne,HT.out rfl]
    go_wp2_with fail
    go_quiet (fail)
    clear x0 x1 x8 y0 y1 y8 q0 q8;go_wp2_with fail
    go_roundw
    case rel=>exact ⟨i+1,by have:=HIM.out;omega,by have h1:=HIM.out;have h2:=HMX.out;rw [Go.IntWalk.wrap64_in _ ⟨by omega,by omega⟩];rfl,HB2.out.trans ((drewN_below w2 _).mono HB2.out.size)⟩
    case measure=>have h1:=HIM.out;have h2:=HMX.out;rw [Go.IntWalk.wrap64_in _ ⟨by omega,by omega⟩];simp [intOf];omega
  ·have him':¬(i:Int)<n:=by omega
   go_wp2_with fail;go_ret;exact ⟨rfl,HBW.out⟩
theorem strs_sl {w:World} {l:List (List UInt8)} {A:Option Addr} {c:Nat} (h:DxAt w (dvStrs l) (.slice A l.length c)):l.length<=c/\c<=maxLen/\StrAt w A (l.map λ s=>(⟨s.toArray⟩:ByteArray)):=by
 obtain ⟨A',c',hv,h1,h2,h3⟩:=strs_dx h;injection hv with e1 _ e2;subst e1 e2;exact ⟨h1,h2,h3⟩
def mX (pl:Bool) (a b:GM):Prop:=a.kind=b.kind/\a.event=b.event/\a.wait=b.wait/\a.guarded=b.guarded/\sm pl a.guard b.guard=true/\asX pl a.acts b.acts/\a.targets=b.targets/\(pl=true->a.at_=b.at_)
theorem samemove_g (w:World) (pl:Bool) (m q:GM) (xs ys:List Value) (h:DxsAt w (gMove m) xs) (h':DxsAt w (gMove q) ys) (hs:mX pl m q) :
  Calls Tryz.prog 41 #[.agg xs.toArray,.agg ys.toArray,.bool pl] w λ e w'=>e=.returned (.bool true)/\Below w.heap.size w w':=by
 obtain ⟨me,mA,mT,mc,md,rfl,mg,ma,mt⟩:=move_vals' h;obtain ⟨qe,qA,qT,qc,qd,rfl,qg,qa,qt⟩:=move_vals' h';obtain ⟨mt1,mt2,mt3⟩:=strs_sl mt;obtain ⟨qt1,qt2,qt3⟩:=strs_sl qt;obtain ⟨X,hX⟩:=str_of m.event;obtain ⟨Y,hY⟩:=str_of q.event;obtain ⟨s1,s2,s3,s4,s5,s6,s7,s8⟩:=hs
 have hXY:X=Y:=by
  have:txV m.event=txV q.event:=by rw [s2]
  rw [hX,hY] at this;injection this
 subst hXY;rw [hX,hY]
 obtain ⟨g1,hg1⟩:∃g,g=w.heap.size:=⟨_,rfl⟩
 obtain ⟨g2,hg2⟩:∃g,g=w.heap.size+1:=⟨_,rfl⟩
 obtain ⟨Wa,hWa⟩:∃W,W=w.alloc (.cells #[.int .i64 m.kind,.string X,.int .i64 m.wait,.bool m.guarded,.int .i64 me.kind,.int .i64 me.num,.string me.name,.int .i64 me.op,.slice me.A me.len me.cap,.int .i64 me.p,.slice mA m.acts.length mc,.slice mT m.targets.length md,.int .i64 m.at_] 43):=⟨_,rfl⟩
 obtain ⟨W0,hW0⟩:∃W,W=Wa.alloc (.cells #[.int .i64 q.kind,.string X,.int .i64 q.wait,.bool q.guarded,.int .i64 qe.kind,.int .i64 qe.num,.string qe.name,.int .i64 qe.op,.slice qe.A qe.len qe.cap,.int .i64 qe.p,.slice qA q.acts.length qc,.slice qT q.targets.length qd,.int .i64 q.at_] 43):=⟨_,rfl⟩
 have hsa:Wa.heap.size=w.heap.size+1:=by rw [hWa];simp
 have HX:Hid (CB W0 g1 43 [.int .i64 m.kind,.string X,.int .i64 m.wait,.bool m.guarded,.int .i64 me.kind,.int .i64 me.num,.string me.name,.int .i64 me.op,.slice me.A me.len me.cap,.int .i64 me.p,.slice mA m.acts.length mc,.slice mT m.targets.length md,.int .i64 m.at_]):=by rw [hW0,hWa,hg1];exact (CB.new w _ [.int .i64 m.kind,.string X,.int .i64 m.wait,.bool m.guarded,.int .i64 me.kind,.int .i64 me.num,.string me.name,.int .i64 me.op,.slice me.A me.len me.cap,.int .i64 me.p,.slice mA m.acts.length mc,.slice mT m.targets.length md,.int .i64 m.at_]).alloc _
 have HY:Hid (CB W0 g2 43 [.int .i64 q.kind,.string X,.int .i64 q.wait,.bool q.guarded,.int .i64 qe.kind,.int .i64 qe.num,.string qe.name,.int .i64 qe.op,.slice qe.A qe.len qe.cap,.int .i64 qe.p,.slice qA q.acts.length qc,.slice qT q.targets.length qd,.int .i64 q.at_]):=by
  have:=CB.new Wa 43 [.int .i64 q.kind,.string X,.int .i64 q.wait,.bool q.guarded,.int .i64 qe.kind,.int .i64 qe.num,.string qe.name,.int .i64 qe.op,.slice qe.A qe.len qe.cap,.int .i64 qe.p,.slice qA q.acts.length qc,.slice qT q.targets.length qd,.int .i64 q.at_];rw [hsa,<-hg2] at this;rw [hW0];exact this
 have HB:Hid (Below w.heap.size w W0):=by rw [hW0,hWa];exact ((b_ _ w).alloc (n_ _) _).alloc (by simp) _
 have HC1:=h_ (esame_any W0 m.guard q.guard me qe pl ((GV.below mg HB.out (n_ _)).mono (n_ _) HB.out.size) ((GV.below qg HB.out (n_ _)).mono (n_ _) HB.out.size));rw [s5] at HC1;simp only [EV.val] at HC1;have HC2:=h_ (λ (W:World) (hb:Below w.heap.size w W)=>sameacts_g W pl m.acts q.acts _ _ (ma.below hb) (qa.below hb) s6);have HC3:=h_ (λ (W:World) (hb:Below w.heap.size w W)=>rsame6_any W mT qT m.targets.length md q.targets.length qd _ _ (mt3.below hb) (qt3.below hb) (by simp) (by simp) ⟨mt1,mt2⟩ ⟨qt1,qt2⟩)
 have hdec:decide ((m.targets.map λ s=>(⟨s.toArray⟩:ByteArray))=q.targets.map λ s=>(⟨s.toArray⟩:ByteArray))=true:=by rw [s7];exact decide_eq_true rfl
 simp only [hdec] at HC3;have q1:=HX.out.c 4 rfl;have q2:=HX.out.c 5 rfl;have q3:=HX.out.c 6 rfl;have q4:=HX.out.c 7 rfl;have q5:=HX.out.c 8 rfl;have q6:=HX.out.c 9 rfl;have r1:=HY.out.c 4 rfl;have r2:=HY.out.c 5 rfl;have r3:=HY.out.c 6 rfl;have r4:=HY.out.c 7 rfl;have r5:=HY.out.c 8 rfl;have r6:=HY.out.c 9 rfl;have HS:=h_ (And.intro s1 (And.intro s3 (And.intro s4 s8)))
 have HTL:Hid (m.targets.length=q.targets.length):=by show _=_;rw [s7]
 clear h h' mg qg ma qa mt qt mt1 mt2 mt3 qt1 qt2 qt3 s1 s2 s3 s4 s5 s6 s7 s8 hX hY hsa;go_enter Tryz.func41,Tryz.ntmps41;go_upto_region 1 with fail;rw [<-hWa,<-hW0,<-hg2,<-hg1];clear hWa hW0 hg2 hg1;go_wp2_with fail;refine HC1.out.mono ?_;rintro e w1 ⟨rfl,hb⟩;have HX1:=h_ (HX.out.below hb);have HY1:=h_ (HY.out.below hb);have HB1:=h_ (HB.out.trans (hb.mono HB.out.size));have HCA:=h_ (HC2.out w1 HB1.out);have x1:=HX1.out.c 10 rfl;have y1:=HY1.out.c 10 rfl;clear hb HC1 HX HY HB HC2 q1 q2 q3 q4 q5 q6 r1 r2 r3 r4 r5 r6;go_wp2_with fail;refine HCA.out.mono ?_;rintro e w2 ⟨rfl,hb⟩;have HX2:=h_ (HX1.out.below hb);have HY2:=h_ (HY1.out.below hb);have HB2:=h_ (HB1.out.trans (hb.mono HB1.out.size));have HCB:=h_ (HC3.out w2 HB2.out);have x2:=HX2.out.c 11 rfl;have y2:=HY2.out.c 11 rfl;clear hb HCA HX1 HY1 HB1 HC3 x1 y1;go_wp2_with fail;refine HCB.out.mono ?_;rintro e w3 ⟨rfl,hb⟩;have HX3:=h_ (HX2.out.below hb);have HY3:=h_ (HY2.out.below hb);have HB3:=h_ (HB2.out.trans (hb.mono HB2.out.size));obtain ⟨s1,s3,s4,s8⟩:=HS.out;have x0:=HX3.out.c 0 rfl;have x1:=HX3.out.c 1 rfl;have x2:=HX3.out.c 2 rfl;have x3:=HX3.out.c 3 rfl;have x12:=HX3.out.c 12 rfl;have y0:=HY3.out.c 0 rfl;have y1:=HY3.out.c 1 rfl;have y2:=HY3.out.c 2 rfl;have y3:=HY3.out.c 3 rfl;have y12:=HY3.out.c 12 rfl
 have t1:(m.kind==q.kind)=true:=by simp [s1]
 have t2:(m.wait==q.wait)=true:=by simp [s3]
 have t3:(m.guarded==q.guarded)=true:=by simp [s4]
 clear hb HCB HX2 HY2 HB2 s1 s3 s4;cases pl
 ·clear s8 x12 y12;go_wp2_with fail;go_ret;exact ⟨rfl,HB3.out⟩
 ·have t4:(m.at_==q.at_)=true:=by simp [s8 rfl]
  clear s8;go_wp2_with fail;go_ret;exact ⟨rfl,HB3.out⟩
def msX (pl:Bool) (l l':List GM):Prop:=l.length=l'.length/\∀(i:Nat) (a b:GM),l[i]?=some a->l'[i]?=some b->mX pl a b
mutual
def nX (pl:Bool):GN->GN->Prop
 |.mk k n i d e l m ks p,.mk k' n' i' d' e' l' m' ks' p'=>k=k'/\n=n'/\i=i'/\d=d'/\asX pl e e'/\asX pl l l'/\msX pl m m'/\nsX pl ks ks'/\(pl=true->p=p')
def nsX (pl:Bool):List GN->List GN->Prop
 |[],[]=>True
 |x::l,y::l'=>nX pl x y/\nsX pl l l'
 |_,_=>False
end
theorem nsX_len {pl:Bool}:∀{l l':List GN},nsX pl l l'->l.length=l'.length
 |[],[],_=>rfl
 |[],_::_,h=>by unfold nsX at h;exact h.elim
 |_::_,[],h=>by unfold nsX at h;exact h.elim
 |_::l,_::l',h=>by unfold nsX at h;simp [nsX_len h.2]
theorem nsX_get {pl:Bool}:∀{l l':List GN},nsX pl l l'->∀(i:Nat) (a b:GN),l[i]?=some a->l'[i]?=some b->nX pl a b
 |[],[],_,_,_,_,ha,_=>by simp at ha
 |[],_::_,h,_,_,_,_,_=>by unfold nsX at h;exact h.elim
 |_::_,[],h,_,_,_,_,_=>by unfold nsX at h;exact h.elim
 |x::l,y::l',h,0,a,b,ha,hb=>by
  unfold nsX at h
  obtain rfl:x=a:=by simpa using ha
  obtain rfl:y=b:=by simpa using hb
  exact h.1
 |x::l,y::l',h,i+1,a,b,ha,hb=>by
  unfold nsX at h;exact nsX_get h.2 i a b (by simpa using ha) (by simpa using hb)
end Go.Proofs.YtifekcbinjdfbaaGreatDoor
