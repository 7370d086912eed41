import Derived.Test.YtpgeidpfhakgaaaGreatDoorQh
import Derived.Test.YtpgeidpfhakgaaaGreatDoorQEwE
import Derived.Test.YtpgeidpfhakgaaaGreatDoorQSeD
import Derived.Test.YtpgeidpfhakgaaaGreatDoorQXA
import Derived.Test.YtpgeidpfhakgaaaGreatDoorEA
import Derived.Test.YtpgeidpfhakgaaaGreatDoorQXF
import Derived.Laws.AppendOwn
import Derived.Laws.OwnMore
import Derived.Deep.RegionHeld3
import Derived.Deep.RegionLaw
set_option maxHeartbeats 12800000
set_option maxRecDepth 20000
namespace Go.Proofs.YtpgeidpfhakgaaaGreatDoor
open Go.RowKit
structure Wv (w:World):Prop where
 kw:KwAt w
 sg:SgAt w
 pw:PowTab w
theorem Wv.below {w w':World} (h:Wv w) (hb:Below w.heap.size w w'):Wv w':=⟨h.kw.below hb,h.sg.below hb,h.pw.below hb⟩
def WQ (B b:Nat) (l:List UInt8) (n d:Nat) (t:Ex->List UInt8) (w':World) (r:Bool) (y:Option Ex):Prop :=
 (r=false/\y=none)∨(r=true/\∃e,y=some e/\WB w' B b (l++t e) (n+e.size) d)
def WExp (u:World) (b:Nat) (x:GX):Prop:=∀(w:World) (v:EV) (l:List UInt8) (n d:Nat),GV u 0 u.heap.size x v->Below u.heap.size u w->WB w u.heap.size b l n d->d<=20->n<=16384->l.length<=16384 ->
 Calls Tryz.prog 174 #[.pointer (some ⟨b,0,none⟩),v.val] w λ e w'=>∃r:Bool,e=.returned (.bool r)/\WQ u.heap.size b l n d Ex.tx w' r (wrX x.ex n d l.length)/\Wk u.heap.size b w w'
def WOpd (u:World) (b:Nat) (x:GX):Prop:=∀(w:World) (v:EV) (least:Nat) (l:List UInt8) (n d:Nat),GV u 0 u.heap.size x v->Below u.heap.size u w->WB w u.heap.size b l n d->d<=20->n<=16384->l.length<=16384 ->
 Calls Tryz.prog 212 #[.pointer (some ⟨b,0,none⟩),v.val,.int .i64 (least:Int)] w λ e w'=>∃r:Bool,e=.returned (.bool r)/\WQ u.heap.size b l n d (λ e=>par (pb x least) e.tx) w' r (wrP (pb x least) x.ex n d l.length)/\Wk u.heap.size b w w'
structure WAt (u:World) (b g1:Nat) (v:EV) (w0 w:World) (l:List UInt8) (n d:Nat):Prop where
 bl:Below u.heap.size u w
 wb:WB w u.heap.size b l n d
 xp:XpB w g1 v
 wk:Wk u.heap.size b w0 w
section
variable {u w0 w w':World} {b g1:Nat} {v:EV} {l l':List UInt8} {n n' d d':Nat}
theorem WAt.go (h:WAt u b g1 v w0 w l n d) (hn:g1≠b) (hk:Wk u.heap.size b w w') (hw:WB w' u.heap.size b l' n' d'):WAt u b g1 v w0 w' l' n' d' :=
 ⟨h.bl.trans hk.below,hw,h.xp.wk hk hn,h.wk.trans hk⟩
theorem WAt.below (h:WAt u b g1 v w0 w l n d) (hn:g1≠b) (hb:Below w.heap.size w w'):WAt u b g1 v w0 w' l n d :=
 h.go hn (Wk.of h.bl.size hb) (h.wb.below hb)
theorem WAt.alloc (h:WAt u b g1 v w0 w l n d) (hn:g1≠b) (o:Obj):WAt u b g1 v w0 (w.alloc o) l n d :=
 h.below hn ((b_ _ w).alloc (n_ _) o)
theorem WAt.new (hb:Below u.heap.size u w) (hw:WB w u.heap.size b l n d):WAt u b w.heap.size v w (w.alloc (.cells #[.int .i64 v.kind,.int .i64 v.num,.string v.name,.int .i64 v.op,.slice v.A v.len v.cap,.int .i64 v.p] 40)) l n d :=
 ⟨hb.alloc hb.size _,hw.alloc _,XpB.new w v,Wk.alloc hb.size _⟩
end
theorem WQ.no {B b:Nat} {l:List UInt8} {n d:Nat} {t:Ex->List UInt8} {w':World} {y:Option Ex} (h:y=none):WQ B b l n d t w' false y:=.inl ⟨rfl,h⟩
theorem WQ.yes {B b:Nat} {l l':List UInt8} {n n' d:Nat} {t:Ex->List UInt8} {w':World} {y:Option Ex} (e:Ex) (h:y=some e) (hw:WB w' B b l' n' d) (hl:l'=l++t e) (hn:n'=n+e.size):WQ B b l n d t w' true y:=.inr ⟨rfl,e,h,by rw [<-hl,<-hn];exact hw⟩
theorem par_tt (s:List UInt8):par true s=40::(s++[41]):=rfl
theorem par_false (s:List UInt8):par false s=s:=rfl
theorem WQ.not {B b:Nat} {l:List UInt8} {n d:Nat} {w':World} {r:Bool} {x:Option Ex} {L:Nat} (h:WQ B b l n d Ex.tx w' r (wrX x n d L)):WQ B b l n d (λ e=>par false e.tx) w' r (wrP false x n d L):=by
 rw [wrP_not];rcases h with h|⟨h1,e,h2,h3⟩
 ·exact .inl h
 ·refine .inr ⟨h1,e,h2,?_⟩;show WB w' B b (l++par false e.tx) (n+e.size) d;rw [par_false];exact h3
theorem operand_any (u:World) (b:Nat) (x:GX) (h:WExp u b x):WOpd u b x:=by
 intro w v least l n d hg hbl hwb hd hn hl;have HE:=h_ (λ (W:World) (l:List UInt8) (n d:Nat) (bl:Below u.heap.size u W) (wb:WB W u.heap.size b l n d) (hd:d<=20) (hn:n<=16384) (hl:l.length<=16384)=>h W v l n d hg bl wb hd hn hl)
 obtain ⟨g1,hg1⟩:∃g1,g1=w.heap.size:=⟨_,rfl⟩
 obtain ⟨W0,hW0⟩:∃W0,W0=w.alloc (.cells #[.int .i64 v.kind,.int .i64 v.num,.string v.name,.int .i64 v.op,.slice v.A v.len v.cap,.int .i64 v.p] 40):=⟨_,rfl⟩
 have HA:Hid (WAt u b g1 v w W0 l n d):=by rw [hW0,hg1];exact WAt.new hbl hwb
 have hn1:g1≠b:=by have:=hwb.lt;omega
 have hkind:=hg.out.1;have hop:=hg.out.2.2.2.1;obtain ⟨k,num,S,op,A,len,cap,p⟩:=v;simp only at hkind hop
 obtain ⟨c,hc⟩:∃c,pb x least=c:=⟨_,rfl⟩
 have HPB:Hid (((k==5) && !decide (least<=bnd op))=c):=by
  show _=_;rw [<-hc,hkind,hop];rfl
 rw [hc]
 obtain ⟨y,hy⟩:∃y,x.ex=y:=⟨_,rfl⟩
 rw [hy] at HE ⊢;simp only [EV.val] at HE ⊢;have HN1:=h_ hn1;have HD:=h_ (And.intro hd (And.intro hn hl));have HBI:=h_ (binding_any op W0);have z0:=HA.out.xp.c0;have z1:=HA.out.xp.c1;have z2:=HA.out.xp.c2;have z3:=HA.out.xp.c3;have z4:=HA.out.xp.c4;have z5:=HA.out.xp.c5;simp only at z0 z1 z2 z3 z4 z5 hW0;clear h hg hbl hwb hd hn hl hkind hop hn1 hc hy
 by_cases h5:(k==5)=true
 ·obtain rfl:k=5:=eq_of_beq h5
  by_cases hle:least<=bnd op
  ·have hle':(least:Int)<=(bnd op:Nat):=by omega
   have HC:=h_ (HE.out W0 l n d HA.out.bl HA.out.wb HD.out.1 HD.out.2.1 HD.out.2.2)
   obtain rfl:c=false:=by rw [<-HPB.out,decide_eq_true hle];simp
   have HLE:=h_ hle'
   obtain ⟨q,hq⟩:∃q:Int,((bnd op:Nat):Int)=q:=⟨_,rfl⟩
   rw [hq] at hle' HBI;clear HPB hle hq HLE h5;go_enter Tryz.func212,Tryz.ntmps212;go_upto_region 1 with fail;rw [<-hW0,<-hg1];clear hW0 hg1;go_wp2_with fail;refine HBI.out.mono ?_;rintro e w1 ⟨rfl,rfl⟩;go_wp2_with fail;refine HC.out.mono ?_;rintro e w2 ⟨r,rfl,hq,hk⟩;go_wp2_with fail;go_ret;exact ⟨r,rfl,hq.not,HA.out.wk.trans hk⟩
  ·have hle':¬(least:Int)<=(bnd op:Nat):=by omega
   obtain rfl:c=true:=by rw [<-HPB.out,decide_eq_false hle,h5];rfl
   have HPR:=h_ (wr_par y n d l.length);have HEN:Hid _:=h_ (enter_any W0 u.heap.size b l n d ⟨#[40]⟩ HA.out.wb (by have:=HD.out.1;omega) (by decide) (by have:=HD.out.2.2;omega) HA.out.bl.size);have e40:(⟨#[40]⟩:ByteArray).data.toList=[40]:=rfl;rw [e40] at HEN
   obtain ⟨c1,hc1⟩:∃c1,decide (d+1<=20/\(l++([40]:List UInt8)).length<=16384)=c1:=⟨_,rfl⟩
   rw [hc1] at HEN;have HC1:=h_ hc1
   obtain ⟨q,hq⟩:∃q:Int,((bnd op:Nat):Int)=q:=⟨_,rfl⟩
   rw [hq] at hle' HBI;clear HPB hle hq hc1 e40 h5;go_enter Tryz.func212,Tryz.ntmps212;go_upto_region 1 with fail;rw [<-hW0,<-hg1];clear hW0 hg1;go_wp2_with fail;refine HBI.out.mono ?_;rintro e w1 ⟨rfl,rfl⟩;go_wp2_with fail;refine HEN.out.mono ?_;rintro e w2 ⟨rfl,hw,hk⟩;have HW:=h_ hw;have HK:=h_ hk;clear hw hk HEN z0 z1 z2 z3 z4 z5 HBI;cases c1
   ·go_wp2_with fail;go_ret;refine ⟨false,rfl,WQ.no (HPR.out.1 (λ h=>?_)),HA.out.wk.trans HK.out⟩;have:=of_decide_eq_false HC1.out;rw [List.length_append,List.length_singleton] at this;exact this h
   ·have HC2:=h_ (of_decide_eq_true HC1.out);rw [List.length_append,List.length_singleton] at HC2;have HA1:=h_ (HA.out.go HN1.out HK.out (HW.out HC2.out.1));have HC:=h_ (HE.out w2 (l++[40]) n (d+1) HA1.out.bl HA1.out.wb HC2.out.1 HD.out.2.1 (by rw [List.length_append,List.length_singleton];exact HC2.out.2));rw [List.length_append,List.length_singleton] at HC;have z0:=HA1.out.xp.c0;have z1:=HA1.out.xp.c1;have z2:=HA1.out.xp.c2;have z3:=HA1.out.xp.c3;have z4:=HA1.out.xp.c4;have z5:=HA1.out.xp.c5;simp only at z0 z1 z2 z3 z4 z5;clear HA HK HW;go_wp2_with fail;refine HC.out.mono ?_;rintro e w3 ⟨r,rfl,hq,hk⟩;have HQ:=h_ hq;have HK:=h_ hk;clear hq hk HC z0 z1 z2 z3 z4 z5;cases r
    ·have HNO:Hid (wrX y n (d+1) (l.length+1)=none):=by
      rcases HQ.out with ⟨_,h⟩|⟨h,_⟩
      ·exact h
      ·cases h
     go_wp2_with fail;go_ret;exact ⟨false,rfl,WQ.no (HPR.out.2.1 HNO.out),HA1.out.wk.trans HK.out⟩
    ·obtain ⟨e,he,hwb⟩:∃e,wrX y n (d+1) (l.length+1)=some e/\WB w3 u.heap.size b (l++([40]:List UInt8)++e.tx) (n+e.size) (d+1):=by
      rcases HQ.out with ⟨h,_⟩|⟨_,h⟩
      ·cases h
      ·exact h
     have HS:=h_ (wrX_some he);have HEE:=h_ he;have HA2:=h_ (HA1.out.go HN1.out HK.out hwb);have HL:Hid _:=h_ (leave_any w3 u.heap.size b _ _ d ⟨#[41]⟩ HA2.out.wb (by have:=HD.out.1;omega) (by decide) (by have:=HS.out.2.2.1;simp only [List.length_append,List.length_singleton];omega) HA2.out.bl.size);have e41:(⟨#[41]⟩:ByteArray).data.toList=[41]:=rfl;rw [e41] at HL
     obtain ⟨c2,hc2⟩:∃c2,decide (List.length (l++[40]++e.tx++[41])<=16384)=c2:=⟨_,rfl⟩
     rw [hc2] at HL;have HC2:=h_ hc2;clear he hwb HQ HK HA1 e41 hc2;go_wp2_with fail;refine HL.out.mono ?_;rintro _ w4 ⟨rfl,hw,hk⟩;have HW:=h_ hw;have HK:=h_ hk;clear hw hk HL;go_wp2_with fail;go_ret;refine ⟨c2,rfl,?_,HA2.out.wk.trans HK.out⟩;have h1:=HPR.out.2.2 e HEE.out;have h2:=HC2.out
     have h3:(l++[40]++e.tx++[41]).length=l.length+1+e.tx.length+1:=by simp only [List.length_append,List.length_singleton]
     rw [h3] at h2;cases c2
     ·exact WQ.no (h1.trans (if_neg (of_decide_eq_false h2)))
     ·exact WQ.yes e (h1.trans (if_pos (of_decide_eq_true h2))) HW.out (by rw [par_tt];simp only [a_,List.cons_append,List.nil_append]) rfl
 ·have h5':(k==5)=false:=by simpa using h5
  have h6:(k != 5)=true:=by simpa using h5
  have HC:=h_ (HE.out W0 l n d HA.out.bl HA.out.wb HD.out.1 HD.out.2.1 HD.out.2.2)
  obtain rfl:c=false:=by rw [<-HPB.out,h5'];rfl
  clear HPB h5 HBI;go_enter Tryz.func212,Tryz.ntmps212;go_upto_region 1 with fail;rw [<-hW0,<-hg1];clear hW0 hg1;go_wp2_with fail;refine HC.out.mono ?_;rintro e w2 ⟨r,rfl,hq,hk⟩;go_wp2_with fail;go_ret;exact ⟨r,rfl,hq.not,HA.out.wk.trans hk⟩
theorem nodeOk_true {k n:Int} {s:List UInt8} {o:Int} {m:Nat} (h:nodeOk k n s o m=true) :
  (k=1/\0<=n/\s=[]/\o=0/\m=0)∨(k=2/\n=0/\isNm s=true/\o=0/\m=0)∨(k=3/\n=0/\isNm s=true/\o=0/\m=0) ∨
  (k=4/\n=0/\s=[]/\(o=14∨o=15)/\m=1)∨(k=5/\n=0/\s=[]/\rowOf o<6/\m=2):=by
 unfold nodeOk at h
 by_cases h1:k=1
 ·rw [if_pos h1] at h;simp only [Bool.and_eq_true,decide_eq_true_eq] at h;exact .inl ⟨h1,h.1.2,h.2,h.1.1.1,h.1.1.2⟩
 ·rw [if_neg h1] at h
  by_cases h2:k=2∨k=3
  ·rw [if_pos h2] at h;simp only [Bool.and_eq_true,decide_eq_true_eq] at h;rcases h2 with h2|h2
   ·exact .inr (.inl ⟨h2,h.1.2,h.2,h.1.1.1,h.1.1.2⟩)
   ·exact .inr (.inr (.inl ⟨h2,h.1.2,h.2,h.1.1.1,h.1.1.2⟩))
  ·rw [if_neg h2] at h
   by_cases h4:k=4
   ·rw [if_pos h4] at h;simp only [Bool.and_eq_true,Bool.or_eq_true,decide_eq_true_eq] at h;exact .inr (.inr (.inr (.inl ⟨h4,h.1.1.1,h.1.1.2,h.1.2,h.2⟩)))
   ·rw [if_neg h4] at h
    split at h
    ·rename_i h5;simp only [Bool.and_eq_true,decide_eq_true_eq] at h;exact .inr (.inr (.inr (.inr ⟨h5,h.1.1.1,h.1.1.2,h.1.2,h.2⟩)))
    ·cases h
theorem sign_one {op:Int} (h:op=14∨op=15):∃j:Nat,op=(j:Int)/\j<16/\sgs[j]?=some [if op=14 then 45 else 33]:=by
 rcases h with rfl|rfl
 ·exact ⟨14,rfl,by omega,rfl⟩
 ·exact ⟨15,rfl,by omega,rfl⟩
theorem sign_both {op:Int} (h:rowOf op<6):∃j:Nat,op=(j:Int)/\j<16/\sgs[j]?=some (sgOf op):=by
 rcases row_cases h with rfl|rfl|rfl|rfl|rfl|rfl|rfl|rfl|rfl|rfl|rfl|rfl|rfl
 ·exact ⟨1,rfl,by omega,rfl⟩
 ·exact ⟨2,rfl,by omega,rfl⟩
 ·exact ⟨3,rfl,by omega,rfl⟩
 ·exact ⟨4,rfl,by omega,rfl⟩
 ·exact ⟨5,rfl,by omega,rfl⟩
 ·exact ⟨6,rfl,by omega,rfl⟩
 ·exact ⟨7,rfl,by omega,rfl⟩
 ·exact ⟨8,rfl,by omega,rfl⟩
 ·exact ⟨9,rfl,by omega,rfl⟩
 ·exact ⟨10,rfl,by omega,rfl⟩
 ·exact ⟨11,rfl,by omega,rfl⟩
 ·exact ⟨12,rfl,by omega,rfl⟩
 ·exact ⟨13,rfl,by omega,rfl⟩
theorem WQ.leaf {B b:Nat} {l:List UInt8} {n d:Nat} {w':World} {y:Option Ex} {e0:Ex} {c:Bool} (hx:y=some e0) (h0:e0.nst=0) (h1:e0.size=1) (hc:decide (List.length (l++e0.tx)<=16384)=c)
  (hd:d<=20) (hn:n+1<=16384) (hw:WB w' B b (l++e0.tx) (n+1) d):WQ B b l n d Ex.tx w' c (wrX y n d l.length):=by
 rw [hx];rw [List.length_append] at hc;cases c
 ·have h:=of_decide_eq_false hc;exact WQ.no (wrX_not (by omega))
 ·have h:=of_decide_eq_true hc;exact WQ.yes e0 (wrX_of (by omega)) hw rfl (by rw [h1])
theorem exs_zero {l:List GX} (h:l.length=0):GX.exs l=[]:=by rw [List.eq_nil_of_length_eq_zero h,exs_nil]
theorem node_var {s:List UInt8} (h:isNm s=true):node 2 0 s 0 []=some (.var s 0):=by
 unfold node;rw [if_neg (λ h=>absurd h.1 (by decide)),if_pos ⟨rfl,rfl,h,rfl,rfl⟩]
theorem node_inn {s:List UInt8} (h:isNm s=true):node 3 0 s 0 []=some (.inn s 0):=by
 unfold node;rw [if_neg (λ h=>absurd h.1 (by decide)),if_neg (λ h=>absurd h.1 (by decide)),if_pos ⟨rfl,rfl,h,rfl,rfl⟩]
theorem itoa_short (n:Int) (h0:-9223372036854775808<=n) (h1:n<=9223372036854775807):(Lib.itoa n).length<=20:=by
 unfold Lib.itoa
 split
 ·have:=dec_len (u:=n.natAbs) 18 (by omega);rw [List.length_cons];omega
 ·have:=dec_len (u:=n.toNat) 18 (by omega);omega
theorem nm_small {S:ByteArray} (h:isNm S.data.toList=true):S.size<=24:=by
 obtain ⟨c,r,_,_,_,h2,_⟩:=isNm_parts h;have h3:S.data.toList.length=S.size:=rfl;omega
theorem len_two {α:Type} {l:List α} (h:l.length=2):∃x y,l=[x,y]:=by
 match l,h with
 |[x,y],_=>exact ⟨x,y,rfl⟩
theorem expr_step (u:World) (b:Nat) (hV:Wv u) (x:GX) (hr:x.rng) (ih:∀(i:Nat) (y:GX),x.subs[i]?=some y->WOpd u b y):WExp u b x:=by
 intro w v l n d hg hbl hwb hd hn hl;obtain ⟨kk,nn,ss,oo,subs,pp⟩:=x;obtain ⟨e0,e1,e2,e3,e4,e5,e6,e7,hrow⟩:=hg.out;simp only [GX.kind,GX.num,GX.name,GX.op,GX.p,GX.subs] at e0 e1 e2 e3 e4 e5 hrow ih;rw [GX.rng] at hr;obtain ⟨hr1,hr2,hr3,hr4⟩:=hr;rw [ex_mk];subst e0 e1 e2 e3
 obtain ⟨g1,hg1⟩:∃g1,g1=w.heap.size:=⟨_,rfl⟩
 obtain ⟨W0,hW0⟩:∃W0,W0=w.alloc (.cells #[.int .i64 v.kind,.int .i64 v.num,.string v.name,.int .i64 v.op,.slice v.A v.len v.cap,.int .i64 v.p] 40):=⟨_,rfl⟩
 have HA:Hid (WAt u b g1 v w W0 l n d):=by rw [hW0,hg1];exact WAt.new hbl hwb
 have hn1:g1≠b:=by have:=hwb.lt;omega
 have hgl:b<g1:=by have:=hwb.lt;omega
 have HV:=h_ (λ (W:World) (hb:Below u.heap.size u W)=>hV.below hb);have HFO:=h_ (λ (W:World) (hK:KwAt W)=>formed_any W v hr3 hK);have HIH:=h_ ih;have HROW:=h_ hrow;have HSUB:=h_ e5;have HRG:=h_ hr1;have HN1:=h_ hn1;have HGL:=h_ hgl;have HD:=h_ (And.intro hd (And.intro hn hl))
 obtain ⟨Y,hY⟩:∃Y,node v.kind v.num v.name.data.toList v.op (GX.exs subs)=Y:=⟨_,rfl⟩
 rw [hY];have HY:=h_ hY
 have HFULL:Hid (¬n+1<=16384->wrX Y n d l.length=none):=λ h=>by
  have:=wrX_full (x:=GX.mk v.kind v.num v.name.data.toList v.op subs 0) (d:=d) (L:=l.length) h;rw [ex_mk,hY] at this;exact this
 obtain ⟨k,num,S,op,A,len,cap,p⟩:=v;simp only [EV.val] at HFO ⊢;simp only at HY HSUB HRG HROW hW0;have HCN:=h_ (count_any W0 u.heap.size b l n d HA.out.wb (by omega))
 obtain ⟨c1,hc1⟩:∃c1,decide (n+1<=16384)=c1:=⟨_,rfl⟩
 rw [hc1] at HCN;have HC1:=h_ hc1
 obtain ⟨c2,hc2⟩:∃c2,nodeOk k num S.data.toList op len=c2:=⟨_,rfl⟩
 rw [hc2] at HFO;have HC2:=h_ hc2;clear hg hbl hwb hd hn hl hV ih hrow e4 e5 e6 e7 hr1 hr2 hr3 hr4 hn1 hgl hY hc1 hc2;go_enter Tryz.func174,Tryz.ntmps174;go_upto_region 1 with fail;rw [<-hW0,<-hg1];clear hW0 hg1;go_wp2_with fail;refine HCN.out.mono ?_;rintro e w1 ⟨rfl,hw,hk⟩;have HA1:=h_ (HA.out.go HN1.out hk hw);clear hw hk HCN HA;cases c1
 ·go_wp2_with fail;go_ret;exact ⟨false,rfl,WQ.no (HFULL.out (of_decide_eq_false HC1.out)),HA1.out.wk⟩
 have z0:=HA1.out.xp.c0;have z1:=HA1.out.xp.c1;have z2:=HA1.out.xp.c2;have z3:=HA1.out.xp.c3;have z4:=HA1.out.xp.c4;have z5:=HA1.out.xp.c5;simp only at z0 z1 z2 z3 z4 z5;have HF:=h_ (HFO.out w1 (HV.out w1 HA1.out.bl).kw);clear HFO HFULL;go_wp2_with fail;refine HF.out.mono ?_;rintro e w2 ⟨rfl,hb⟩;have HA2:=h_ (HA1.out.below HN1.out hb);clear hb HF HA1 z0 z1 z2 z3 z4 z5;cases c2
 ·have HNO:Hid (Y=none):=by
   show _=_;rw [<-HY.out];exact node_bad (by rw [exs_len,<-HSUB.out];exact HC2.out)
  go_wp2_with fail;go_ret;exact ⟨false,rfl,WQ.no (by rw [HNO.out];rfl),HA2.out.wk⟩
 have z0:=HA2.out.xp.c0;have z1:=HA2.out.xp.c1;have z2:=HA2.out.xp.c2;have z3:=HA2.out.xp.c3;have z4:=HA2.out.xp.c4;have z5:=HA2.out.xp.c5;simp only at z0 z1 z2 z3 z4 z5;rcases nodeOk_true HC2.out with ⟨rfl,h1,h2,rfl,rfl⟩|⟨rfl,rfl,h2,rfl,rfl⟩|⟨rfl,rfl,h2,rfl,rfl⟩|⟨rfl,rfl,h2,h3,rfl⟩|⟨rfl,rfl,h2,h3,rfl⟩
 ·have HT:=h_ (text_any num w2 HRG.out.1 HRG.out.2 (HV.out w2 HA2.out.bl).pw)
  obtain ⟨T,hT⟩:∃T:ByteArray,(⟨(Lib.itoa num).toArray⟩:ByteArray)=T:=⟨_,rfl⟩
  rw [hT] at HT;have HTT:=h_ hT;have H12:=h_ (And.intro h1 h2);clear h1 h2 hT;go_wp2_with fail;refine HT.out.mono ?_;rintro e w3 ⟨rfl,hb⟩;have HA3:=h_ (HA2.out.below HN1.out hb);clear hb HT HA2
  obtain ⟨g2,hg2⟩:∃g2,g2=w3.heap.size:=⟨_,rfl⟩
  obtain ⟨W4,hW4⟩:∃W4,W4=w3.alloc (.cells #[.string T] 9):=⟨_,rfl⟩
  have HA4:Hid (WAt u b g1 ⟨1,num,S,0,A,0,cap,p⟩ w W4 l (n+1) d):=by rw [hW4];exact HA3.out.alloc HN1.out _
  have HC:=h_ (put_any W4 u.heap.size b g2 1 l (n+1) d [T] HA4.out.wb (by rw [hW4,hg2];exact StR.one w3 T) rfl (by have:=HA3.out.wb.lt;omega)
   (λ t ht=>by rw [List.mem_singleton.1 ht,<-HTT.out];show (Lib.itoa num).toArray.size<=_;rw [List.size_toArray];have:=itoa_short num HRG.out.1 HRG.out.2;omega) (by omega) (by have:=HD.out.2.2;omega) HA4.out.bl.size)
  rw [flat_cons,flat_nil,List.append_nil] at HC
  obtain ⟨c3,hc3⟩:∃c3,decide (List.length (l++T.data.toList)<=16384)=c3:=⟨_,rfl⟩
  rw [hc3] at HC;have HC3:=h_ hc3;clear hc3;go_wp2_with fail;rw [<-hW4,<-hg2];clear hW4 hg2;refine HC.out.mono ?_;rintro e w5 ⟨rfl,hw,hk⟩;have HW:=h_ hw;have HK:=h_ hk;clear hw hk HC;go_wp2_with fail;go_ret;refine ⟨c3,rfl,?_,HA4.out.wk.trans HK.out⟩
  have hYY:Y=some (.int num 0):=by
   rw [<-HY.out,H12.out.2,exs_zero (HSUB.out.symm)];exact if_pos ⟨rfl,H12.out.1,HRG.out.2,rfl,rfl,rfl⟩
  have eT:T.data.toList=(Ex.int num 0).tx:=by rw [<-HTT.out];rfl
  have h3:=HC3.out;have h4:=HW.out;rw [eT] at h3 h4;exact WQ.leaf hYY rfl rfl h3 HD.out.1 (of_decide_eq_true HC1.out) h4
 ·have H2:=h_ h2;clear h2
  obtain ⟨g2,hg2⟩:∃g2,g2=w2.heap.size:=⟨_,rfl⟩
  obtain ⟨W4,hW4⟩:∃W4,W4=w2.alloc (.cells #[.string S] 9):=⟨_,rfl⟩
  have HA4:Hid (WAt u b g1 ⟨2,0,S,0,A,0,cap,p⟩ w W4 l (n+1) d):=by rw [hW4];exact HA2.out.alloc HN1.out _
  have HC:=h_ (put_any W4 u.heap.size b g2 1 l (n+1) d [S] HA4.out.wb (by rw [hW4,hg2];exact StR.one w2 S) rfl (by have:=HA2.out.wb.lt;omega)
   (λ t ht=>by
    have:=nm_small H2.out;simp only [List.mem_cons,List.not_mem_nil,or_false] at ht
    subst ht;omega) (by omega) (by have:=HD.out.2.2;omega) HA4.out.bl.size)
  have hfl:flat [S]=(Ex.var S.data.toList 0).tx:=by rw [flat_cons,flat_nil,List.append_nil];rfl
  rw [hfl] at HC
  obtain ⟨c3,hc3⟩:∃c3,decide (List.length (l++(Ex.var S.data.toList 0).tx)<=16384)=c3:=⟨_,rfl⟩
  rw [hc3] at HC;have HC3:=h_ hc3;clear hc3 hfl;go_wp2_with fail;rw [<-hW4,<-hg2];clear hW4 hg2;refine HC.out.mono ?_;rintro e w5 ⟨rfl,hw,hk⟩;have HW:=h_ hw;have HK:=h_ hk;clear hw hk HC;go_wp2_with fail;go_ret;refine ⟨c3,rfl,?_,HA4.out.wk.trans HK.out⟩
  have hYY:Y=some (.var S.data.toList 0):=by
   rw [<-HY.out,exs_zero (HSUB.out.symm)];exact node_var H2.out
  exact WQ.leaf hYY rfl rfl HC3.out HD.out.1 (of_decide_eq_true HC1.out) HW.out
 ·have H2:=h_ h2;clear h2
  obtain ⟨g2,hg2⟩:∃g2,g2=w2.heap.size:=⟨_,rfl⟩
  obtain ⟨W4,hW4⟩:∃W4,W4=w2.alloc (.cells #[.string ⟨#[105,110,40]⟩,.string S,.string ⟨#[41]⟩] 9):=⟨_,rfl⟩
  have HA4:Hid (WAt u b g1 ⟨3,0,S,0,A,0,cap,p⟩ w W4 l (n+1) d):=by rw [hW4];exact HA2.out.alloc HN1.out _
  have HC:=h_ (put_any W4 u.heap.size b g2 3 l (n+1) d [⟨#[105,110,40]⟩,S,⟨#[41]⟩] HA4.out.wb (by rw [hW4,hg2];exact StR.three w2 _ _ _) rfl (by have:=HA2.out.wb.lt;omega)
   (λ t ht=>by
    have:=nm_small H2.out;simp only [List.mem_cons,List.not_mem_nil,or_false] at ht;rcases ht with rfl|rfl|rfl
    ·decide
    ·omega
    ·decide) (by omega) (by have:=HD.out.2.2;omega) HA4.out.bl.size)
  have hfl:flat [⟨#[105,110,40]⟩,S,⟨#[41]⟩]=(Ex.inn S.data.toList 0).tx:=by rw [flat_cons,flat_cons,flat_cons,flat_nil,List.append_nil];rfl
  rw [hfl] at HC
  obtain ⟨c3,hc3⟩:∃c3,decide (List.length (l++(Ex.inn S.data.toList 0).tx)<=16384)=c3:=⟨_,rfl⟩
  rw [hc3] at HC;have HC3:=h_ hc3;clear hc3 hfl;go_wp2_with fail;rw [<-hW4,<-hg2];clear hW4 hg2;refine HC.out.mono ?_;rintro e w5 ⟨rfl,hw,hk⟩;have HW:=h_ hw;have HK:=h_ hk;clear hw hk HC;go_wp2_with fail;go_ret;refine ⟨c3,rfl,?_,HA4.out.wk.trans HK.out⟩
  have hYY:Y=some (.inn S.data.toList 0):=by
   rw [<-HY.out,exs_zero (HSUB.out.symm)];exact node_inn H2.out
  exact WQ.leaf hYY rfl rfl HC3.out HD.out.1 (of_decide_eq_true HC1.out) HW.out
 ·obtain ⟨z,rfl⟩:=List.length_eq_one_iff.1 HSUB.out.symm;obtain ⟨go,o,v',rfl,_,hgo,hev,hgz⟩:=HROW.out.get 0 z rfl
  have eo:o+(0+0)*6=o:=by omega
  rw [eo] at hev;have HEV:=h_ (λ (W:World) (hb:Below u.heap.size u W)=>hev.same (hb.block go hgo));have HOP:=h_ (λ (W:World) (l:List UInt8) (n d:Nat) (bl:Below u.heap.size u W) (wb:WB W u.heap.size b l n d) (hd:d<=20) (hn:n<=16384) (hl:l.length<=16384)=>HIH.out 0 z rfl W v' 7 l n d hgz bl wb hd hn hl);obtain ⟨j,rfl,hj,hsg⟩:=sign_one h3;have HON:=h_ (wr_one z (j:Int) h3 n d l.length)
  have hYY:node 4 0 [] (j:Int) [z.ex]=Y:=by
   have h:=HY.out;rw [h2,exs_one] at h;exact h
  rw [hYY] at HON;have HTX:=h_ (λ e=>one_tx (j:Int) e);have HPO:=h_ (λ (e:Ex) (h:z.ex=some e)=>pb_one h)
  obtain ⟨cs,hcs⟩:∃cs:UInt8,(if (j:Int)=14 then 45 else 33)=cs:=⟨_,rfl⟩
  rw [hcs] at hsg HTX;have sgc:=(HV.out w2 HA2.out.bl).sg.cell hsg
  obtain ⟨SG,hSG⟩:∃SG:ByteArray,(⟨[cs].toArray⟩:ByteArray)=SG:=⟨_,rfl⟩
  rw [hSG] at sgc
  have hSL:SG.data.toList=[cs]:=by rw [<-hSG]
  have hSZ:SG.size=1:=by rw [<-hSG];rfl
  have hj':(j:Int)<16:=by omega
  obtain ⟨P,hP⟩:∃P,pb z 7=P:=⟨_,rfl⟩
  rw [hP] at HOP HON HPO
  obtain ⟨q7,hq7⟩:∃q:Int,((7:Nat):Int)=q:=⟨_,rfl⟩
  rw [hq7] at HOP;obtain rfl:q7=7:=hq7.symm;obtain ⟨k',num',S',op',A',len',cap',p'⟩:=v';simp only [EV.val] at HOP;have HEN:=h_ (enter_any w2 u.heap.size b l (n+1) d SG HA2.out.wb (by have:=HD.out.1;omega) (by omega) (by have:=HD.out.2.2;omega) HA2.out.bl.size);rw [hSL] at HEN
  obtain ⟨c3,hc3⟩:∃c3,decide (d+1<=20/\List.length (l++[cs])<=16384)=c3:=⟨_,rfl⟩
  rw [hc3] at HEN;have HC3:=h_ hc3;clear hc3 hq7 hP hcs hSG hSL hSZ hsg hYY h2 h3 hev hgz eo hgo hj;go_wp2_with fail;refine HEN.out.mono ?_;rintro e w3 ⟨rfl,hw,hk⟩;have HW:=h_ hw;have HK:=h_ hk;clear hw hk HEN z0 z1 z2 z3 z4 z5 sgc;cases c3
  ·go_wp2_with fail;go_ret;refine ⟨false,rfl,WQ.no (HON.out.1 (λ h=>?_)),HA2.out.wk.trans HK.out⟩;have:=of_decide_eq_false HC3.out;rw [List.length_append,List.length_singleton] at this;exact this h
  have HD3:=h_ (of_decide_eq_true HC3.out);have HA3:=h_ (HA2.out.go HN1.out HK.out (HW.out HD3.out.1));have HO:=h_ (HOP.out w3 (l++[cs]) (n+1) (d+1) HA3.out.bl HA3.out.wb HD3.out.1 (of_decide_eq_true HC1.out) HD3.out.2)
  have e5:(l++[cs]).length=l.length+1:=by rw [List.length_append,List.length_singleton]
  rw [e5] at HO;have z4:=HA3.out.xp.c4;simp only at z4;obtain ⟨y0,y1,y2,y3,y4,y5⟩:=HEV.out w3 HA3.out.bl;simp only at y0 y1 y2 y3 y4 y5;clear HA2 HK HW HOP e5;go_wp2_with fail;refine HO.out.mono ?_;rintro e w4 ⟨r,rfl,hq,hk⟩;have HQ:=h_ hq;have HK:=h_ hk;clear hq hk HO z4 y0 y1 y2 y3 y4 y5;cases r
  ·have HNO:Hid (wrP P z.ex (n+1) (d+1) (l.length+1)=none):=by
    rcases HQ.out with ⟨_,h⟩|⟨h,_⟩
    ·exact h
    ·cases h
   go_wp2_with fail;go_ret;exact ⟨false,rfl,WQ.no (HON.out.2.1 HNO.out),HA3.out.wk.trans HK.out⟩
  ·obtain ⟨e,he,hwb⟩:∃e,wrP P z.ex (n+1) (d+1) (l.length+1)=some e/\WB w4 u.heap.size b (l++[cs]++par P e.tx) (n+1+e.size) (d+1):=by
    rcases HQ.out with ⟨h,_⟩|⟨_,h⟩
    ·cases h
    ·exact h
   have HS:=h_ (wrP_some he);have HEE:=h_ he;have HA4:=h_ (HA3.out.go HN1.out HK.out hwb);have HL:=h_ (leave_any w4 u.heap.size b _ _ d ⟨#[]⟩ HA4.out.wb (by have:=HD.out.1;omega) (by decide) (by have:=HS.out.2.2.1;simp only [List.length_append,List.length_singleton];omega) HA4.out.bl.size);have e41:(⟨#[]⟩:ByteArray).data.toList=[]:=rfl;rw [e41,List.append_nil] at HL
   have hdec:decide (List.length (l++[cs]++par P e.tx)<=16384)=true:=decide_eq_true (by
    have:=HS.out.2.2.1;simp only [List.length_append,List.length_singleton]
    omega)
   rw [hdec] at HL;clear he hwb HQ HK HA3 e41 hdec;go_wp2_with fail;refine HL.out.mono ?_;rintro _ w5 ⟨rfl,hw,hk⟩;have HW:=h_ hw;have HK:=h_ hk;clear hw hk HL;go_wp2_with fail;go_ret;refine ⟨true,rfl,?_,HA4.out.wk.trans HK.out⟩;refine WQ.yes _ (HON.out.2.2 e HEE.out) HW.out ?_ ?_
   ·rw [HTX.out,HPO.out e HS.out.1,a_];rfl
   ·rw [one_size];omega
 ·obtain ⟨z,zz,rfl⟩:=len_two HSUB.out.symm;obtain ⟨go,o,v',rfl,_,hgo,hev,hgz⟩:=HROW.out.get 0 z rfl;obtain ⟨go',o',v2,hA',_,_,hev',hgz'⟩:=HROW.out.get 1 zz rfl
  obtain ⟨rfl,rfl⟩:go'=go/\o'=o:=by
   injection hA' with hA';injection hA' with h1 h2;exact ⟨h1.symm,h2.symm⟩
  have eo:o' + (0+0)*6=o':=by omega
  have eo':o' + (0+1)*6=o' + 6:=by omega
  rw [eo] at hev;rw [eo'] at hev';have HEV:=h_ (λ (W:World) (hb:Below u.heap.size u W)=>hev.same (hb.block go' hgo));have HEV':=h_ (λ (W:World) (hb:Below u.heap.size u W)=>hev'.same (hb.block go' hgo));have hbnd:bnd op=rowOf op+1:=if_pos h3;have HOP:=h_ (λ (W:World) (l:List UInt8) (n d:Nat) (bl:Below u.heap.size u W) (wb:WB W u.heap.size b l n d) (hd:d<=20) (hn:n<=16384) (hl:l.length<=16384)=>HIH.out 0 z rfl W v' (bnd op) l n d hgz bl wb hd hn hl);have HOQ:=h_ (λ (W:World) (l:List UInt8) (n d:Nat) (bl:Below u.heap.size u W) (wb:WB W u.heap.size b l n d) (hd:d<=20) (hn:n<=16384) (hl:l.length<=16384)=>HIH.out 1 zz rfl W v2 (bnd op+1) l n d hgz' bl wb hd hn hl);have HON:=h_ (wr_both z zz op h3 n d l.length)
  have hYY:node 5 0 [] op [z.ex,zz.ex]=Y:=by
   have h:=HY.out;rw [h2,exs_two] at h;exact h
  rw [hYY] at HON;rw [show rowOf op+2=bnd op+1 by rw [hbnd],<-hbnd] at HON;have HSL:=h_ (sg_len h3);have HBI:=h_ (binding_any op w2);obtain ⟨j,rfl,hj,hsg⟩:=sign_both h3;have HBS:=h_ (λ (x y:Ex)=>both_size (j:Int) x y)
  obtain ⟨SG,hSG⟩:∃SG:ByteArray,(⟨(sgOf (j:Int)).toArray⟩:ByteArray)=SG:=⟨_,rfl⟩
  have hSL:SG.data.toList=sgOf (j:Int):=by rw [<-hSG]
  have HSGC:=h_ (λ (W:World) (hb:Below u.heap.size u W)=>(HV.out W hb).sg.cell hsg);rw [hSG] at HSGC
  obtain ⟨sl,hsl⟩:∃sl,sgOf (j:Int)=sl:=⟨_,rfl⟩
  rw [hsl] at hSL HON HSL;have HSG:=h_ hSL
  have hj':(j:Int)<16:=by omega
  have hbl:bnd (j:Int)<=6:=by rw [hbnd];omega
  obtain ⟨q,hq⟩:∃q,bnd (j:Int)=q:=⟨_,rfl⟩
  rw [hq] at HOP HOQ HON HBI hbl
  have hbl':(q:Int)<=6:=by omega
  have eq1:((q+1:Nat):Int)=(q:Int)+1:=by omega
  rw [eq1] at HOQ
  obtain ⟨P,hP⟩:∃P,pb z q=P:=⟨_,rfl⟩
  obtain ⟨P',hP'⟩:∃P,pb zz (q+1)=P:=⟨_,rfl⟩
  rw [hP] at HOP HON;rw [hP'] at HOQ HON;obtain ⟨k',num',S',op',A',len',cap',p'⟩:=v';obtain ⟨k2,num2,S2,op2,A2,len2,cap2,p2⟩:=v2;simp only [EV.val] at HOP HOQ;have HO:=h_ (HOP.out w2 l (n+1) d HA2.out.bl HA2.out.wb HD.out.1 (of_decide_eq_true HC1.out) HD.out.2.2);obtain ⟨y0,y1,y2,y3,y4,y5⟩:=HEV.out w2 HA2.out.bl;simp only at y0 y1 y2 y3 y4 y5;clear hP hP' hq eq1 hSL hSG hsl hsg hYY h2 h3 hev hev' hgz hgz' eo eo' hgo hj hA' hbnd hbl HOP;go_wp2_with fail;refine HBI.out.mono ?_;rintro e w3 ⟨rfl,rfl⟩;go_wp2_with fail;refine HO.out.mono ?_;rintro e w4 ⟨r,rfl,hq,hk⟩;have HQ:=h_ hq;have HK:=h_ hk;clear hq hk HO HBI z0 z1 z2 z3 z4 z5 y0 y1 y2 y3 y4 y5;cases r
  ·have HNO:Hid (wrP P z.ex (n+1) d l.length=none):=by
    rcases HQ.out with ⟨_,h⟩|⟨h,_⟩
    ·exact h
    ·cases h
   go_wp2_with fail;go_ret;exact ⟨false,rfl,WQ.no (HON.out.1 HNO.out),HA2.out.wk.trans HK.out⟩
  obtain ⟨e,he,hwb⟩:∃e,wrP P z.ex (n+1) d l.length=some e/\WB w4 u.heap.size b (l++par P e.tx) (n+1+e.size) d:=by
   rcases HQ.out with ⟨h,_⟩|⟨_,h⟩
   ·cases h
   ·exact h
  have HS:=h_ (wrP_some he);have HON2:=h_ (HON.out.2 e he);have HA4:=h_ (HA2.out.go HN1.out HK.out hwb)
  obtain ⟨g2,hg2⟩:∃g2,g2=w4.heap.size:=⟨_,rfl⟩
  obtain ⟨W5,hW5⟩:∃W5,W5=w4.alloc (.cells #[.string ⟨#[32]⟩,.string SG,.string ⟨#[32]⟩] 9):=⟨_,rfl⟩
  have HA5:Hid (WAt u b g1 ⟨5,0,S,(j:Int),some ⟨go',o',none⟩,2,cap,p⟩ w W5 (l++par P e.tx) (n+1+e.size) d):=by rw [hW5];exact HA4.out.alloc HN1.out _
  have HC:=h_ (put_any W5 u.heap.size b g2 3 (l++par P e.tx) (n+1+e.size) d [⟨#[32]⟩,SG,⟨#[32]⟩] HA5.out.wb (by rw [hW5,hg2];exact StR.three w4 _ _ _) rfl (by have:=HA4.out.wb.lt;omega)
   (λ t ht=>by
    have h1:SG.data.toList.length=SG.size:=rfl;rw [HSG.out] at h1;have:=HSL.out;simp only [List.mem_cons,List.not_mem_nil,or_false] at ht;rcases ht with rfl|rfl|rfl
    ·decide
    ·omega
    ·decide) (by omega) (by have:=HS.out.2.2.1;rw [List.length_append];omega) HA5.out.bl.size)
  have hfl:flat [⟨#[32]⟩,SG,⟨#[32]⟩]=32::(sl++[32]):=by rw [flat_cons,flat_cons,flat_cons,flat_nil,List.append_nil,HSG.out];rfl
  rw [hfl] at HC
  obtain ⟨c3,hc3⟩:∃c3,decide (List.length (l++par P e.tx++(32::(sl++[32])))<=16384)=c3:=⟨_,rfl⟩
  rw [hc3] at HC
  have HC3:Hid (decide (l.length+(par P e.tx).length+(sl.length+2)<=16384)=c3):=by
   show _=_;rw [<-hc3]
   congr 1
   simp only [List.length_append,List.length_cons,List.length_nil]
   all_goals
    apply propext
    constructor <;> intro h <;> omega
  have z3:=HA4.out.xp.c3;simp only at z3;have sgc:=HSGC.out w4 HA4.out.bl;clear he hwb HQ HK HA2 HA4 hfl hc3;go_wp2_with fail;rw [<-hW5,<-hg2];clear hW5 hg2;refine HC.out.mono ?_;rintro _ w6 ⟨rfl,hw,hk⟩;have HA6:=h_ (HA5.out.go HN1.out hk hw);clear hw hk HC HA5 z3 sgc;cases c3
  ·go_wp2_with fail;go_ret;exact ⟨false,rfl,WQ.no (HON2.out.1 (of_decide_eq_false HC3.out)),HA6.out.wk⟩
  have HO:=h_ (HOQ.out w6 (l++par P e.tx++(32::(sl++[32]))) (n+1+e.size) d HA6.out.bl HA6.out.wb HD.out.1 HS.out.2.2.2 (by
   have:=of_decide_eq_true HC3.out;simp only [List.length_append,List.length_cons,List.length_nil]
   omega))
  have e5:(l++par P e.tx++(32::(sl++[32]))).length=l.length+(par P e.tx).length+(sl.length+2):=by
   simp only [List.length_append,List.length_cons,List.length_nil]
   all_goals omega
  rw [e5] at HO;have z4:=HA6.out.xp.c4;simp only at z4;obtain ⟨y0,y1,y2,y3,y4,y5⟩:=HEV'.out w6 HA6.out.bl;simp only at y0 y1 y2 y3 y4 y5;clear HOQ e5;go_wp2_with fail;refine HO.out.mono ?_;rintro _ w7 ⟨r,rfl,hq,hk⟩;have HQ:=h_ hq;have HK:=h_ hk;clear hq hk HO z4 y0 y1 y2 y3 y4 y5;go_wp2_with fail;go_ret;refine ⟨r,rfl,?_,HA6.out.wk.trans HK.out⟩;rcases HQ.out with ⟨rfl,h⟩|⟨rfl,e',h,hw⟩
  ·exact WQ.no (HON2.out.2.1 h)
  ·obtain ⟨h1,h2⟩:=HON2.out.2.2 e' h;refine WQ.yes _ h1 hw ?_ ?_
   ·rw [h2];simp only [a_,List.cons_append,List.nil_append]
   ·rw [HBS.out];omega
theorem expr_all (u:World) (b:Nat) (hV:Wv u):∀(m:Nat) (x:GX),SizeOf.sizeOf x<=m->x.rng->WExp u b x
 |0,x,hm,_=>by
  obtain ⟨k,n,s,o,l,p⟩:=x;simp only [GX.mk.sizeOf_spec] at hm;omega
 |m+1,x,hm,hr=>expr_step u b hV x hr (λ i y hi=>operand_any u b y (expr_all u b hV m y (by have:=sub_size hi;omega) (by
   obtain ⟨k,n,s,o,l,p⟩:=x;rw [GX.rng] at hr
   exact rng_get hr.2.2.2 hi)))
theorem expr_any (u:World) (b:Nat) (hV:Wv u) (x:GX) (hr:x.rng):WExp u b x:=expr_all u b hV _ x (n_ _) hr
theorem WB.new' {w:World} {B:Nat} (hB:B<=w.heap.size):WB (w.alloc (.cells #[.pointer none,.slice none 0 0,.int .i64 0,.int .i64 0] 210)) B w.heap.size [] 0 0 :=
 ⟨hB,_,_,.inl rfl,heap_alloc_new w _,World.ownsRow_nil _ _ _ _,by simp [Value.ownBlock]⟩
theorem GX.right_some {x:GX} {e:Ex} (h:x.right=some e):x.ex=some e/\e.nst<=20/\e.tx.length<=16384:=by
 unfold GX.right at h
 cases hx:x.ex with
 |none=>rw [hx] at h;cases h
 |some y =>
  rw [hx] at h
  by_cases c:y.nst<=20/\y.tx.length<=16384
  ·have h':(if y.nst<=20/\y.tx.length<=16384 then some y else none)=some e:=h;rw [if_pos c] at h';injection h' with h';subst h';exact ⟨rfl,c⟩
  ·have h':(if y.nst<=20/\y.tx.length<=16384 then some y else none)=some e:=h;rw [if_neg c] at h';cases h'
theorem GX.txt_some {x:GX} {e:Ex} (h:x.right=some e):x.txt=e.tx:=by unfold GX.txt;rw [h]
theorem GX.txt_none {x:GX} (h:x.right=none):x.txt=[]:=by unfold GX.txt;rw [h]
theorem newWriter (w:World) (v:EV):∃(W0:World) (g1 b:Nat),W0=(w.alloc (.cells #[.int .i64 v.kind,.int .i64 v.num,.string v.name,.int .i64 v.op,.slice v.A v.len v.cap,.int .i64 v.p] 40)).alloc (.cells #[.pointer none,.slice none 0 0,.int .i64 0,.int .i64 0] 210) /\
  g1=w.heap.size/\b=w.heap.size+1/\Hid (WAt w b g1 v w W0 [] 0 0)/\g1≠b:=by
 have e:(w.alloc (.cells #[.int .i64 v.kind,.int .i64 v.num,.string v.name,.int .i64 v.op,.slice v.A v.len v.cap,.int .i64 v.p] 40)).heap.size=w.heap.size+1:=by simp
 refine ⟨_,_,_,rfl,rfl,rfl,?_,by omega⟩;rw [<-e];have hb:Below w.heap.size w (w.alloc (.cells #[.int .i64 v.kind,.int .i64 v.num,.string v.name,.int .i64 v.op,.slice v.A v.len v.cap,.int .i64 v.p] 40)):=(b_ _ w).alloc (n_ _) _;exact ⟨hb.alloc hb.size _,WB.new' hb.size,(XpB.new w v).alloc _,(Wk.alloc (n_ _) _).trans (Wk.alloc hb.size _)⟩
theorem etext_any (w:World) (x:GX) (v:EV) (hV:Wv w) (hr:x.rng) (hg:GV w 0 w.heap.size x v) :
  Calls Tryz.prog 134 #[v.val] w λ e w'=>e=.returned (.string ⟨x.txt.toArray⟩)/\Below w.heap.size w w':=by
 obtain ⟨W0,g1,b,hW0,hg1,hb1,HA,hne⟩:=newWriter w v;have HE:=h_ (expr_any w b hV x hr W0 v [] 0 0 hg HA.out.bl HA.out.wb (by omega) (by omega) (by decide));rw [show ([]:List UInt8).length=0 from rfl,wrX_right] at HE;have HR:=h_ (λ (e:Ex) (h:x.right=some e)=>And.intro (GX.txt_some h) (tx_Hd e (ex_some x e (GX.right_some h).1).1));have HN:=h_ (@GX.txt_none x);have HNE:=h_ hne
 obtain ⟨T,hT⟩:∃T,x.txt=T:=⟨_,rfl⟩
 rw [hT] at HR HN ⊢;obtain ⟨k,num,S,op,A,len,cap,p⟩:=v;simp only [EV.val] at HE ⊢;simp only at hW0;have z0:=HA.out.xp.c0;have z1:=HA.out.xp.c1;have z2:=HA.out.xp.c2;have z3:=HA.out.xp.c3;have z4:=HA.out.xp.c4;have z5:=HA.out.xp.c5;simp only at z0 z1 z2 z3 z4 z5;clear hV hr hg hT hne;go_enter Tryz.func134,Tryz.ntmps134;go_upto_region 2 with fail;rw [<-hW0,<-hb1,<-hg1];clear hW0 hg1 hb1;go_wp2_with fail;refine HE.out.mono ?_;rintro e w1 ⟨r,rfl,hq,hk⟩;have HQ:=h_ hq;have HK:=h_ (HA.out.wk.trans hk);clear hq hk HE z0 z1 z2 z3 z4 z5;cases r
 ·obtain rfl:T=[]:=HN.out (by
   rcases HQ.out with ⟨_,h⟩|⟨h,_⟩
   ·exact h
   ·cases h)
  go_wp2_with fail;go_ret;exact ⟨rfl,HK.out.below⟩
 ·obtain ⟨e,he,hwb⟩:∃e,x.right=some e/\WB w1 w.heap.size b e.tx e.size 0:=by
   rcases HQ.out with ⟨h,_⟩|⟨_,e,h,hw⟩
   ·cases h
   ·exact ⟨e,h,by rw [List.nil_append,Nat.zero_add] at hw;exact hw⟩
  obtain ⟨h1,h2⟩:=HR.out e he;have HS:=h_ (bstring_any w1 w.heap.size b e.tx e.size 0 hwb (by obtain ⟨c,r,h,_⟩:=h2;rw [h];simp));rw [<-h1] at HS;clear he hwb h1 h2 HR HN HQ;go_wp2_with fail;refine HS.out.mono ?_;rintro _ w2 ⟨rfl,hb⟩;go_wp2_with fail;go_ret;exact ⟨rfl,HK.out.below.trans hb⟩
theorem eright_any (w:World) (x:GX) (v:EV) (hV:Wv w) (hr:x.rng) (hg:GV w 0 w.heap.size x v) :
  Calls Tryz.prog 194 #[v.val] w λ e w'=>e=.returned (.bool x.right.isSome)/\Below w.heap.size w w':=by
 obtain ⟨W0,g1,b,hW0,hg1,hb1,HA,hne⟩:=newWriter w v;have HE:=h_ (expr_any w b hV x hr W0 v [] 0 0 hg HA.out.bl HA.out.wb (by omega) (by omega) (by decide));rw [show ([]:List UInt8).length=0 from rfl,wrX_right] at HE
 obtain ⟨Y,hY⟩:∃Y,x.right=Y:=⟨_,rfl⟩
 rw [hY] at HE ⊢;obtain ⟨k,num,S,op,A,len,cap,p⟩:=v;simp only [EV.val] at HE ⊢;simp only at hW0;have z0:=HA.out.xp.c0;have z1:=HA.out.xp.c1;have z2:=HA.out.xp.c2;have z3:=HA.out.xp.c3;have z4:=HA.out.xp.c4;have z5:=HA.out.xp.c5;simp only at z0 z1 z2 z3 z4 z5;clear hV hr hg hY hne;go_enter Tryz.func194,Tryz.ntmps194;go_wp2_with fail;rw [<-hW0,<-hb1];clear hW0 hg1 hb1;refine HE.out.mono ?_;rintro e w1 ⟨r,rfl,hq,hk⟩;have HQ:=h_ hq;have HK:=h_ (HA.out.wk.trans hk);clear hq hk HE z0 z1 z2 z3 z4 z5;go_wp2_with fail;go_ret;refine ⟨?_,HK.out.below⟩;rcases HQ.out with ⟨rfl,h⟩|⟨rfl,e,h,_⟩
 ·rw [h];rfl
 ·rw [h];rfl
def SyAct.g (a:SyAct):GA:=⟨a.kind,a.name,gxO a.value,a.at_⟩
def SyMove.g (m:SyMove):GM:=⟨m.kind,m.event,m.wait,m.guarded,gxO m.guard,m.acts.map SyAct.g,m.targets,m.at_⟩
mutual
def SyNode.g:SyNode->GN
 |.mk k n i d e l m ks p=>.mk k n i d (e.map SyAct.g) (l.map SyAct.g) (m.map SyMove.g) (SyNode.gs ks) p
def SyNode.gs:List SyNode->List GN
 |[]=>[]
 |x::l=>x.g::SyNode.gs l
end
def SyChart.g (c:SyChart):GC:=⟨c.vars,c.root.g⟩
theorem gs_map:∀l:List SyNode,SyNode.gs l=l.map SyNode.g
 |[]=>by rw [SyNode.gs];rfl
 |x::l=>by rw [SyNode.gs,gs_map l];rfl
theorem pls_flat {α β:Type} {f:α->List DV} {h:β->List DV} {g:α->β} (hf:∀a,DV.pls (f a)=h (g a)) (l:List α):DV.pls (l.flatMap f)=(l.map g).flatMap h:=by
 induction l with
 |nil=>rw [pls_map];rfl
 |cons a l ih =>
  rw [pls_map,List.flatMap_cons,List.map_append,<-pls_map,<-pls_map,hf,ih,List.map_cons,List.flatMap_cons]
theorem pls_act (o:Bool) (a:SyAct):DV.pls (dvAct o a)=gAct a.g:=by
 rw [pls_map];simp [dvAct,dvEx,gAct,gEx,SyAct.g,DV.pl]
theorem pl_acts (o:Bool) (l:List SyAct):(dvActs o l).pl=gActs (l.map SyAct.g):=by
 unfold dvActs gActs;rw [DV.pl,pls_flat (pls_act o),List.length_map]
theorem pl_strs (l:List (List UInt8)):(dvStrs l).pl=dvStrs l:=by
 unfold dvStrs;rw [DV.pl,pls_map,List.map_map]
 congr 1
theorem pls_move (o:Bool) (m:SyMove):DV.pls (dvMove o m)=gMove m.g:=by
 rw [pls_map];simp [dvMove,dvEx,gMove,gEx,SyMove.g,DV.pl,pl_acts,pl_strs]
mutual
theorem pls_node (o:Bool):∀x:SyNode,DV.pls (dvNode o x)=gNode x.g
 |.mk k n i d e l m ks p=>by
  have h:=pls_nodes o ks
  have hl:(SyNode.gs ks).length=ks.length:=by rw [gs_map,List.length_map]
  rw [pls_map,dvNode_mk,SyNode.g,gNode_mk];unfold dvMoves gMoves dvKids gKids;simp only [List.map_cons,List.map_nil,DV.pl,pl_acts,pls_flat (pls_move o),h,hl,List.length_map]
theorem pls_nodes (o:Bool):∀l:List SyNode,DV.pls (dvNodes o l)=gNodes (SyNode.gs l)
 |[]=>by rw [dvNodes,SyNode.gs,gNodes,DV.pls]
 |x::l=>by
  rw [dvNodes,SyNode.gs,gNodes,pls_map,List.map_append,<-pls_map,<-pls_map,pls_node o x,pls_nodes o l]
end
theorem pl_vars (l:List SyVar):(dvVars l).pl=dvVars l:=by
 unfold dvVars;rw [DV.pl,pls_flat (h:=dvVar) (g:=id) (λ a=>by rw [pls_map];simp [dvVar,DV.pl])];simp
theorem chart_dx {w:World} {o:Bool} {c:SyChart} {xs:List Value} {F:List Nat} (h:DvsAt w (dvChart o c) xs F):DxsAt w (gChart c.g) xs:=by
 have:=h.dx;unfold dvChart at this;rw [DV.pls,pls_node,pl_vars] at this;exact this
def nothing (x:GX):Bool:=decide (x.kind=0)&&decide (x.num=0)&&x.name.isEmpty&&decide (x.op=0)&&x.subs.isEmpty
def okA (a:GA):Bool:=isNm a.name&&(if a.kind=1∨a.kind=3 then a.val.right.isSome else decide (a.kind=2)&&nothing a.val)
def trig (m:GM):Bool:=if m.kind=1 then isNm m.event&&decide (m.wait=0) else if m.kind=2 then m.event.isEmpty&&decide (m.wait=0) else decide (m.kind=3)&&m.event.isEmpty&&decide (0<=m.wait)
def grd (m:GM):Bool:=if m.guarded then m.guard.right.isSome else nothing m.guard
def okM (m:GM):Bool:=trig m&&grd m&&m.acts.all okA&&m.targets.all isNm
mutual
def okN:Nat->GN->Bool
 |0,_=>false
 |d+1,.mk k nm ini dft en le mo ks _=>isNm nm&&(if k=3∨k=4 then isNm dft&&ini.isEmpty&&en.isEmpty&&le.isEmpty&&mo.isEmpty&&ks.isEmpty
   else decide (k=1∨k=2)&&dft.isEmpty&&(ini.isEmpty || isNm ini)&&en.all okA&&le.all okA&&mo.all okM&&okNs d ks)
def okNs:Nat->List GN->Bool
 |_,[]=>true
 |d,x::l=>okN d x&&okNs d l
end
def mvG:List GM->Nat
 |[]=>0
 |m::l=>m.acts.length+mvG l
mutual
def nN:GN->Nat
 |.mk _ _ _ _ _ _ _ ks _=>1+nNs ks
def nNs:List GN->Nat
 |[]=>0
 |x::l=>nN x+nNs l
end
mutual
def nM:GN->Nat
 |.mk _ _ _ _ _ _ mo ks _=>mo.length+nMs ks
def nMs:List GN->Nat
 |[]=>0
 |x::l=>nM x+nMs l
end
mutual
def nA:GN->Nat
 |.mk _ _ _ _ en le mo ks _=>en.length+le.length+mvG mo+nAs ks
def nAs:List GN->Nat
 |[]=>0
 |x::l=>nA x+nAs l
end
def GN.kind:GN->Int|.mk k _ _ _ _ _ _ _ _=>k
def okV (v:SyVar):Bool:=isNm v.name&&decide (v.num≠-9223372036854775808)
def okC (c:GC):Bool:=decide (c.vars.length<=16)&&c.vars.all okV&&decide (c.root.kind=1)&&okN 12 c.root&&decide (nN c.root<=64)&&decide (nM c.root<=200)&&decide (nA c.root<=400)
def GA.s (a:GA):SyAct:=⟨a.kind,a.name,a.val.right,a.at_⟩
def GM.s (m:GM):SyMove:=⟨m.kind,m.event,m.wait,m.guarded,m.guard.right,m.acts.map GA.s,m.targets,m.at_⟩
mutual
def GN.s:GN->SyNode
 |.mk k n i d e l m ks p=>.mk k n i d (e.map GA.s) (l.map GA.s) (m.map GM.s) (GN.ss ks) p
def GN.ss:List GN->List SyNode
 |[]=>[]
 |x::l=>x.s::GN.ss l
end
def GC.s (c:GC):SyChart:=⟨c.vars,c.root.s⟩
theorem ss_map:∀l:List GN,GN.ss l=l.map GN.s
 |[]=>by rw [GN.ss];rfl
 |x::l=>by rw [GN.ss,ss_map l];rfl
def prR (c:GC):List UInt8×Int:=if okC c=true then (if (chartT c.s).length<=16384 then (chartT c.s,0) else ([],2)) else ([],22)
theorem nothing_right {x:GX} (h:nothing x=true):x.right=none:=by
 obtain ⟨k,n,s,o,l,p⟩:=x;unfold nothing at h;simp only [Bool.and_eq_true,decide_eq_true_eq] at h;have hk:k=0:=h.1.1.1.1;subst hk
 have:(GX.mk 0 n s o l p).ex=none:=by
  rw [ex_mk];apply node_bad;unfold nodeOk;rw [if_neg (by decide),if_neg (by decide),if_neg (by decide),if_neg (by decide)]
 unfold GX.right;rw [this]
theorem right_may {x:GX} {e:Ex} (h:x.right=some e):e.may:=by
 obtain ⟨h1,h2,_⟩:=GX.right_some h;exact ⟨(ex_some x e h1).1,h2⟩
theorem okA_good {a:GA} (h:okA a=true):a.s.good:=by
 unfold okA at h;rw [Bool.and_eq_true] at h;obtain ⟨h1,h2⟩:=h
 by_cases hk:a.kind=1∨a.kind=3
 ·rw [if_pos hk] at h2;obtain ⟨e,he⟩:=x_ h2;refine ⟨by rcases hk with h|h;exact .inl h;exact .inr (.inr h),h1,λ hk2=>?_,λ _=>⟨e,he,right_may he⟩⟩;have:a.kind=2:=hk2;omega
 ·rw [if_neg hk,Bool.and_eq_true,decide_eq_true_eq] at h2;exact ⟨.inr (.inl h2.1),h1,λ _=>nothing_right h2.2,λ hn=>absurd h2.1 hn⟩
theorem okAs_good {l:List GA} (h:l.all okA=true):∀a∈l.map GA.s,a.good:=λ a ha=>by
 obtain ⟨b,hb,rfl⟩:=List.mem_map.1 ha;exact okA_good (List.all_eq_true.1 h b hb)
theorem okM_good {m:GM} (h:okM m=true) (hw:m.wait<=9223372036854775807):m.s.good:=by
 unfold okM at h;simp only [Bool.and_eq_true] at h;obtain ⟨⟨⟨h1,h2⟩,h3⟩,h4⟩:=h
 have hT:(m.kind=1/\isNm m.event=true/\m.wait=0)∨(m.kind=2/\m.event=[]/\m.wait=0)∨(m.kind=3/\m.event=[]/\0<=m.wait):=by
  unfold trig at h1
  by_cases k1:m.kind=1
  ·rw [if_pos k1] at h1;simp only [Bool.and_eq_true,decide_eq_true_eq] at h1;exact .inl ⟨k1,h1⟩
  ·rw [if_neg k1] at h1
   by_cases k2:m.kind=2
   ·rw [if_pos k2] at h1;simp only [Bool.and_eq_true,decide_eq_true_eq,List.isEmpty_iff] at h1;exact .inr (.inl ⟨k2,h1⟩)
   ·rw [if_neg k2] at h1;simp only [Bool.and_eq_true,decide_eq_true_eq,List.isEmpty_iff] at h1;exact .inr (.inr ⟨h1.1.1,h1.1.2,h1.2⟩)
 have hG:m.guarded=m.guard.right.isSome:=by
  unfold grd at h2
  cases hg:m.guarded with
  |true=>rw [hg,if_pos rfl] at h2;exact h2.symm
  |false=>rw [hg,if_neg (by decide)] at h2;rw [nothing_right h2];rfl
 refine ⟨?_,?_,?_,hG,λ x hx=>right_may hx,okAs_good h3,λ t ht=>List.all_eq_true.1 h4 t ht⟩
 ·rcases hT with h|h|h
  ·exact .inl h.1
  ·exact .inr (.inl h.1)
  ·exact .inr (.inr h.1)
 ·rcases hT with h|h|h
  ·exact .inl ⟨h.1,h.2.1⟩
  ·exact .inr ⟨by show m.kind≠1;omega,h.2.1⟩
  ·exact .inr ⟨by show m.kind≠1;omega,h.2.1⟩
 ·rcases hT with h|h|h
  ·exact .inr ⟨by show m.kind≠3;omega,h.2.2⟩
  ·exact .inr ⟨by show m.kind≠3;omega,h.2.2⟩
  ·exact .inl ⟨h.1,h.2.2,hw⟩
def GA.rng (a:GA):Prop:=a.name.length<=140737488351232/\a.val.rng
def GM.rng (m:GM):Prop:=m.event.length<=140737488351232/\(-9223372036854775808<=m.wait/\m.wait<=9223372036854775807)/\m.guard.rng/\(∀a∈m.acts,a.rng)/\∀t∈m.targets,t.length<=140737488351232
mutual
def GN.rng:GN->Prop
 |.mk _ nm ini dft en le mo ks _=>nm.length<=140737488351232/\ini.length<=140737488351232/\dft.length<=140737488351232/\(∀a∈en,a.rng)/\(∀a∈le,a.rng)/\(∀m∈mo,m.rng)/\GN.rngs ks
def GN.rngs:List GN->Prop
 |[]=>True
 |x::l=>x.rng/\GN.rngs l
end
def SyVar.rng (v:SyVar):Prop:=v.name.length<=140737488351232/\-9223372036854775808<=v.num/\v.num<=9223372036854775807
def GC.rng (c:GC):Prop:=(∀v∈c.vars,v.rng)/\c.root.rng
theorem GN.rngs_iff:∀{l:List GN},GN.rngs l ↔ ∀x∈l,x.rng
 |[]=>by rw [GN.rngs];simp
 |x::l=>by rw [GN.rngs,GN.rngs_iff];simp
theorem okNs_iff {d:Nat}:∀{l:List GN},okNs d l=true ↔ ∀x∈l,okN d x=true
 |[]=>by rw [okNs];simp
 |x::l=>by rw [okNs,Bool.and_eq_true,okNs_iff];simp
mutual
def layN:GN->Int->Int->Nat->List Spt
 |.mk k nm _ _ _ _ _ ks _,p,d,a=>⟨k,nm,p,d,(a:Int)+1+(nNs ks:Nat)⟩::layNs ks a (d+1) (a+1)
def layNs:List GN->Int->Int->Nat->List Spt
 |[],_,_,_=>[]
 |x::l,p,d,a=>layN x p d a++layNs l p d (a+nN x)
end
mutual
theorem layN_len:∀(x:GN) (p d:Int) (a:Nat),(layN x p d a).length=nN x
 |.mk k nm i df en le mo ks q,p,d,a=>by rw [layN,nN,List.length_cons,layNs_len ks];omega
theorem layNs_len:∀(l:List GN) (p d:Int) (a:Nat),(layNs l p d a).length=nNs l
 |[],_,_,_=>by rw [layNs,nNs];rfl
 |x::l,p,d,a=>by rw [layNs,nNs,List.length_append,layN_len x,layNs_len l]
end
mutual
theorem layN_seg:∀(x:GN) (p d:Int) (a:Nat),Seg (layN x p d a) p d a
 |.mk k nm i df en le mo ks q,p,d,a=>by
  have h:=(layNs_seg ks a (d+1) (a+1)).cons (p:=p) k nm;rw [layNs_len] at h;rw [layN];exact h
theorem layNs_seg:∀(l:List GN) (p d:Int) (a:Nat),Seg (layNs l p d a) p d a
 |[],p,d,a=>by rw [layNs];exact Seg.nil p d a
 |x::l,p,d,a=>by
  rw [layNs];refine (layN_seg x p d a).app ?_;rw [layN_len];exact layNs_seg l p d _
end
theorem lay_fo (x:GN):Fo (layN x (-1) 0 0):=by
 have h:=layN_seg x (-1) 0 0;have hl:=layN_len x (-1) 0 0
 have hpos:0<nN x:=by cases x;rw [nN];omega
 have hroot:∀s,(layN x (-1) 0 0)[0]?=some s->s.par=-1/\s.fin=(((layN x (-1) 0 0).length:Nat):Int):=λ s hs=>by
  cases x with
  |mk k nm i df en le mo ks q =>
   rw [hl];rw [layN,z_,j_] at hs;subst hs;exact ⟨rfl,by rw [nN];simp only;omega⟩
 obtain ⟨s0,hs0⟩:∃s,(layN x (-1) 0 0)[0]?=some s:=⟨_,List.getElem?_eq_getElem (by omega)⟩
 have hdep0:∀s,(layN x (-1) 0 0)[0]?=some s->s.dep=0:=λ s hs=>by
  cases x with
  |mk k nm i df en le mo ks q =>
   rw [layN,z_,j_] at hs;subst hs;rfl
 refine ⟨by omega,hroot,hdep0,λ i s hi hs=>?_,λ i s hs=>?_,λ b i s t hb hs ht hf=>?_⟩
 ·rcases (h.one i s hs).2.2 with ⟨h3,_⟩|⟨q,t,k1,k2,k3,k4,k5,k6⟩
  ·have hlt:=(List.getElem?_eq_some_iff.1 hs).1;obtain ⟨r,_,k2⟩:=h.mid 0 i s s0 hi hs hs0 (by rw [(hroot s0 hs0).2];omega);omega
  ·exact ⟨q,t,by rw [k3];omega,k1,k2,by omega,k5,k6⟩
 ·obtain ⟨h1,h2,_⟩:=h.one i s hs;exact ⟨by omega,by omega⟩
 ·obtain ⟨r,k1,k2⟩:=h.mid b i s t hb hs ht (by omega);exact ⟨r,k1,by rw [k2];omega⟩
structure SpR (w:World) (g:Nat) (F:List Spt):Prop where
 lt:g<w.heap.size
 len:F.length<=9223372036854775807
 k:∀(i:Nat) (s:Spt),F[i]?=some s->w.cell? ⟨g,i*5,none⟩=some (.int .i64 s.kind)
 n:∀(i:Nat) (s:Spt),F[i]?=some s->w.cell? ⟨g,i*5+1,none⟩=some (txV s.name)
 p:∀(i:Nat) (s:Spt),F[i]?=some s->w.cell? ⟨g,i*5+2,none⟩=some (.int .i64 s.par)
 d:∀(i:Nat) (s:Spt),F[i]?=some s->w.cell? ⟨g,i*5+3,none⟩=some (.int .i64 s.dep)
 f:∀(i:Nat) (s:Spt),F[i]?=some s->w.cell? ⟨g,i*5+4,none⟩=some (.int .i64 s.fin)
theorem SpR.same {w w':World} {g:Nat} {F:List Spt} (h:SpR w g F) (hz:w.heap.size<=w'.heap.size) (hs:w'.heap[g]?=w.heap[g]?):SpR w' g F:=by
 have e:∀i,w'.cell? ⟨g,i,none⟩=w.cell? ⟨g,i,none⟩:=λ i=>World.cell?_of_block hs;exact ⟨by have:=h.lt;omega,h.len,λ i s hi=>by rw [e];exact h.k i s hi,λ i s hi=>by rw [e];exact h.n i s hi,λ i s hi=>by rw [e];exact h.p i s hi,λ i s hi=>by rw [e];exact h.d i s hi,λ i s hi=>by rw [e];exact h.f i s hi⟩
theorem SpR.below {w w':World} {g:Nat} {F:List Spt} (h:SpR w g F) (hb:Below w.heap.size w w'):SpR w' g F:=h.same hb.size (hb.block g h.lt)
theorem fhas_any (w:World) (A:Option Addr) (n c:Nat) (k:Int) :
  Calls Tryz.prog 46 #[.slice A n c,.int .i64 k] w λ e w'=>e=.returned (.bool (decide (0<=k)&&decide (k<(n:Int))))/\w'=w:=by
 obtain ⟨q1,hq1⟩:∃q,decide (0<=k)=q:=⟨_,rfl⟩
 obtain ⟨N,hN⟩:∃N:Int,(n:Int)=N:=⟨_,rfl⟩
 obtain ⟨q2,hq2⟩:∃q,decide (k<N)=q:=⟨_,rfl⟩
 rw [hq1,hN,hq2]
 cases q1 with
 |false =>
  have h0:decide (0<=k)=false:=hq1;go_enter Tryz.func46,Tryz.ntmps46;go_wp2_with fail;go_ret;exact ⟨rfl,rfl⟩
 |true =>
  have h0:decide (0<=k)=true:=hq1;go_enter Tryz.func46,Tryz.ntmps46;go_wp2_with fail;go_ret;exact ⟨rfl,rfl⟩
theorem flwithin_any (w:World) (g c:Nat) (F:List Spt) (a b:Int) (h:SpR w g F) :
  Calls Tryz.prog 43 #[.slice (some ⟨g,0,none⟩) F.length c,.int .i64 a,.int .i64 b] w λ e w'=>e=.returned (.bool (inW F a b))/\w'=w:=by
 have HA:=h_ (fhas_any w (some ⟨g,0,none⟩) F.length c a);have HB:=h_ (fhas_any w (some ⟨g,0,none⟩) F.length c b)
 have HC:Hid (hasF F b=true->∃(k:Nat) (s:Spt),b=(k:Int)/\k<F.length/\F.length<=9223372036854775807/\w.cell? ⟨g,k*5+4,none⟩=some (.int .i64 s.fin)/\finF F b=s.fin):=λ hb=>by
  obtain ⟨k,s,rfl,h1,h2,h3⟩:=hasF_of hb;exact ⟨k,s,rfl,h1,h.len,h.f k s h2,by unfold finF;rw [h3]⟩
 clear h;have HX:Hid (inW F a b=(hasF F a&&hasF F b&&decide (b<a)&&decide (a<finF F b))):=rfl
 obtain ⟨q1,hq1⟩:∃q,hasF F a=q:=⟨_,rfl⟩
 obtain ⟨q2,hq2⟩:∃q,hasF F b=q:=⟨_,rfl⟩
 obtain ⟨X,hX⟩:∃X,inW F a b=X:=⟨_,rfl⟩
 have e1:(decide (0<=a)&&decide (a<(F.length:Int)))=q1:=hq1;have e2:(decide (0<=b)&&decide (b<(F.length:Int)))=q2:=hq2;rw [e1] at HA;rw [e2] at HB;rw [hq1,hq2,hX] at HX;rw [hq2] at HC;rw [hX];clear hX hq1 hq2 e1 e2
 cases q1 with
 |false =>
  have HX':Hid (X=false):=HX.out;clear HX HC;go_enter Tryz.func43,Tryz.ntmps43;go_wp2_with (refine HA.out.mono ?_);rintro e w1 ⟨rfl,rfl⟩;go_wp2_with fail;go_ret;exact ⟨by obtain rfl:=HX'.out;rfl,rfl⟩
 |true =>
  cases q2 with
  |false =>
   have HX':Hid (X=false):=HX.out;clear HX HC;go_enter Tryz.func43,Tryz.ntmps43;go_wp2_with fail;refine HA.out.mono ?_;rintro e w1 ⟨rfl,rfl⟩;go_wp2_with fail;refine HB.out.mono ?_;rintro e w2 ⟨rfl,rfl⟩;go_wp2_with fail;go_ret;exact ⟨by obtain rfl:=HX'.out;rfl,rfl⟩
  |true =>
   obtain ⟨k,s,rfl,hk,hm,hf,hfin⟩:=HC.out rfl;rw [hfin] at HX
   obtain ⟨n,hn⟩:∃n,F.length=n:=⟨_,rfl⟩
   rw [hn] at hk hm HA HB ⊢
   obtain ⟨q3,hq3⟩:∃q,decide ((k:Int)<a)=q:=⟨_,rfl⟩
   rw [hq3] at HX
   have hb1:(0:Int)<=(k:Int):=by omega
   have hb2:(k:Int)<(n:Int):=by omega
   clear HC hn hfin
   cases q3 with
   |false =>
    have HX':Hid (X=false):=HX.out;clear HX;go_enter Tryz.func43,Tryz.ntmps43;go_wp2_with fail;refine HA.out.mono ?_;rintro e w1 ⟨rfl,rfl⟩;go_wp2_with fail;refine HB.out.mono ?_;rintro e w2 ⟨rfl,rfl⟩;go_wp2_with fail;go_ret;exact ⟨by obtain rfl:=HX'.out;rfl,rfl⟩
   |true =>
    have HX':Hid (X=decide (a<s.fin)):=HX.out;clear HX;go_enter Tryz.func43,Tryz.ntmps43;go_wp2_with fail;refine HA.out.mono ?_;rintro e w1 ⟨rfl,rfl⟩;go_wp2_with fail;refine HB.out.mono ?_;rintro e w2 ⟨rfl,rfl⟩;go_wp2_with fail;go_ret;exact ⟨by obtain rfl:=HX'.out;rfl,rfl⟩
theorem fwithin_any (w:World) (g c:Nat) (F:List Spt) (a b:Int) (h:SpR w g F) :
  Calls Tryz.prog 22 #[.slice (some ⟨g,0,none⟩) F.length c,.int .i64 a,.int .i64 b] w λ e w'=>e=.returned (.bool (inW F a b))/\w'=w:=by
 have HA:=h_ (flwithin_any w g c F a b h);clear h
 obtain ⟨X,hX⟩:∃X,inW F a b=X:=⟨_,rfl⟩
 rw [hX] at HA ⊢;clear hX;go_enter Tryz.func22,Tryz.ntmps22;go_wp2_with fail;refine HA.out.mono ?_;rintro e w1 ⟨rfl,rfl⟩;go_wp2_with fail;go_ret;exact ⟨rfl,rfl⟩
theorem fparent_any (w:World) (g c:Nat) (F:List Spt) (a:Int) (h:SpR w g F) :
  Calls Tryz.prog 44 #[.slice (some ⟨g,0,none⟩) F.length c,.int .i64 a] w λ e w'=>e=.returned (.int .i64 (parF F a))/\w'=w:=by
 have HA:=h_ (fhas_any w (some ⟨g,0,none⟩) F.length c a)
 have HC:Hid (hasF F a=true->∃(k:Nat) (s:Spt),a=(k:Int)/\k<F.length/\F.length<=9223372036854775807/\w.cell? ⟨g,k*5+2,none⟩=some (.int .i64 s.par)/\parF F a=if s.par<a then s.par else -1):=λ hb=>by
  obtain ⟨k,s,rfl,h1,h2,h3⟩:=hasF_of hb;exact ⟨k,s,rfl,h1,h.len,h.p k s h2,by unfold parF;rw [h3]⟩
 have HN:Hid (hasF F a=false->parF F a=-1):=λ hb=>by unfold parF;rw [spA_none hb]
 clear h
 obtain ⟨q1,hq1⟩:∃q,hasF F a=q:=⟨_,rfl⟩
 obtain ⟨X,hX⟩:∃X,parF F a=X:=⟨_,rfl⟩
 have e1:(decide (0<=a)&&decide (a<(F.length:Int)))=q1:=hq1;rw [e1] at HA;rw [hq1,hX] at HC HN;rw [hX];clear hX hq1 e1
 cases q1 with
 |false =>
  have HX':Hid (X=-1):=HN.out rfl;clear HN HC;go_enter Tryz.func44,Tryz.ntmps44;go_wp2_with fail;refine HA.out.mono ?_;rintro e w1 ⟨rfl,rfl⟩;go_wp2_with fail;go_ret;exact ⟨by obtain rfl:=HX'.out;rfl,rfl⟩
 |true =>
  obtain ⟨k,s,rfl,hk,hm,hf,hpar⟩:=HC.out rfl
  obtain ⟨n,hn⟩:∃n,F.length=n:=⟨_,rfl⟩
  rw [hn] at hk hm HA ⊢
  obtain ⟨q3,hq3⟩:∃q,decide (s.par<(k:Int))=q:=⟨_,rfl⟩
  have hb1:(0:Int)<=(k:Int):=by omega
  have hb2:(k:Int)<(n:Int):=by omega
  clear HC hn HN
  obtain ⟨P,hP⟩:∃P,s.par=P:=⟨_,rfl⟩
  rw [hP] at hpar hq3 hf;clear hP
  cases q3 with
  |false =>
   have HX':Hid (X=-1):=by
    show _=_;rw [hpar,if_neg (by simpa using hq3)]
   clear hpar;go_enter Tryz.func44,Tryz.ntmps44;go_wp2_with fail;refine HA.out.mono ?_;rintro e w1 ⟨rfl,rfl⟩;go_wp2_with fail;go_ret;exact ⟨by obtain rfl:=HX'.out;rfl,rfl⟩
  |true =>
   have HX':Hid (X=P):=by
    show _=_;rw [hpar,if_pos (by simpa using hq3)]
   clear hpar;go_enter Tryz.func44,Tryz.ntmps44;go_wp2_with fail;refine HA.out.mono ?_;rintro e w1 ⟨rfl,rfl⟩;go_wp2_with fail;go_ret;exact ⟨by obtain rfl:=HX'.out;rfl,rfl⟩
def IsR (w:World) (base:Nat) (v:Value) (l:List Int):Prop:=w.ownsRow base 3 1 v l.length (l.map (.int .i64))
theorem IsR.at_ {w:World} {base:Nat} {v:Value} {l:List Int} (h:IsR w base v l):∃A c,v=.slice A l.length c/\l.length<=c/\c<=maxLen/\IntAt w A l:=by
 rcases h.2 with ⟨rfl,h2⟩|⟨g,cap,cur,rfl,hb,hg,hn,hm,hs,ht⟩
 ·refine ⟨none,0,by rw [h2],by omega,by decide,λ i n hi=>?_⟩;rw [List.eq_nil_of_length_eq_zero h2] at hi;simp at hi
 ·refine ⟨some ⟨g,0,none⟩,cap,rfl,hn,hm,λ i n hi=>⟨g,0,rfl,(Array.getElem?_eq_some_iff.1 hg).1,?_⟩⟩;have hlt:=(List.getElem?_eq_some_iff.1 hi).1;rw [cell_of_row w g _ _ _ _ hg,Nat.zero_add,<-Array.getElem?_toList];rw [Nat.mul_one] at ht
  have e:(cur.toList.take l.length)[i]?=some (.int .i64 n):=by rw [ht,List.getElem?_map,hi];rfl
  rw [List.getElem?_take] at e;rw [if_pos hlt] at e;exact e
theorem infoInt9:(Tryz.prog.info? 3).map (λ i=>(i.zero,i.size,i.bytes))=some (some (.int .i64 0),1,8):=by kernel_rfl
theorem wpl_append_i9 {w:World} {ops:Array Oper} {rest:List Oper} {o:Oper} {a:Act} {Q:Exit->Act->World->Prop} (hgd:o.guard=none) (s x:Operand)
  (ho:o.op=.call { callee:=.builtin .append,args:=#[s,x],argTypes:=#[53,53] })
  (base:Nat) (v:Value) (xs:List Int) (hs:a.eval s=v) (hown:IsR w base v xs)
  (u:Int) (hx:a.eval x=.slice (some ⟨w.heap.size,0,none⟩) 1 1) (hn:xs.length<=1000000000) (hbase:base<=w.heap.size)
  (h:∀v' w',IsR w' base v' (xs++[u])->Below base w w'->wpList Tryz.prog ops Q rest (a.put o.dst v') w') :
  wpList Tryz.prog ops Q (o::rest) a (w.alloc (.cells #[.int .i64 u] 3)):=by
 obtain ⟨i0,hi,hz0,hz1,hz2⟩:=info_parts infoInt9;refine wpList_append_own _ hgd s x 53 ho base 3 i0 (.int .i64 0) 1 8 Tryz.underlying53 hi hz0 hz1 hz2 rfl (by decide) v xs.length _ hs (World.ownsRow.alloc hown _) ⟨w.heap.size,0,none⟩ 1 1 [.int .i64 u] hx rfl ?_ ?_ (by unfold maxLen;omega) (by omega) (by simp;omega) ?_
 ·intro i y hy
  match i,hy with
  |0,hy=>simp at hy;subst hy;simp [Addr.add]
 ·intro y hy;simp at hy;subst hy;rfl
 ·intro v' w' h1 h2 _;refine h v' w' ?_ (((b_ base w).alloc hbase _).grown h2 (by simp;omega) (λ k h=>(World.ownsRow.lt hown k h).1));unfold IsR;rw [List.map_append,List.length_append];exact h1
theorem fcovers_any (w:World) (g c:Nat) (F:List Spt) (m:Int) (A:Option Addr) (n cn:Nat) (ns:List Int) (h:SpR w g F) (hl:ns.length=n) (hc:n<=cn/\cn<=maxLen) (hA:IntAt w A ns) :
  Calls Tryz.prog 45 #[.slice (some ⟨g,0,none⟩) F.length c,.int .i64 m,.slice A n cn] w λ e w'=>e=.returned (.bool (covF F m ns))/\w'=w:=by
 have HW:=h_ (λ (b:Int)=>flwithin_any w g c F b m h);have HH:=h_ (fhas_any w (some ⟨g,0,none⟩) F.length c m);have HX:Hid (covF F m ns=(ns.all (λ n=>onW F n m)&&(decide (0<=m)&&decide (m<(F.length:Int))))):=rfl
 obtain ⟨X,hX⟩:∃X,covF F m ns=X:=⟨_,rfl⟩
 obtain ⟨N,hN⟩:∃N,F.length=N:=⟨_,rfl⟩
 obtain ⟨q,hq⟩:∃q,(decide (0<=m)&&decide (m<(N:Int)))=q:=⟨_,rfl⟩
 rw [hX,hN,hq] at HX;rw [hN,hq] at HH;simp only [hN] at HW;rw [hX,hN];have HL:=h_ hl
 have HC:Hid (n<=9223372036854775807):=by
  have:maxLen<=9223372036854775807:=by decide
  show _<=_;omega
 have HA:=h_ hA;clear hX hN hq hl hc hA h;go_enter Tryz.func45,Tryz.ntmps45;go_wp2_with fail
 go_loopw [11] (λ iv wr=>∃i:Nat,i<=n/\iv=.int .i64 (i:Int)/\Hid (wr=w)/\Hid ((ns.take i).all (λ n=>onW F n m)=true)) (λ iv _=>n-(intOf iv).toNat)
 case atStart=>exact ⟨0,Nat.zero_le _,rfl,h_ rfl,h_ rfl⟩
 case round =>
  obtain ⟨i,hi,rfl,HWW,HI⟩:=hrel;obtain rfl:wr=w:=HWW.out
  by_cases him:i<n
  ·have HIM:=h_ him
   have him':(i:Int)<n:=by omega
   obtain ⟨x,hx⟩:∃x,ns[i]?=some x:=⟨_,List.getElem?_eq_getElem (by rw [HL.out];exact him)⟩
   obtain ⟨g1,o1,rfl,_,x0⟩:=HA.out i x hx
   have HT:Hid (ns.take (i+1)=ns.take i++[x]):=by show _=_;rw [List.take_add_one,hx];rfl
   have HM:Hid (x∈ns):=List.mem_of_getElem? hx;clear hx
   by_cases hxm:x=m
   ·have HS:Hid ((ns.take (i+1)).all (λ n=>onW F n m)=true):=by
     show _=_;rw [HT.out,List.all_append,HI.out];unfold onW;simp [hxm]
    clear HT HM HI
    have hb:(x != m)=false:=by simp [hxm]
    clear hxm;go_wp2_with fail;exact ⟨⟨i+1,by have:=HIM.out;omega,by have h1:=HIM.out;have h2:=HC.out;rw [Go.IntWalk.wrap64_in _ ⟨by omega,by omega⟩];rfl,h_ trivial,HS⟩,by have h1:=HIM.out;have h2:=HC.out;rw [Go.IntWalk.wrap64_in _ ⟨by omega,by omega⟩];simp [intOf];omega⟩
   ·have hb:(x != m)=true:=by simp [hxm]
    have HO:Hid (onW F x m=inW F x m):=by show _=_;unfold onW;rw [decide_eq_false hxm,Bool.false_or]
    clear hxm;have HV:=h_ (HW.out x)
    obtain ⟨d,hd⟩:∃d,inW F x m=d:=⟨_,rfl⟩
    rw [hd] at HV HO;clear HW hd
    cases d with
    |true =>
     have HS:Hid ((ns.take (i+1)).all (λ n=>onW F n m)=true):=by
      show _=_;rw [HT.out,List.all_append,HI.out];simp [HO.out]
     clear HT HM HI HO;go_wp2_with fail;refine HV.out.mono ?_;rintro e w1 ⟨rfl,rfl⟩;go_wp2_with fail;exact ⟨⟨i+1,by have:=HIM.out;omega,by have h1:=HIM.out;have h2:=HC.out;rw [Go.IntWalk.wrap64_in _ ⟨by omega,by omega⟩];rfl,h_ trivial,HS⟩,by have h1:=HIM.out;have h2:=HC.out;rw [Go.IntWalk.wrap64_in _ ⟨by omega,by omega⟩];simp [intOf];omega⟩
    |false =>
     have HS:Hid (X=false):=by
      show _=_;rw [HX.out]
      have:ns.all (λ n=>onW F n m)=false:=by
       rw [List.all_eq_false];exact ⟨x,HM.out,by simp [HO.out]⟩
      rw [this];rfl
     clear HT HM HI HO HX;go_wp2_with fail;refine HV.out.mono ?_;rintro e w1 ⟨rfl,rfl⟩;go_wp2_with fail;go_ret;exact ⟨by obtain rfl:=HS.out;rfl,rfl⟩
  ·have him':¬(i:Int)<n:=by omega
   have HS:Hid (X=q):=by
    show _=_;have e:=HI.out;rw [List.take_of_length_le (by rw [HL.out];omega)] at e;rw [HX.out,e,Bool.true_and]
   clear HX HI HW;go_wp2_with fail;refine HH.out.mono ?_;rintro e w1 ⟨rfl,rfl⟩;go_wp2_with fail;go_ret;exact ⟨by obtain rfl:=HS.out;rfl,rfl⟩
def restF (F:List Spt) (b:Int):List Int:=if b<0 then [] else b::upF F b
theorem upF_rest (F:List Spt) (n:Int):upF F n=restF F (parF F n):=by
 unfold restF
 by_cases h:parF F n<0
 ·rw [if_pos h,upF_none h]
 ·rw [if_neg h,upF_some (by omega)]
theorem upF_size (F:List Spt) (n:Int):(upF F n).length<=F.length:=upF_len _ _
theorem fup_any (w:World) (g c:Nat) (F:List Spt) (n:Int) (h:SpR w g F) (hF:F.length<=1000000) :
  Calls Tryz.prog 23 #[.slice (some ⟨g,0,none⟩) F.length c,.int .i64 n] w λ e w'=>∃v,e=.returned v/\IsR w' w.heap.size v (upF F n)/\Below w.heap.size w w':=by
 have HP:=h_ (λ (W:World) (b:Int) (hb:Below w.heap.size w W)=>fparent_any W g c F b (h.below hb));have HF:Hid ((upF F n).length<=1000000):=Nat.le_trans (upF_size F n) hF;have HU:=h_ (upF_rest F n);have HQ:=h_ (HP.out w n (b_ _ w))
 have HS:Hid (∀b:Int,¬b<0->restF F b=b::restF F (parF F b)/\parF F b<b):=λ b hb=>by
  refine ⟨by unfold restF;rw [if_neg hb,upF_rest F b];rfl,?_⟩
  by_cases hp:parF F b<0
  ·omega
  ·exact (parF_lt (by omega)).1
 have HN:Hid (∀b:Int,b<0->restF F b=[]):=λ b hb=>by unfold restF;rw [if_pos hb]
 obtain ⟨X,hX⟩:∃X,upF F n=X:=⟨_,rfl⟩
 obtain ⟨b0,hb0⟩:∃b,parF F n=b:=⟨_,rfl⟩
 obtain ⟨N,hN⟩:∃N,F.length=N:=⟨_,rfl⟩
 rw [hX] at HU HF ⊢;rw [hb0] at HU HQ;simp only [hN] at HP HQ ⊢;clear hX hb0 hN h hF;go_enter Tryz.func23,Tryz.ntmps23;go_wp2_with fail;refine HQ.out.mono ?_;rintro e w1 ⟨rfl,hw1⟩
 have HB1:Hid (Below w.heap.size w w1):=by rw [hw1];exact b_ _ w
 clear hw1 HQ;go_wp2_with fail
 go_loopw [5,6] (λ v iv wr=>∃(b:Int) (D:List Int),iv=.int .i64 b/\Hid (IsR wr w.heap.size v D)/\Hid (D++restF F b=X)/\Hid (Below w.heap.size w wr)) (λ _ iv _=>(intOf iv+1).toNat)
 case atStart=>exact ⟨b0,[],rfl,h_ (World.ownsRow_nil _ _ _ _),h_ (by rw [HU.out];rfl),HB1⟩
 case round =>
  obtain ⟨b,D,rfl,HR,HD,HB⟩:=hrel
  by_cases hb:b<0
  ·have hb':¬(0:Int)<=b:=by omega
   have HE:Hid (D=X):=by
    show _=_;have e:=HD.out;rw [HN.out b hb,List.append_nil] at e;exact e
   clear HD HP HS HN hb;go_wp2_with fail;go_ret;exact ⟨_,rfl,by obtain rfl:=HE.out;exact HR.out,HB.out⟩
  ·have hb':(0:Int)<=b:=by omega
   obtain ⟨h1,h2⟩:=HS.out b (by omega)
   have HE:Hid (D++[b]++restF F (parF F b)=X):=by
    show _=_;rw [a_,List.singleton_append,<-h1];exact HD.out
   have HL:Hid (D.length<=1000000):=by
    have e:=HF.out;rw [<-HD.out,List.length_append] at e;show _<=_;omega
   have HLT:=h_ h2;clear HD hb h1 h2 HN HS;go_upto_region 4 with (at_builtin;refine wpl_append_i9 rfl (.tmp 15) (.tmp 17) rfl w.heap.size _ D rfl HR.out b rfl (by have:=HL.out;omega) HB.out.size ?_);intro v' w2 hr2 hb2;have HR2:=h_ hr2;have HB2:Hid (Below w.heap.size w w2):=HB.out.trans hb2;clear hr2 hb2 HR;go_wp2_with fail;refine (HP.out w2 b HB2.out).mono ?_;rintro e w3 ⟨rfl,rfl⟩;go_wp2_with fail;exact ⟨⟨_,D++[b],rfl,HR2,HE,HB2⟩,by have:=HLT.out;simp [intOf];omega⟩
theorem fmeet_any (w:World) (g c:Nat) (F:List Spt) (A:Option Addr) (n cn:Nat) (ns:List Int) (h:SpR w g F) (hl:ns.length=n) (hc:n<=cn/\cn<=maxLen) (hA:IntAt w A ns) :
  Calls Tryz.prog 25 #[.slice (some ⟨g,0,none⟩) F.length c,.slice A n cn] w λ e w'=>e=.returned (.int .i64 (meetF F ns))/\w'=w:=by
 have HP:=h_ (λ (b:Int)=>fparent_any w g c F b h);have HC:=h_ (λ (b:Int)=>fcovers_any w g c F b A n cn ns h hl hc hA)
 cases ns with
 |nil =>
  have h0:n=0:=hl.symm;subst h0;clear h hl hc hA HP HC;go_enter Tryz.func25,Tryz.ntmps25;go_wp2_with fail;go_ret;exact ⟨rfl,rfl⟩
 |cons n0 l =>
  obtain ⟨ga,oa,rfl,_,z0⟩:=hA 0 n0 rfl;rw [Nat.add_zero] at z0
  have hn0:¬n=0:=by rw [<-hl];simp
  have hn1:(0:Int)<(n:Int):=by omega
  have hnm:(n:Int)<=9223372036854775807:=by
   have:maxLen<=9223372036854775807:=by decide
   omega
  have HX:Hid (meetF F (n0::l)=goF F (n0::l) n0):=rfl
  obtain ⟨X,hX⟩:∃X,meetF F (n0::l)=X:=⟨_,rfl⟩
  obtain ⟨N,hN⟩:∃N,F.length=N:=⟨_,rfl⟩
  obtain ⟨L,hL⟩:∃L,n0::l=L:=⟨_,rfl⟩
  rw [hX,hL] at HX;rw [hL] at HC;rw [hX];simp only [hN] at HP HC ⊢
  have hz:((n:Int)==0)=false:=by simp;omega
  clear hX hN hL h hl hc hA hn0;go_enter Tryz.func25,Tryz.ntmps25;go_wp2_with fail
  go_loopw [5] (λ iv wr=>∃(m:Int),iv=.int .i64 m/\Hid (goF F L m=X)/\Hid (wr=w)) (λ iv _=>(intOf iv+1).toNat)
  case atStart=>exact ⟨n0,rfl,h_ HX.out.symm,h_ rfl⟩
  case round =>
   obtain ⟨m,rfl,HD,HWW⟩:=hrel;obtain rfl:wr=w:=HWW.out
   by_cases hm:m<0
   ·have hm':¬(0:Int)<=m:=by omega
    have hm'':decide ((0:Int)<=m)=false:=by simp;omega
    have HE:Hid (X=-1):=by
     show _=_;rw [<-HD.out];exact goF_neg hm
    have hmx:m<=-1:=by omega
    clear HD HP HX hm HC;go_wp2_with fail;go_ret;refine ⟨?_,rfl⟩;obtain rfl:=HE.out;show Ending.returned (.int .i64 (max m (-1)))=_;rw [Int.max_eq_right hmx]
   ·have hm':(0:Int)<=m:=by omega
    have HV:=h_ (HC.out m)
    obtain ⟨d,hd⟩:∃d,covF F m L=d:=⟨_,rfl⟩
    rw [hd] at HV
    cases d with
    |true =>
     have HE:Hid (X=m):=by
      show _=_;rw [<-HD.out];exact goF_yes hd
     clear HD HP HX hm hd HC;go_wp2_with fail;refine HV.out.mono ?_;rintro e w1 ⟨rfl,rfl⟩;go_wp2_with fail;go_ret;refine ⟨?_,rfl⟩;obtain rfl:=HE.out;show Ending.returned (.int .i64 (max X (-1)))=_;rw [Int.max_eq_left (by omega)]
    |false =>
     have HE:Hid (goF F L (parF F m)=X):=by
      show _=_;rw [<-HD.out];exact (goF_no hd).symm
     have HLT:Hid (parF F m<m):=by
      show _<_
      by_cases hp:parF F m<0
      ·omega
      ·exact (parF_lt (by omega)).1
     clear HD HX hm hd HC;go_wp2_with fail;refine HV.out.mono ?_;rintro e w1 ⟨rfl,rfl⟩;go_wp2_with fail;refine (HP.out m).mono ?_;rintro e w2 ⟨rfl,rfl⟩;go_wp2_with fail;exact ⟨⟨_,rfl,HE,h_ trivial⟩,by have:=HLT.out;simp [intOf];omega⟩
theorem fmeet_new (w:World) (g c:Nat) (F:List Spt) (ns:List Int) (h:SpR w g F) (hl:ns.length<=100) :
  Calls Tryz.prog 25 #[.slice (some ⟨g,0,none⟩) F.length c,.slice (some ⟨w.heap.size,0,none⟩) ns.length ns.length] (w.alloc (.cells (ns.map (Value.int .i64)).toArray 3)) λ e w'=>e=.returned (.int .i64 (meetF F ns))/\Below w.heap.size w w':=by
 have hb:Below w.heap.size w (w.alloc (.cells (ns.map (Value.int .i64)).toArray 3)):=(b_ _ w).alloc (n_ _) _;refine (fmeet_any _ g c F (some ⟨w.heap.size,0,none⟩) ns.length ns.length ns (h.below hb) rfl ⟨n_ _,by unfold maxLen;omega⟩ (λ i n hi=>⟨w.heap.size,0,rfl,by simp,?_⟩)).mono ?_
 ·rw [cell_of_row _ _ _ _ _ _ (heap_alloc_new w _),Nat.zero_add,t_,List.getElem?_map,hi];rfl
 ·rintro e w' ⟨rfl,rfl⟩;exact ⟨rfl,hb⟩
theorem isR_alloc {w:World} {base:Nat} {v:Value} {l:List Int} (h:IsR w base v l) (o:Obj):IsR (w.alloc o) base v l:=World.ownsRow.alloc h o
theorem kid_step {F:List Spt} {i:Nat} {s:Spt} (n:Int) (hs:F[i]?=some s):((List.range (i+1)).filter λ i=>decide (parA F i=n)).map (λ (i:Nat)=>(i:Int))=((List.range i).filter λ i=>decide (parA F i=n)).map (λ (i:Nat)=>(i:Int))++(if s.par=n then [(i:Int)] else []):=by
 rw [List.range_succ,List.filter_append,List.map_append]
 congr 1
 have e:parA F i=s.par:=by unfold parA;rw [hs]
 by_cases h:s.par=n
 ·rw [if_pos h,List.filter_cons,if_pos (by simpa [e] using h)];rfl
 ·rw [if_neg h,List.filter_cons,if_neg (by simpa [e] using h)];rfl
theorem fkids_any (w:World) (g c:Nat) (F:List Spt) (n:Int) (h:SpR w g F) (hF:F.length<=1000000) :
  Calls Tryz.prog 26 #[.slice (some ⟨g,0,none⟩) F.length c,.int .i64 n] w λ e w'=>∃v,e=.returned v/\IsR w' w.heap.size v (kidsF F n)/\Below w.heap.size w w':=by
 have HH:=h_ (fhas_any w (some ⟨g,0,none⟩) F.length c n);have HK:Hid (kidsF F n=if hasF F n=true then ((List.range F.length).filter λ i=>decide (parA F i=n)).map (λ (i:Nat)=>(i:Int)) else []):=rfl
 obtain ⟨X,hX⟩:∃X,kidsF F n=X:=⟨_,rfl⟩
 obtain ⟨q,hq⟩:∃q,hasF F n=q:=⟨_,rfl⟩
 have hq':(decide (0<=n)&&decide (n<(F.length:Int)))=q:=hq;rw [hX,hq] at HK;rw [hq'] at HH;rw [hX];have HSP:=h_ h;clear hX hq hq' h
 cases q with
 |false =>
  have HE:Hid (X=[]):=HK.out;clear HK HSP hF;go_enter Tryz.func26,Tryz.ntmps26;go_wp2_with fail;refine HH.out.mono ?_;rintro e w1 ⟨rfl,rfl⟩;go_wp2_with fail;go_ret;exact ⟨_,rfl,by obtain rfl:=HE.out;exact World.ownsRow_nil _ _ _ _,b_ _ _⟩
 |true =>
  obtain ⟨N,hN⟩:∃N,F.length=N:=⟨_,rfl⟩
  rw [hN] at HH HK hF ⊢;have HE:Hid (X=((List.range N).filter λ i=>decide (parA F i=n)).map (λ (i:Nat)=>(i:Int))):=HK.out;have HL:=h_ hN;have HF:=h_ hF
  have hF':(N:Int)<=1000000:=by omega
  clear HK hN hF;go_enter Tryz.func26,Tryz.ntmps26;go_wp2_with fail;refine HH.out.mono ?_;rintro e w1 ⟨rfl,rfl⟩;clear HH;go_wp2_with fail
  go_loopw [5,14] (λ v iv wr=>∃i:Nat,i<=N/\iv=.int .i64 (i:Int)/\Hid (IsR wr w1.heap.size v (((List.range i).filter λ i=>decide (parA F i=n)).map (λ (i:Nat)=>(i:Int))))/\Hid (Below w1.heap.size w1 wr)) (λ _ iv _=>N-(intOf iv).toNat)
  case atStart=>exact ⟨0,Nat.zero_le _,rfl,h_ (World.ownsRow_nil _ _ _ _),h_ (b_ _ _)⟩
  case round =>
   obtain ⟨i,hi,rfl,HR,HB⟩:=hrel
   by_cases him:i<N
   ·have HIM:=h_ him
    have him':(i:Int)<N:=by omega
    obtain ⟨s,hs⟩:∃s,F[i]?=some s:=⟨_,List.getElem?_eq_getElem (by rw [HL.out];exact him)⟩
    have HST:=h_ (kid_step n hs);have hsp:=HSP.out.below HB.out;have c0:=hsp.k i s hs
    obtain ⟨S,hS⟩:∃S:ByteArray,(⟨s.name.toArray⟩:ByteArray)=S:=⟨_,rfl⟩
    have c1:=hsp.n i s hs;rw [show txV s.name=.string S from by rw [<-hS];rfl] at c1;have c2:=hsp.p i s hs;have c3:=hsp.d i s hs;have c4:=hsp.f i s hs;obtain ⟨sk,sn,sp,sd,sf⟩:=s;simp only at c0 c1 c2 c3 c4 HST;clear hsp hs hS him hi
    obtain ⟨W1,hW1⟩:∃W,W=wr.alloc (.cells #[.int .i64 sk,.string S,.int .i64 sp,.int .i64 sd,.int .i64 sf] 51):=⟨_,rfl⟩
    obtain ⟨gv,hgv⟩:∃g,g=wr.heap.size:=⟨_,rfl⟩
    have HR1:=h_ (isR_alloc HR.out (.cells #[.int .i64 sk,.string S,.int .i64 sp,.int .i64 sd,.int .i64 sf] 51));rw [<-hW1] at HR1
    have HB1:Hid (Below w1.heap.size w1 W1):=by rw [hW1];exact HB.out.alloc HB.out.size _
    have HZ:Hid (W1.cell? ⟨gv,2,none⟩=some (.int .i64 sp)):=by
     show _=_;rw [hW1,hgv,cell_of_row _ _ _ _ _ _ (heap_alloc_new wr _)];rfl
    go_upto_region 7 with fail;rw [<-hW1,<-hgv];clear hW1 hgv c0 c1 c2 c3 c4 HR HB;have z2:=HZ.out
    have HD:Hid ((((List.range i).filter λ i=>decide (parA F i=n)).map (λ (i:Nat)=>(i:Int))).length<=1000000):=by
     show _<=_;rw [List.length_map];have h1:=List.length_filter_le (λ i=>decide (parA F i=n)) (List.range i);rw [List.length_range] at h1;have:=HIM.out;have:=HF.out;omega
    by_cases hpn:sp=n
    ·have HST2:Hid (((List.range (i+1)).filter λ i=>decide (parA F i=n)).map (λ (i:Nat)=>(i:Int))=((List.range i).filter λ i=>decide (parA F i=n)).map (λ (i:Nat)=>(i:Int))++[(i:Int)]):=by
      show _=_;rw [HST.out,if_pos hpn]
     have hb:(sp==n)=true:=by simp [hpn]
     clear HST hpn;generalize ((List.range i).filter λ i=>decide (parA F i=n)).map (λ (i:Nat)=>(i:Int))=D at HD HR1 HST2;go_upto_region 9 with (at_builtin;refine wpl_append_i9 rfl (.tmp 23) (.tmp 25) rfl w1.heap.size _ D rfl HR1.out (i:Int) rfl (by have:=HD.out;omega) HB1.out.size ?_);intro v' w2 hr2 hb2;have HR2:=h_ hr2;have HB2:Hid (Below w1.heap.size w1 w2):=HB1.out.trans hb2;clear hr2 hb2 HR1 HB1 HZ z2;go_wp2_with fail;refine ⟨⟨i+1,by have:=HIM.out;omega,rfl,?_,HB2⟩,by have h1:=HIM.out;simp [intOf];omega⟩;show IsR _ _ _ _;rw [HST2.out];exact HR2.out
    ·have HST2:Hid (((List.range (i+1)).filter λ i=>decide (parA F i=n)).map (λ (i:Nat)=>(i:Int))=((List.range i).filter λ i=>decide (parA F i=n)).map (λ (i:Nat)=>(i:Int))):=by
      show _=_;rw [HST.out,if_neg hpn,List.append_nil]
     have hb:(sp==n)=false:=by simp [hpn]
     clear HST hpn;go_wp2_with fail;refine ⟨⟨i+1,by have:=HIM.out;omega,rfl,?_,HB1⟩,by have h1:=HIM.out;simp [intOf];omega⟩;show IsR _ _ _ _;rw [HST2.out];exact HR1.out
   ·have him':¬(i:Int)<N:=by omega
    have HE2:Hid (((List.range i).filter λ i=>decide (parA F i=n)).map (λ (i:Nat)=>(i:Int))=X):=by
     show _=_;rw [HE.out,show i=N from by omega]
    rw [HE2.out] at HR;clear HE HE2 him hi;go_wp2_with fail;go_ret;exact ⟨_,rfl,HR.out,HB.out⟩
theorem strs_sl {w:World} {l:List (List UInt8)} {A:Option Addr} {c:Nat} (h:DxAt w (dvStrs l) (.slice A l.length c)):l.length<=c/\c<=maxLen/\StrAt w A (l.map λ s=>(⟨s.toArray⟩:ByteArray)):=by
 obtain ⟨A',c',hv,h1,h2,h3⟩:=strs_dx h;injection hv with e1 _ e2;subst e1 e2;exact ⟨h1,h2,h3⟩
theorem node_v {w:World} {k p:Int} {nm ini dft:List UInt8} {en le:List GA} {mo:List GM} {ks:List GN} {xs:List Value} (h:DxsAt w (gNode (.mk k nm ini dft en le mo ks p)) xs) :
  ∃(A1 A2 A3 A4:Option Addr) (c1 c2 c3 c4:Nat),xs=[.int .i64 k,txV nm,txV ini,txV dft,.slice A1 en.length c1,.slice A2 le.length c2,.slice A3 mo.length c3,.slice A4 ks.length c4,.int .i64 p] /\
   DxAt w (gActs en) (.slice A1 en.length c1)/\DxAt w (gActs le) (.slice A2 le.length c2)/\DxAt w (gMoves mo) (.slice A3 mo.length c3)/\DxAt w (gKids ks) (.slice A4 ks.length c4):=by
 have h':DxsAt w (gNode (.mk k nm ini dft en le mo ks p)++[]) xs:=by rw [List.append_nil];exact h
 obtain ⟨A1,A2,A3,A4,c1,c2,c3,c4,ys,rfl,h1,h2,h3,h4,h5⟩:=node_vals' h';unfold DxsAt at h5;subst h5;exact ⟨A1,A2,A3,A4,c1,c2,c3,c4,rfl,h1,h2,h3,h4⟩
def spC (s:Spt):List Value:=[.int .i64 s.kind,txV s.name,.int .i64 s.par,.int .i64 s.dep,.int .i64 s.fin]
def SpO (w:World) (base:Nat) (v:Value) (L:List Spt):Prop:=w.ownsRow base 51 5 v L.length (L.flatMap spC)
theorem spC_get {L:List Spt} {i j:Nat} {s:Spt} (h:L[i]?=some s) (hj:j<5):(L.flatMap spC)[i*5+j]?=(spC s)[j]?:=by
 induction L generalizing i with
 |nil=>simp at h
 |cons x l ih =>
  have hx:(spC x).length=5:=rfl;rw [List.flatMap_cons]
  cases i with
  |zero =>
   rw [z_,j_] at h;subst h;rw [Nat.zero_mul,Nat.zero_add,List.getElem?_append_left (by omega)]
  |succ i =>
   rw [s_] at h;rw [List.getElem?_append_right (by omega),hx,show (i+1)*5+j-5=i*5+j from by omega];exact ih h
theorem SpO.row {w:World} {base:Nat} {v:Value} {L:List Spt} (h:SpO w base v L) (hn:L≠[]):∃g c cur,v=.slice (some ⟨g,0,none⟩) L.length c/\L.length<=c/\c<=maxLen/\base<=g/\w.heap[g]?=some (.cells cur 51 (0,0))/\cur.size=c*5/\SpR w g L:=by
 rcases h.2 with ⟨rfl,h2⟩|⟨g,cap,cur,rfl,hb,hg,h1,hm,hs,ht⟩
 ·exact absurd (List.eq_nil_of_length_eq_zero h2) hn
 ·refine ⟨g,cap,cur,rfl,h1,hm,hb,hg,hs,?_⟩
  have key:∀(i:Nat) (s:Spt) (j:Nat),L[i]?=some s->j<5->w.cell? ⟨g,i*5+j,none⟩=(spC s)[j]?:=λ i s j hi hj=>by
   rw [<-spC_get hi hj,cell_of_row w g _ _ _ _ hg,<-Array.getElem?_toList,<-ht,List.getElem?_take,if_pos];have:=(List.getElem?_eq_some_iff.1 hi).1;omega
  have hM:maxLen<=9223372036854775807:=by decide
  exact ⟨(Array.getElem?_eq_some_iff.1 hg).1,by omega,λ i s hi=>key i s 0 hi (by omega),λ i s hi=>key i s 1 hi (by omega),λ i s hi=>key i s 2 hi (by omega),λ i s hi=>key i s 3 hi (by omega),λ i s hi=>key i s 4 hi (by omega)⟩
structure TS (w0 w:World) (b:Nat) (L:List Spt) (v:Value):Prop where
 c:CB w b 85 [v]
 r:SpO w w0.heap.size v L
 ne:v.ownBlock≠some b
 bl:Below w0.heap.size w0 w
 lb:w0.heap.size<=b
theorem TS.below {w0 w w':World} {b:Nat} {L:List Spt} {v:Value} (h:TS w0 w b L v) (hb:Below w.heap.size w w'):TS w0 w' b L v :=
 ⟨h.c.below hb,ownsRow_below h.r hb,h.ne,h.bl.trans (hb.mono h.bl.size),h.lb⟩
theorem TS.slice {w0 w:World} {b:Nat} {L:List Spt} {v:Value} (h:TS w0 w b L v):∃A c,v=.slice A L.length c/\L.length<=c/\c<=maxLen:=by
 rcases h.r.2 with ⟨rfl,h2⟩|⟨g,cap,cur,rfl,hb,hg,h1,hm,hs,ht⟩
 ·exact ⟨none,0,by rw [h2],by omega,by decide⟩
 ·exact ⟨_,cap,rfl,h1,hm⟩
theorem infoSpt:(Tryz.prog.info? 51).map (λ i=>(i.zero,i.size,i.bytes))=some (some (.agg #[.int .i64 0,.string ⟨#[]⟩,.int .i64 0,.int .i64 0,.int .i64 0]),5,48):=by kernel_rfl
structure TA (w0 w w':World) (b:Nat) (L:List Spt) (v v':Value):Prop where
 c:CB w' b 85 [v]
 r:SpO w' w0.heap.size v' L
 ne:v'.ownBlock≠some b
 bl:Below w0.heap.size w0 w'
 ch:Ch (λ k=>v.ownBlock=some k) w w'
theorem TA.slice {w0 w w':World} {b:Nat} {L:List Spt} {v v':Value} (h:TA w0 w w' b L v v'):∃A m c,v'=.slice A m c:=by
 rcases h.r.2 with ⟨rfl,_⟩|⟨g,cap,cur,rfl,_⟩
 ·exact ⟨none,0,0,rfl⟩
 ·exact ⟨_,_,cap,rfl⟩
theorem TS.app {w0 w:World} {b:Nat} {L:List Spt} {v:Value} (h:TS w0 w b L v) (ty:TypeId) (s:Spt) (hn:L.length<=1000000) :
  ∃v' w',(Builtin.append_ #[83,83] ty #[v,.slice (some ⟨w.heap.size,0,none⟩) 1 1]).run Tryz.prog (w.alloc (.cells #[.int .i64 s.kind,txV s.name,.int .i64 s.par,.int .i64 s.dep,.int .i64 s.fin] 51))=.ok v' w'/\TA w0 w w' b (L++[s]) v v':=by
 obtain ⟨i0,hi,hz0,hz1,hz2⟩:=info_parts infoSpt;have hcb:=CB.new w 51 (spC s);have hlt:=h.c.lt
 obtain ⟨v',w',h1,h2,h3,h4,h5⟩:=run_append_own_at (P:=Tryz.prog) (w:=w.alloc (.cells (spC s).toArray 51)) w0.heap.size 83 ty 51 i0 _ 5 48 Tryz.underlying83 hi hz0 hz1 hz2 rfl (by decide) v L.length _ (World.ownsRow.alloc h.r _) ⟨w.heap.size,0,none⟩ 1 1 (spC s) rfl (λ j u hu=>by
   rw [Addr.add_lit,Nat.zero_add]
   exact hcb.c j hu) (λ u hu=>by simp [spC] at hu;rcases hu with rfl|rfl|rfl|rfl|rfl <;> rfl) (by unfold maxLen;omega) (by omega) (by have:=h.bl.size;simp;omega)
 have hch:Ch (λ k=>v.ownBlock=some k) (w.alloc (.cells (spC s).toArray 51)) w':=Ch.of_grown h3 (λ k hk=>hk);have hal:Ch (λ k=>v.ownBlock=some k) w (w.alloc (.cells (spC s).toArray 51)):=(Ch.refl _ w).alloc _;have hall:=hal.trans hch;refine ⟨v',w',h1,h.c.ch hall (λ e=>h.ne e),?_,λ e=>?_,?_,hall⟩
 ·unfold SpO;rw [List.flatMap_append,List.length_append];simpa using h2
 ·rcases h5 with h5|h5
  ·exact h.ne (h5.symm.trans e)
  ·rw [h5] at e;injection e with e;simp at e;omega
 ·refine h.bl.trans ?_;exact ⟨hall.os,hall.tape,hall.output,hall.size,λ k hk=>hall.block k (by have:=h.bl.size;omega) (λ e=>by have:=(World.ownsRow.lt h.r k e).1;omega)⟩
theorem TA.put {w0 w w':World} {b:Nat} {L:List Spt} {v v':Value} (h:TA w0 w w' b L v v') (lb:w0.heap.size<=b):TS w0 (w'.setCell ⟨b,0,none⟩ v') b L v':=by
 refine ⟨h.c.set 0 v',?_,h.ne,?_,lb⟩
 ·refine ownsRow_same h.r (λ g hg=>?_);exact Below.heap_setCell w' ⟨b,0,none⟩ v' g (λ e=>h.ne (by rw [Option.mem_toList] at hg;rw [hg];exact congrArg some e))
 ·exact h.bl.setCell lb _
def depA (L:List Spt) (p:Int):Int:=if p<0 then 0 else match L[p.toNat]? with|some s=>s.dep+1|none=>0
theorem own_some {A:Option Addr} {n c g:Nat} (h:Value.ownBlock (.slice A n c)=some g):A=some ⟨g,(A.getD ⟨0,0,none⟩).off,(A.getD ⟨0,0,none⟩).spot⟩:=by
 cases A with
 |none=>cases h
 |some a =>
  have h':some a.block=some g:=h;cases h';rfl
theorem cell_al {w:World} {a:Addr} {v:Value} (o:Obj) (h:w.cell? a=some v):(w.alloc o).cell? a=some v:=by
 rw [World.cell?_of_block (Below.heap_alloc w o _ (World.block_lt_of_cell? w a h))];exact h
theorem fopen_any (w0 w:World) (b:Nat) (L:List Spt) (v:Value) (k q:Int) (N0 I0 D0:ByteArray) (A1 A2 A3 A4:Option Addr) (n1 n2 n3 n4 c1 c2 c3 c4:Nat) (par:Int) (h:TS w0 w b L v) (hN:N0.size<=140737488351232) (hL:L.length<=1000000)
  (hp:par=-1∨∃(p:Nat) (s:Spt),par=(p:Int)/\L[p]?=some s/\-1<=s.dep/\s.dep<=1000000) :
  Calls Tryz.prog 69 #[.pointer (some ⟨b,0,none⟩),.agg #[.int .i64 k,.string N0,.string I0,.string D0,.slice A1 n1 c1,.slice A2 n2 c2,.slice A3 n3 c3,.slice A4 n4 c4,.int .i64 q],.int .i64 par] w λ e w' =>
   e=.returned (.int .i64 (L.length:Int))/\∃v',TS w0 w' b (L++[⟨k,N0.data.toList,par,depA L par,0⟩]) v'/\Ch (λ g=>g=b∨v.ownBlock=some g) w w':=by
 obtain ⟨W1,hW1⟩:∃W,W=w.alloc (.cells #[.int .i64 k,.string N0,.string I0,.string D0,.slice A1 n1 c1,.slice A2 n2 c2,.slice A3 n3 c3,.slice A4 n4 c4,.int .i64 q] 27):=⟨_,rfl⟩
 obtain ⟨g1,hg1⟩:∃g,g=w.heap.size:=⟨_,rfl⟩
 have hal:Below w.heap.size w W1:=by rw [hW1];exact (b_ _ w).alloc (n_ _) _
 have HB1:Hid (CB W1 g1 27 [.int .i64 k,.string N0,.string I0,.string D0,.slice A1 n1 c1,.slice A2 n2 c2,.slice A3 n3 c3,.slice A4 n4 c4,.int .i64 q]):=by rw [hW1,hg1];exact CB.new w _ [.int .i64 k,.string N0,.string I0,.string D0,.slice A1 n1 c1,.slice A2 n2 c2,.slice A3 n3 c3,.slice A4 n4 c4,.int .i64 q]
 have HT:=h_ (h.below hal);have HAL:=h_ hal;have HLB:=h_ h.lb;obtain ⟨A,c,hv,hc1,hc2⟩:=h.slice
 have HOP:Hid (∀(W:World) (D:Int) (ty:TypeId),Below W1.heap.size W1 W->∃v' w',(Builtin.append_ #[83,83] ty #[.slice A L.length c,.slice (some ⟨W.heap.size,0,none⟩) 1 1]).run Tryz.prog (W.alloc (.cells #[.int .i64 k,.string N0,.int .i64 par,.int .i64 D,.int .i64 0] 51))=.ok v' w'/\TA w0 W w' b (L++[⟨k,N0.data.toList,par,D,0⟩]) (.slice A L.length c) v'):=λ W D ty hb=>by
  have h1:=((HT.out.below hb).app ty ⟨k,N0.data.toList,par,D,0⟩ hL)
  rw [hv] at h1;simp only [txV_data] at h1;exact h1
 have HCL:=h_ (λ (W:World)=>clone_any N0 W hN)
 have HDP:Hid (0<=par->∃(g p:Nat) (s:Spt),A=some ⟨g,0,none⟩/\par=(p:Int)/\p<L.length/\W1.cell? ⟨g,p*5+3,none⟩=some (.int .i64 s.dep)/\depA L par=s.dep+1/\-1<=s.dep/\s.dep<=1000000):=λ h0=>by
  rcases hp with rfl|⟨p,s,rfl,hs,h1,h2⟩
  ·exact absurd h0 (by decide)
  ·have hlt:=(List.getElem?_eq_some_iff.1 hs).1;obtain ⟨g,c',cur,hv',_,_,_,_,_,hr⟩:=HT.out.r.row (by intro e;rw [e] at hlt;cases hlt);rw [hv] at hv';injection hv' with hv';refine ⟨g,p,s,hv',rfl,hlt,hr.d p s hs,?_,h1,h2⟩;unfold depA;rw [if_neg (by omega),show ((p:Int)).toNat=p from by omega,hs]
 have HAG:Hid (∀g o sp,A=some ⟨g,o,sp⟩->g≠g1):=λ g o sp e=>by
  have:=(World.ownsRow.lt h.r g (by rw [hv,e];rfl)).2;omega
 have HDN:Hid (par<0->depA L par=0):=λ h0=>by unfold depA;rw [if_pos h0]
 have HVB:Hid (v=.slice A L.length c):=hv
 have HGB:Hid (g1≠b):=by have:=h.c.lt;rw [hg1];exact λ e=>by omega
 subst hv
 obtain ⟨D,hD⟩:∃D,depA L par=D:=⟨_,rfl⟩
 rw [hD] at HDP HDN ⊢
 have hlm:(L.length:Int)<=1000000:=by omega
 obtain ⟨n,hn⟩:∃n,L.length=n:=⟨_,rfl⟩
 have HNL:Hid (L.length=n):=hn;clear hal h hN hL hp hD hc1 hc2 hn
 have HYC:Hid (∀W:World,Below W1.heap.size W1 W->W.cell? ⟨b,0,none⟩=some (.slice A n c)):=λ W hb=>by
  rw [<-HNL.out];exact (HT.out.c.below hb).c 0 rfl
 have y0:=HYC.out W1 (b_ _ W1);rw [HNL.out] at hlm;have HOD:=h_ (λ (W:World) (ty:TypeId) (hb:Below W1.heap.size W1 W)=>HOP.out W D ty hb);have HGG:Hid (∀g o sp,A=some ⟨g,o,sp⟩->g≠g1):=λ g o sp e=>HAG.out g o sp e;clear HOP;rw [HNL.out] at HOD HDP ⊢;go_enter Tryz.func69,Tryz.ntmps69;go_upto_region 1 with fail;rw [<-hW1,<-hg1];clear hW1 hg1;go_upto_if 14 with fail
 go_cut [8] from 8 to 22 (λ s8 wc=>s8=.int .i64 D/\Hid (wc=W1))
 case first =>
  by_cases h0:0<=par
  ·obtain ⟨g,p,s,rfl,rfl,hpl,hcell,hdep,hd1,hd2⟩:=HDP.out h0
   have hpl':(p:Int)<(n:Int):=by omega
   obtain rfl:=hdep;clear HDP HDN HOD;go_wp2_with fail
   go_meet
   exact ⟨rfl,h_ rfl⟩
  ·obtain rfl:=HDN.out (by omega);clear HDP HDN HOD;go_wp2_with fail
   go_meet
   exact ⟨rfl,h_ rfl⟩
 case rest =>
 obtain ⟨rfl,HWC⟩:=hcut;obtain rfl:=HWC.out
 have HCd:Hid (Calls Tryz.prog 107 #[.string N0] wc.drew λ e w'=>e=.returned (.string N0)/\(w'.cell? ⟨b,0,none⟩=some (.slice A n c)/\w'.cell? ⟨g1,0,none⟩=some (.int .i64 k)/\w'.cell? ⟨g1,1,none⟩=some (.string N0))/\Hid (Below wc.heap.size wc w')):=by
  refine (HCL.out wc.drew).mono ?_;rintro e w' ⟨rfl,hb⟩;have hb':Below wc.heap.size wc w':=((b_ _ wc).drew).trans hb;exact ⟨rfl,⟨HYC.out w' hb',(HB1.out.below hb').c 0 rfl,(HB1.out.below hb').c 1 rfl⟩,hb'⟩
 have z0:=HB1.out.c 0 rfl;have z1:=HB1.out.c 1 rfl;clear HCL HYC HT HDP HDN hlm;go_upto_region 4 with fail
 go_region_law (first|(have HAPP:=HOD.out w5 83 HB5.out;refine step_app rfl (.tmp 26) (.tmp 35) 83 rfl (.slice A n c) (.slice (some ⟨w5.heap.size,0,none⟩) 1 1) rfl rfl HAPP ?_;intro v6 w6 hta;obtain ⟨A6,m6,c6,rfl⟩:=hta.slice;have HTA:=h_ hta;have k6:=hta.c.c 0 rfl;have f6:=hta.c.fr 0;have k61:=((HB1.out.below HB5.out).ch hta.ch (λ e=>HGG.out _ _ _ (own_some e) rfl)).c 0 rfl;have k62:=((HB1.out.below HB5.out).ch hta.ch (λ e=>HGG.out _ _ _ (own_some e) rfl)).c 1 rfl;clear hta HAPP)|(go_simp;go_at_call 107;refine HCd.out.mono ?_;rintro e w5 ⟨rfl,⟨y5,z50,z51⟩,HB5⟩;have y5n:=λ ob=>cell_al ob y5;have z5n:=λ ob=>cell_al ob z50))
 all_goals
  go_wp2_with fail;go_ret;exact ⟨rfl,⟨_,HTA.out.put HLB.out⟩,((Ch.of_below (HAL.out.trans (HB5.out.mono HAL.out.size))).trans (HTA.out.ch.mono (λ _ _ h=>.inr h))).set (.inl (.inl rfl)) 0 _⟩
def setFin (L:List Spt) (a:Nat):List Spt:=match L[a]? with|some s=>L.set a ⟨s.kind,s.name,s.par,s.dep,(L.length:Int)⟩|none=>L
theorem setFin_app (L M:List Spt) (s:Spt):setFin (L++s::M) L.length=L++⟨s.kind,s.name,s.par,s.dep,((L.length+1+M.length:Nat):Int)⟩::M:=by
 unfold setFin;rw [List.getElem?_append_right (n_ _),Nat.sub_self,z_];simp only;rw [List.set_append_right _ _ (n_ _),Nat.sub_self,v_,List.length_append,List.length_cons]
 congr 3
 omega
theorem spC_set (L:List Spt) (a:Nat) (s:Spt) (f:Int) (h:L[a]?=some s):(L.set a ⟨s.kind,s.name,s.par,s.dep,f⟩).flatMap spC=(L.flatMap spC).set (a*5+4) (.int .i64 f):=by
 induction L generalizing a with
 |nil=>simp at h
 |cons x l ih =>
  have hx:(spC x).length=5:=rfl
  cases a with
  |zero =>
   rw [z_,j_] at h;subst h;rw [v_,List.flatMap_cons,List.flatMap_cons,List.set_append_left _ _ (by omega)];rfl
  |succ a =>
   rw [s_] at h;rw [k_,List.flatMap_cons,List.flatMap_cons,ih a h,List.set_append_right _ _ (by omega),hx]
   congr 2
   omega
theorem fclose_any (w0 w:World) (b:Nat) (L:List Spt) (v:Value) (a:Nat) (h:TS w0 w b L v) (ha:a<L.length) (hL:L.length<=1000000) :
  Calls Tryz.prog 70 #[v,.int .i64 (a:Int)] w λ e w'=>e=.returned (.tuple #[])/\TS w0 w' b (setFin L a) v:=by
 have hne:L≠[]:=by intro e;rw [e] at ha;cases ha
 obtain ⟨g,c,cur,rfl,h1,h2,h3,hg,hsz,hr⟩:=h.r.row hne;have hs:=List.getElem?_eq_getElem ha
 obtain ⟨s,hs'⟩:∃s,L[a]=s:=⟨_,rfl⟩
 rw [hs'] at hs
 have HE:Hid (TS w0 (w.setCell ⟨g,a*5+4,none⟩ (.int .i64 (L.length:Int))) b (setFin L a) (.slice (some ⟨g,0,none⟩) L.length c)):=by
  have hgb:g≠b:=λ e=>h.ne (by rw [e];rfl);refine ⟨h.c.other (λ e=>hgb e.symm) _ _,?_,h.ne,h.bl.setCell h3 _,h.lb⟩
  have hset:setFin L a=L.set a ⟨s.kind,s.name,s.par,s.dep,(L.length:Int)⟩:=by unfold setFin;rw [hs]
  have hl:(setFin L a).length=L.length:=by rw [hset,List.length_set]
  unfold SpO;rw [hl,hset,spC_set L a s _ hs];have hown:=h.r;refine ⟨by rw [List.length_set];exact hown.1,.inr ⟨g,c,cur.setIfInBounds (a*5+4) (.int .i64 (L.length:Int)),rfl,h3,?_,h1,h2,by simpa using hsz,?_⟩⟩
  ·exact heap_setCell_same w g _ _ _ _ hg
  ·rcases hown.2 with ⟨e,_⟩|⟨g',cap',cur',e,_,hg',_,_,_,ht⟩
   ·cases e
   ·injection e with e1 e2 e3;injection e1 with e1;injection e1 with e1;subst e1;rw [hg] at hg';injection hg' with hg';injection hg' with hg';subst hg';rw [Array.toList_setIfInBounds,List.take_set,ht]
 obtain ⟨C,hC⟩:∃C:Value,w.cell? ⟨g,a*5+4,none⟩=some C:=⟨_,hr.f a s hs⟩
 have hfr:w.frozen? ⟨g,a*5+4,none⟩=false:=by simp [World.frozen?,hg]
 have hlm:(L.length:Int)<=1000000:=by omega
 obtain ⟨n,hn⟩:∃n,L.length=n:=⟨_,rfl⟩
 rw [hn] at ha hlm HE ⊢
 have ha':(a:Int)<(n:Int):=by omega
 clear h hs hs' hr hg hsz hne h1 h2 h3 hL hn;go_enter Tryz.func70,Tryz.ntmps70;go_wp2_with fail;go_end0;exact ⟨rfl,HE.out⟩
end Go.Proofs.YtpgeidpfhakgaaaGreatDoor
