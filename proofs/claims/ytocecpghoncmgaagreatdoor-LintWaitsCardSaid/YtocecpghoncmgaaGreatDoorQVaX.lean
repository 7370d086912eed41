import Derived.Test.YtocecpghoncmgaaGreatDoorQh
import Derived.Test.YtocecpghoncmgaaGreatDoorQXA
import Derived.Laws.AppendOwn
import Derived.Laws.OwnMore
import Derived.RegionTactic
import Derived.Lib.ItoaNum
import Derived.Below
import Derived.Deep.RegionHeld3
set_option maxHeartbeats 12800000
set_option maxRecDepth 20000
namespace Go.Proofs.YtocecpghoncmgaaGreatDoor
open Go.RowKit
def tokR (m:List UInt8):Value:=.tuple #[if tkE m=0 then tkV (tkT m 0) else tkV noTk,.int .i64 (if tkE m=0 then (tkS m:Int) else 0),.int .i64 (tkE m)]
theorem tokR_nil:tokR []=.tuple #[tkV ⟨5,[],0,0⟩,.int .i64 0,.int .i64 0]:=rfl
theorem tokR_word {c:UInt8} {r:List UInt8} (h:isLt c=true):tokR (c::r)=wordR (c::r):=by
 have e:wsz (c::r)=wdK (c::r):=by rw [wsz_cons,if_pos h]
 rw [tokR,wordR,tkE_cons,tkS_cons,tkT_cons,e,if_pos h,if_pos h,if_pos h]
 by_cases hl:24<wdK (c::r)
 ·simp only [if_pos hl];rfl
 ·simp only [if_neg hl,if_true]
theorem tokR_int {c:UInt8} {r:List UInt8} (h1:isLt c=false) (h:isDg c=true):tokR (c::r)=intR (c::r):=by
 rw [tokR,intR,tkE_cons,tkS_cons,tkT_cons,h1,h]
 by_cases hE:pE (c::r)=0
 ·by_cases hl:dgK (c::r)<wdK (c::r)
  ·simp [hE,hl]
  ·simp [hE,hl]
 ·simp [hE]
theorem tokR_sign {c:UInt8} {r:List UInt8} (h1:isLt c=false) (h:isDg c=false):tokR (c::r)=signR (c::r):=by
 rw [tokR,signR,tkE_cons,tkS_cons,tkT_cons,h1,h]
 by_cases hl:sgn (c::r)=0
 ·simp [hl]
 ·simp [hl]
theorem tokR_form (m:List UInt8):∃t:Tk,tokR m=.tuple #[.agg #[.int .i64 t.kind,txV t.text,.int .i64 t.num,.int .i64 t.at_],.int .i64 (if tkE m=0 then (tkS m:Int) else 0),.int .i64 (tkE m)]/\t=if tkE m=0 then tkT m 0 else noTk:=by
 refine ⟨_,?_,rfl⟩;rw [tokR]
 by_cases h:tkE m=0
 ·rw [if_pos h,if_pos h,if_pos h];rfl
 ·rw [if_neg h,if_neg h,if_neg h];rfl
theorem drop_cons (s:ByteArray) (p:Nat) (h:p<s.size):s.data.toList.drop p=s[p]::s.data.toList.drop (p+1):=by
 rw [<-get_list s p h,List.getElem_cons_drop]
theorem token_any (w:World) (b p:Nat) (s:ByteArray) (h:Scn w b p s) (hp:p<=s.size) (hs:s.size<=140737488351232) (hK:KwAt w) (hE:ErrAt w) :
  Calls Tryz.prog 165 #[.pointer (some ⟨b,0,none⟩)] w λ e w'=>e=.returned (tokR (s.data.toList.drop p))/\Below w.heap.size w w':=by
 have HS:=h_ h;have HKW:=h_ hK;have HER:=h_ hE
 obtain ⟨r,hr⟩:∃r,s.extract p s.size=r:=⟨_,rfl⟩
 have hrs:r.size<=140737488351232:=by rw [<-hr,ByteArray.size_extract];omega
 have HR:=h_ (λ W (h:Scn W b p s)=>rest_any W b p s h hp);have HX:=h_ (extract_drop s p);rw [hr] at HR HX;have HSG:=h_ (λ W (h:Scn W b p s)=>sign_any W b p s h hp hs);have HWO:=h_ (λ W hK=>word_any W r hrs hK);have HIN:=h_ (λ W hE=>integer_any W r hrs hE)
 obtain ⟨m,hm⟩:∃m,s.data.toList.drop p=m:=⟨_,rfl⟩
 rw [hm] at HX HSG ⊢;have hrl:r.data.toList=m:=HX.out;rw [hrl] at HWO HIN
 have HML:Hid (m.length=r.size):=by
  show _=_;rw [<-hrl];rfl
 have HRL:=h_ hrl;clear h hK hE hr hm hrl HX;go_enter Tryz.func165,Tryz.ntmps165;go_wp2_with fail
 obtain ⟨W0,hW0⟩:∃W0,W0=w.alloc (.cells #[.int .i64 0,.string ⟨#[]⟩,.int .i64 0,.int .i64 0] 131):=⟨_,rfl⟩
 rw [<-hW0]
 have HT0:Hid (TkB W0 w.heap.size (.int .i64 0) (.string ⟨#[]⟩) (.int .i64 0) (.int .i64 0)):=by rw [hW0];exact TkB.new _ _ _ _ _
 have HS0:Hid (Scn W0 b p s):=by rw [hW0];exact HS.out.alloc _
 have HB0:Hid (Below w.heap.size w W0):=by rw [hW0];exact (b_ _ w).alloc (n_ _) _
 clear hW0;refine (HR.out W0 HS0.out).mono ?_;rintro e w1 ⟨rfl,n,rfl⟩;have HT1:Hid (TkB (W0.drewN n) w.heap.size (.int .i64 0) (.string ⟨#[]⟩) (.int .i64 0) (.int .i64 0)):=HT0.out;have HS1:Hid (Scn (W0.drewN n) b p s):=HS0.out;have HB1:Hid (Below w.heap.size w (W0.drewN n)):=HB0.out.trans ((drewN_below W0 n).mono HB0.out.size)
 obtain ⟨W1,hW1⟩:∃W1,W1=W0.drewN n:=⟨_,rfl⟩
 rw [<-hW1] at HT1 HS1 HB1 ⊢;clear hW1 HT0 HS0 HB0
 cases hl:r.toList.isEmpty with
 |true =>
  have hm:m=[]:=by
   rw [Lib.toList_data,HRL.out] at hl;simpa using hl
  have HR0:Hid (tokR m=.tuple #[tkV ⟨5,[],0,0⟩,.int .i64 0,.int .i64 0]):=by show _=_;rw [hm];exact tokR_nil
  clear hm;have c0:=HT1.out.c0;have c1:=HT1.out.c1;have c2:=HT1.out.c2;have c3:=HT1.out.c3;have f0:=HT1.out.fr 0;have f1:=HT1.out.fr 1;have f2:=HT1.out.fr 2;have f3:=HT1.out.fr 3;go_wp2_with fail;refine bodyPost_ret (TkB.res3 rfl _ rfl (HT1.out.all _ _ _ _)) rfl ?_;refine ⟨?_,below_all HB1.out (n_ _) _ _ _ _⟩;rw [HR0.out];rfl
 |false =>
  have hpos:0<r.size:=by
   rcases Nat.eq_zero_or_pos r.size with h0|h0
   ·rw [Lib.toList_data,List.eq_nil_of_length_eq_zero (l:=r.data.toList) h0] at hl;cases hl
   ·exact h0
  have hpos':(0:Int)<r.size:=by omega
  have hcons:=drop_cons r 0 hpos;rw [List.drop_zero,HRL.out] at hcons;obtain ⟨t,ht,ht2⟩:=tokR_form m
  obtain ⟨k,hk⟩:∃k,(if tkE m=0 then (tkS m:Int) else 0)=k:=⟨_,rfl⟩
  obtain ⟨c,hc⟩:∃c,tkE m=c:=⟨_,rfl⟩
  obtain ⟨X,hX⟩:∃X,txV t.text=.string X:=⟨_,rfl⟩
  rw [hk,hc,hX] at ht;clear ht2 hk hc hX;have HTF:=h_ ht;have HLE:=h_ (λ W=>letter_any r[0] W);have HDI:=h_ (λ W=>digit_any r[0] W)
  obtain ⟨d1,hd1⟩:∃d,isLt r[0]=d:=⟨_,rfl⟩
  obtain ⟨d2,hd2⟩:∃d,isDg r[0]=d:=⟨_,rfl⟩
  rw [hd1] at HLE;rw [hd2] at HDI;cases d1
  ·cases d2
   ·have e:tokR m=signR m:=by rw [hcons];exact tokR_sign hd1 hd2
    rw [<-e,ht] at HSG;clear hd1 hd2 hcons ht e;go_wp2_with fail;refine (HLE.out W1).mono ?_;rintro e w2 ⟨rfl,rfl⟩;go_wp2_with fail;refine (HDI.out W1).mono ?_;rintro e w2 ⟨rfl,rfl⟩;go_wp2_with fail;refine (HSG.out W1 HS1.out).mono ?_;rintro e w2 ⟨rfl,hb⟩;have HT2:=h_ (HT1.out.below hb);have HB2:Hid (Below w.heap.size w w2):=HB1.out.trans (hb.mono HB1.out.size);clear hb;have c0:=HT2.out.c0;have c1:=HT2.out.c1;have c2:=HT2.out.c2;have c3:=HT2.out.c3;have f0:=HT2.out.fr 0;have f1:=HT2.out.fr 1;have f2:=HT2.out.fr 2;have f3:=HT2.out.fr 3;go_wp2_with fail;refine bodyPost_ret (TkB.res3 rfl _ rfl (HT2.out.all _ _ _ _)) rfl ?_;refine ⟨?_,below_all HB2.out (n_ _) _ _ _ _⟩;rw [HTF.out];rfl
   ·have e:tokR m=intR m:=by rw [hcons];exact tokR_int hd1 hd2
    rw [<-e,ht] at HIN;clear hd1 hd2 hcons ht e;go_wp2_with fail;refine (HLE.out W1).mono ?_;rintro e w2 ⟨rfl,rfl⟩;go_wp2_with fail;refine (HDI.out W1).mono ?_;rintro e w2 ⟨rfl,rfl⟩;go_wp2_with fail;refine (HIN.out W1 (errAt_below HER.out HB1.out)).mono ?_;rintro e w2 ⟨rfl,hb⟩;have HT2:=h_ (HT1.out.below hb);have HB2:Hid (Below w.heap.size w w2):=HB1.out.trans (hb.mono HB1.out.size);clear hb;have c0:=HT2.out.c0;have c1:=HT2.out.c1;have c2:=HT2.out.c2;have c3:=HT2.out.c3;have f0:=HT2.out.fr 0;have f1:=HT2.out.fr 1;have f2:=HT2.out.fr 2;have f3:=HT2.out.fr 3;go_wp2_with fail;refine bodyPost_ret (TkB.res3 rfl _ rfl (HT2.out.all _ _ _ _)) rfl ?_;refine ⟨?_,below_all HB2.out (n_ _) _ _ _ _⟩;rw [HTF.out];rfl
  ·have e:tokR m=wordR m:=by rw [hcons];exact tokR_word hd1
   rw [<-e,ht] at HWO;clear hd1 hd2 hcons ht e;go_wp2_with fail;refine (HLE.out W1).mono ?_;rintro e w2 ⟨rfl,rfl⟩;go_wp2_with fail;refine (HWO.out W1 (HKW.out.below HB1.out)).mono ?_;rintro e w2 ⟨rfl,hb⟩;have HT2:=h_ (HT1.out.below hb);have HB2:Hid (Below w.heap.size w w2):=HB1.out.trans (hb.mono HB1.out.size);clear hb;have c0:=HT2.out.c0;have c1:=HT2.out.c1;have c2:=HT2.out.c2;have c3:=HT2.out.c3;have f0:=HT2.out.fr 0;have f1:=HT2.out.fr 1;have f2:=HT2.out.fr 2;have f3:=HT2.out.fr 3;go_wp2_with fail;refine bodyPost_ret (TkB.res3 rfl _ rfl (HT2.out.all _ _ _ _)) rfl ?_;refine ⟨?_,below_all HB2.out (n_ _) _ _ _ _⟩;rw [HTF.out];rfl
theorem tkT_at (m:List UInt8) (p:Int):tkT m p=⟨(tkT m 0).kind,(tkT m 0).text,(tkT m 0).num,p⟩:=by
 cases m with
 |nil=>rfl
 |cons c r =>
  rw [tkT_cons,tkT_cons]
  split
  ·rfl
  ·split <;> rfl
theorem KwAt.mv {w w':World} {g:Nat} (h:KwAt w) (hb:Mv g w w') (hn:0≠g):KwAt w':=by
 obtain ⟨t,fr,h⟩:=h;refine ⟨t,fr,?_⟩;rw [hb.block ?_ hn]
 ·exact h
 ·rcases Nat.lt_or_ge 0 w.heap.size with h'|h'
  ·exact h'
  ·rw [Array.getElem?_eq_none h'] at h;cases h
theorem ErrAt.lt {w:World} (h:ErrAt w):7<w.heap.size:=by
 obtain ⟨tp,p,hc⟩:=h;exact World.block_lt_of_cell? w _ hc
theorem KwAt.lt {w:World} (h:KwAt w):0<w.heap.size:=by
 obtain ⟨t,fr,h⟩:=h;rcases Nat.lt_or_ge 0 w.heap.size with h'|h'
 ·exact h'
 ·rw [Array.getElem?_eq_none h'] at h;cases h
theorem ErrAt.mv {w w':World} {g:Nat} (h:ErrAt w) (hb:Mv g w w') (hn:7≠g):ErrAt w':=by
 have hl:=h.lt;obtain ⟨tp,p,hc⟩:=h;exact ⟨tp,p,by rw [World.cell?_of_block (w:=w) (hb.block hl hn)];exact hc⟩
def takeR (m:List UInt8) (q:Nat):Value:=.tuple #[if tkE m=0 then tkV (tkT m q) else tkV noTk,.int .i64 (tkE m)]
def nextP (m:List UInt8) (q:Nat):Nat:=if tkE m=0 then q+tkS m else q
theorem Mv.put {b:Nat} {u w:World} (h:Mv b u w) (i:Nat) (g:Nat) (hg:u.heap.size<=g) (v:Value):Mv b u (w.setCell ⟨g,i,none⟩ v) :=
 ⟨h.os,h.tape,h.output,by simpa [World.setCell] using h.size,λ k hk hne=>(Below.heap_setCell _ _ _ _ (λ e=>by
  have e:k=g:=e
  omega)).trans (World.grownBy.block h k hk hne)⟩
theorem take_any (w:World) (b p:Nat) (s:ByteArray) (h:Scn w b p s) (hp:p<=s.size) (hs:s.size<=140737488351232) (hK:KwAt w) (hE:ErrAt w) (hbk:0≠b) (hbe:7≠b)
  (q:Nat) (hq:q=p+blK false (s.data.toList.drop p)) (m:List UInt8) (hm:m=s.data.toList.drop q) :
  Calls Tryz.prog 107 #[.pointer (some ⟨b,0,none⟩)] w λ e w'=>e=.returned (takeR m q)/\Scn w' b (nextP m q) s/\Mv b w w':=by
 have hqs:q<=s.size:=by
  have:=blK_le false (s.data.toList.drop p);have e:s.data.toList.length=s.size:=rfl;rw [List.length_drop,e] at this;omega
 have hts:q+tkS m<=s.size:=by
  have:=tkS_le m;have e:s.data.toList.length=s.size:=rfl;rw [hm,List.length_drop,e,<-hm] at this;omega
 have HS:=h_ h;have HKW:=h_ hK;have HER:=h_ hE;have HNE:=h_ (And.intro hbk hbe);have HSK:=h_ (λ W (h:Scn W b p s)=>skip_any W b p s h hp hs);have HTK:=h_ (λ W (h:Scn W b q s) hK hE=>token_any W b q s h hqs hs hK hE);have HAD:=h_ (λ W (h:Scn W b q s)=>adv_any W b q (tkS m) s h (by omega));obtain ⟨t,ht,ht2⟩:=tokR_form m
 obtain ⟨X,hX⟩:∃X,txV t.text=.string X:=⟨_,rfl⟩
 have HX:=h_ hX;have HT2:=h_ ht2;rw [<-hq] at HSK;rw [<-hm,ht,hX] at HTK;have hbl:=h.lt;clear h hK hE hbk hbe hq hm ht ht2 hX;go_enter Tryz.func107,Tryz.ntmps107;go_wp2_with fail
 obtain ⟨g1,hg1⟩:∃g1,g1=w.heap.size:=⟨_,rfl⟩
 obtain ⟨W0,hW0⟩:∃W0,W0=w.alloc (.cells #[.int .i64 0,.string ⟨#[]⟩,.int .i64 0,.int .i64 0] 131):=⟨_,rfl⟩
 rw [<-hW0,<-hg1]
 have HT0:Hid (TkB W0 g1 (.int .i64 0) (.string ⟨#[]⟩) (.int .i64 0) (.int .i64 0)):=by rw [hW0,hg1];exact TkB.new _ _ _ _ _
 have HS0:Hid (Scn W0 b p s):=by rw [hW0];exact HS.out.alloc _
 have HB0:Hid (Below w.heap.size w W0):=by rw [hW0];exact (b_ _ w).alloc (n_ _) _
 have hg:w.heap.size<=g1:=by omega
 have hg1b:g1≠b:=by omega
 clear hW0 hg1;refine (HSK.out W0 HS0.out).mono ?_;rintro e w1 ⟨rfl,hs1,hm1⟩;have HT1:=h_ (HT0.out.mv hm1 hg1b);have HS1:=h_ hs1;have HM1:Hid (Mv b w w1):=(Mv.of b HB0.out).trans hm1;clear hs1 hm1;have HK1:=h_ (HKW.out.mv HM1.out HNE.out.1);have HE1:=h_ (ErrAt.mv HER.out HM1.out HNE.out.2);go_wp2_with fail;refine (HTK.out w1 HS1.out HK1.out HE1.out).mono ?_;rintro e w2 ⟨rfl,hb⟩;have HT2':=h_ (HT1.out.below hb);have HS2:=h_ (HS1.out.below hb);have HM2:Hid (Mv b w w2):=HM1.out.trans (Mv.of b hb);clear hb
 obtain ⟨c,hc⟩:∃c,tkE m=c:=⟨_,rfl⟩
 have HC:=h_ hc
 obtain ⟨k,hk⟩:∃k,(if tkE m=0 then (tkS m:Int) else 0)=k:=⟨_,rfl⟩
 rw [hk,hc];have HKK:=h_ hk;clear hc hk
 obtain ⟨W3,hW3⟩:∃W3,W3=w2.alloc (.cells #[.int .i64 t.kind,.string X,.int .i64 t.num,.int .i64 t.at_] 131):=⟨_,rfl⟩
 obtain ⟨g2,hg2⟩:∃g2,g2=w2.heap.size:=⟨_,rfl⟩
 have HT3:Hid (TkB W3 g2 (.int .i64 t.kind) (.string X) (.int .i64 t.num) (.int .i64 t.at_)):=by rw [hW3,hg2];exact TkB.new _ _ _ _ _
 have HT4:Hid (TkB W3 g1 (.int .i64 0) (.string ⟨#[]⟩) (.int .i64 0) (.int .i64 0)):=by rw [hW3];exact HT2'.out.alloc _
 have HS3:Hid (Scn W3 b q s):=by rw [hW3];exact HS2.out.alloc _
 have HM3:Hid (Mv b w W3):=by rw [hW3];exact HM2.out.trans (Mv.of b ((b_ _ w2).alloc (n_ _) _))
 have hne:¬g1=g2:=by have:=HT2'.out.lt;omega
 have hne2:¬g2=g1:=λ e=>hne e.symm
 have hgb:¬g2=b:=by have:=HS2.out.lt;omega
 have hgw:w.heap.size<=g2:=by have:=HT2'.out.lt;omega
 go_upto_region 3 with fail;rw [<-hW3,<-hg2];clear hW3 hg2 HT2' HT1 HT0 HS1 HS0 HB0 HS2 HM1 HM2 HK1 HE1 HSK HTK;have c0:=HT4.out.c0;have c1:=HT4.out.c1;have c2:=HT4.out.c2;have c3:=HT4.out.c3;have f0:=HT4.out.fr 0;have f1:=HT4.out.fr 1;have f2:=HT4.out.fr 2;have f3:=HT4.out.fr 3
 by_cases hc0:c=0
 ·subst hc0
  have HKT:Hid (k=(tkS m:Int)):=by rw [<-HKK.out,if_pos HC.out];rfl
  have HTT:Hid (t=tkT m 0):=by rw [HT2.out,if_pos HC.out];rfl
  obtain rfl:k=(tkS m:Int):=HKT.out;have d0:=HT3.out.c0;have d1:=HT3.out.c1;have d2:=HT3.out.c2;have d3:=HT3.out.c3;have e3:=HT3.out.fr 3;have s0:=HS3.out.c0;have HS4:Hid (Scn (W3.setCell ⟨g2,3,none⟩ (.int .i64 (q:Int))) b q s):=(Below.heap_setCell W3 ⟨g2,3,none⟩ _ b (λ e=>hgb e.symm)).trans HS3.out;have HA4:=h_ (HAD.out _ HS4.out);go_wp2_with fail;refine HA4.out.mono ?_;rintro e w5 ⟨rfl,hs5,hm5⟩;have HS5:=h_ hs5;have HM4:Hid (Mv b w (W3.setCell ⟨g2,3,none⟩ (.int .i64 (q:Int)))):=HM3.out.put 3 g2 hgw _;have HM5:Hid (Mv b w w5):=HM4.out.trans hm5;have HT5:Hid (TkB w5 g2 (.int .i64 t.kind) (.string X) (.int .i64 t.num) (.int .i64 (q:Int))):=(HT3.out.set3 _).mv hm5 hgb;have HT6:Hid (TkB w5 g1 (.int .i64 0) (.string ⟨#[]⟩) (.int .i64 0) (.int .i64 0)):=(show TkB _ g1 _ _ _ _ from (Below.heap_setCell W3 ⟨g2,3,none⟩ _ g1 hne).trans HT4.out).mv hm5 hg1b;clear hs5 hm5 c0 c1 c2 c3 f0 f1 f2 f3 d0 d1 d2 d3 e3 s0;have c0:=HT6.out.c0;have c1:=HT6.out.c1;have c2:=HT6.out.c2;have c3:=HT6.out.c3;have f0:=HT6.out.fr 0;have f1:=HT6.out.fr 1;have f2:=HT6.out.fr 2;have f3:=HT6.out.fr 3;have d0:=HT5.out.c0;have d1:=HT5.out.c1;have d2:=HT5.out.c2;have d3:=HT5.out.c3;go_wp2_with fail;refine bodyPost_ret (TkB.res2 rfl _ rfl (HT6.out.all _ _ _ _)) rfl ?_;refine ⟨?_,?_,(((HM5.out.put 0 g1 hg _).put 1 g1 hg _).put 2 g1 hg _).put 3 g1 hg _⟩
  ·rw [takeR,HC.out,if_pos rfl,tkT_at,<-HTT.out,tkV,HX.out];rfl
  ·rw [nextP,if_pos HC.out]
   refine ((((Below.heap_setCell _ ⟨g1,3,none⟩ _ b ?_).trans (Below.heap_setCell _ ⟨g1,2,none⟩ _ b ?_)).trans (Below.heap_setCell _ ⟨g1,1,none⟩ _ b ?_)).trans (Below.heap_setCell _ ⟨g1,0,none⟩ _ b ?_)).trans HS5.out <;> exact λ e=>hg1b e.symm
 ·have hc1:(c==0)=false:=by simpa using hc0
  have HC0:=h_ hc0;clear hc0;go_wp2_with fail;refine bodyPost_ret (TkB.res2 rfl _ rfl (HT4.out.all _ _ _ _)) rfl ?_;refine ⟨?_,?_,(((HM3.out.put 0 g1 hg _).put 1 g1 hg _).put 2 g1 hg _).put 3 g1 hg _⟩
  ·rw [takeR,HC.out,if_neg HC0.out];rfl
  ·rw [nextP,HC.out,if_neg HC0.out]
   refine ((((Below.heap_setCell _ ⟨g1,3,none⟩ _ b ?_).trans (Below.heap_setCell _ ⟨g1,2,none⟩ _ b ?_)).trans (Below.heap_setCell _ ⟨g1,1,none⟩ _ b ?_)).trans (Below.heap_setCell _ ⟨g1,0,none⟩ _ b ?_)).trans HS3.out <;> exact λ e=>hg1b e.symm
def tkC (t:Tk):List Value:=[.int .i64 t.kind,txV t.text,.int .i64 t.num,.int .i64 t.at_]
def tkCs (xs:List Tk):List Value:=xs.flatMap tkC
theorem tkCs_snoc (xs:List Tk) (t:Tk):tkCs (xs++[t])=tkCs xs++tkC t:=by simp [tkCs]
def TkRow (w:World) (B:Nat) (v:Value) (xs:List Tk):Prop:=w.ownsRow B 131 4 v xs.length (tkCs xs)
theorem TkRow.nil (w:World) (B:Nat):TkRow w B (.slice none 0 0) []:=World.ownsRow_nil _ _ _ _
section
variable {w w':World} {B:Nat} {v:Value} {xs:List Tk}
theorem TkRow.grown {row:Option Nat} (h:TkRow w B v xs) (hg:w.grownBy w' row) (hne:v.ownBlock=none∨v.ownBlock≠row):TkRow w' B v xs:=World.ownsRow.kept h hg hne
theorem TkRow.alloc (h:TkRow w B v xs) (o:Obj):TkRow (w.alloc o) B v xs:=World.ownsRow.alloc h o
theorem TkRow.lt (h:TkRow w B v xs):∀k,v.ownBlock=some k->B<=k/\k<w.heap.size:=World.ownsRow.lt h
theorem TkRow.ne (h:TkRow w B v xs) {g:Nat} {cs:Array Value} {t:TypeId} {fr:Nat×Nat} (hg:w.heap[g]?=some (.cells cs t fr)) (hne:t≠131):v.ownBlock≠some g:=by
 rcases h.2 with ⟨rfl,_⟩|⟨g',cap,cur,rfl,_,hh,_⟩
 ·simp [Value.ownBlock]
 ·intro he
  have:g'=g:=by simpa [Value.ownBlock] using he
  subst this;rw [hh] at hg;injection hg with hg;injection hg with _ ht _;exact hne ht.symm
theorem TkRow.mv {b:Nat} (h:TkRow w B v xs) (hm:Mv b w w') {cs:Array Value} {t:TypeId} {fr:Nat×Nat} (hg:w.heap[b]?=some (.cells cs t fr)) (hne:t≠131):TkRow w' B v xs:=h.grown hm (.inr (h.ne hg hne))
end
theorem infoT:(Tryz.prog.info? 131).map (λ i=>(i.zero,i.size,i.bytes))=some (some (.agg #[.int .i64 0,.string ⟨#[]⟩,.int .i64 0,.int .i64 0]),4,40):=by kernel_rfl
theorem wpl_append_tk {w:World} {ops:Array Oper} {rest:List Oper} {o:Oper} {a:Act} {Q:Exit->Act->World->Prop} (hgd:o.guard=none) (s x:Operand)
  (ho:o.op=.call { callee:=.builtin .append,args:=#[s,x],argTypes:=#[116,116] })
  (base:Nat) (v:Value) (xs:List Tk) (hs:a.eval s=v) (hown:TkRow w base v xs) (t:Tk) (X:ByteArray) (hX:txV t.text=.string X)
  (hx:a.eval x=.slice (some ⟨w.heap.size,0,none⟩) 1 1) (hn:xs.length<=1000000000) (hbase:base<=w.heap.size)
  (h:∀v' w',TkRow w' base v' (xs++[t])->(w.alloc (.cells #[.int .i64 t.kind,.string X,.int .i64 t.num,.int .i64 t.at_] 131)).grownBy w' v.ownBlock->wpList Tryz.prog ops Q rest (a.put o.dst v') w') :
  wpList Tryz.prog ops Q (o::rest) a (w.alloc (.cells #[.int .i64 t.kind,.string X,.int .i64 t.num,.int .i64 t.at_] 131)):=by
 obtain ⟨i0,hi,hz0,hz1,hz2⟩:=info_parts infoT;refine wpList_append_own _ hgd s x 116 ho base 131 i0 (.agg #[.int .i64 0,.string ⟨#[]⟩,.int .i64 0,.int .i64 0]) 4 40 Tryz.underlying116 hi hz0 hz1 hz2 rfl (by decide) v xs.length (tkCs xs) hs (World.ownsRow.alloc hown _) ⟨w.heap.size,0,none⟩ 1 1 (tkC t) hx rfl ?_ ?_ (by unfold maxLen;omega) (by omega) (by simp;omega) ?_
 ·intro j y hy;rw [Addr.add_mid,Nat.zero_add,cell_of_row _ _ _ _ _ _ (heap_alloc_new w _)];rw [<-hy,tkC,hX];simp
 ·intro y hy;simp only [tkC,List.mem_cons,List.not_mem_nil,or_false] at hy
  rcases hy with rfl|rfl|rfl|rfl <;> rfl
 ·intro v' w' h1 h2 _;refine h v' w' ?_ h2;unfold TkRow;rw [tkCs_snoc,List.length_append];exact h1
def FtB (w:World) (g:Nat) (x0 x1:Value):Prop:=w.heap[g]?=some (.cells #[x0,x1] 34 (0,0))
section
variable {w w':World} {g:Nat} {x0 x1:Value}
theorem FtB.lt (h:FtB w g x0 x1):g<w.heap.size:=by
 rcases Nat.lt_or_ge g w.heap.size with hlt|hge
 ·exact hlt
 ·unfold FtB at h;rw [Array.getElem?_eq_none hge] at h;cases h
theorem FtB.c0 (h:FtB w g x0 x1):w.cell? ⟨g,0,none⟩=some x0:=cell_of_row w g 0 _ _ _ h
theorem FtB.c1 (h:FtB w g x0 x1):w.cell? ⟨g,1,none⟩=some x1:=cell_of_row w g 1 _ _ _ h
theorem FtB.fr (h:FtB w g x0 x1) (i:Nat):w.frozen? ⟨g,i,none⟩=false:=by
 unfold FtB at h;simp [World.frozen?,h]
theorem FtB.below (h:FtB w g x0 x1) (hb:Below w.heap.size w w'):FtB w' g x0 x1:=(hb.block g h.lt).trans h
theorem FtB.alloc (h:FtB w g x0 x1) (o:Obj):FtB (w.alloc o) g x0 x1:=(Below.heap_alloc w o g h.lt).trans h
theorem FtB.grown {row:Option Nat} (h:FtB w g x0 x1) (hb:w.grownBy w' row) (hn:some g≠row):FtB w' g x0 x1:=(hb.block g h.lt hn).trans h
theorem FtB.new (w:World) (x0 x1:Value):FtB (w.alloc (.cells #[x0,x1] 34)) w.heap.size x0 x1:=heap_alloc_new w _
theorem FtB.all (h:FtB w g x0 x1) (y0 y1:Value):FtB ((w.setCell ⟨g,0,none⟩ y0).setCell ⟨g,1,none⟩ y1) g y0 y1:=heap_setCell_same (w.setCell ⟨g,0,none⟩ y0) g 1 _ _ y1 (heap_setCell_same w g 0 _ _ y0 h)
theorem FtB.load (h:FtB w g x0 x1):(loadVar 34 ⟨g,0,none⟩).run Tryz.prog w=.ok (.agg #[x0,x1]) w :=
 run_loadVar_row w g _ _ _ _ _ h Tryz.underlying34 rfl (by kernel_rfl)
theorem FtB.res {fn:Func} {p t:Tmp} (hr:fn.results=#[.tmp t,.cell p 34]) (tmps:Array Value) (hp:tmps.getD p undef=.pointer (some ⟨g,0,none⟩)) (h:FtB w g x0 x1) :
  (results fn tmps).run Tryz.prog w=.ok (.tuple #[tmps.getD t undef,.agg #[x0,x1]]) w:=by
 have hp':tmps[p]?.getD undef=.pointer (some ⟨g,0,none⟩):=by simpa using hp
 simp [results,hr,hp',asAddr,h.load]
end
theorem below_two {B g:Nat} {u w:World} (h:Below B u w) (hB:B<=g) (y0 y1:Value):Below B u ((w.setCell ⟨g,0,none⟩ y0).setCell ⟨g,1,none⟩ y1) :=
 (h.setCell (p:=⟨g,0,none⟩) hB y0).setCell (p:=⟨g,1,none⟩) hB y1
theorem takeR_form (m:List UInt8) (q:Nat):∃t:Tk,takeR m q=.tuple #[.agg #[.int .i64 t.kind,txV t.text,.int .i64 t.num,.int .i64 t.at_],.int .i64 (tkE m)]/\t=if tkE m=0 then tkT m q else noTk:=by
 refine ⟨_,?_,rfl⟩;rw [takeR]
 by_cases h:tkE m=0
 ·rw [if_pos h,if_pos h];rfl
 ·rw [if_neg h,if_neg h];rfl
theorem tkT_kind {m:List UInt8} (h:m≠[]) (q:Int):(tkT m q).kind≠5:=by
 cases m with
 |nil=>exact absurd rfl h
 |cons c r =>
  rw [tkT_cons]
  split
  ·show (if _ then (2:Int) else 1)≠5
   split <;> decide
  ·split
   ·exact (by decide:(3:Int)≠5)
   ·exact (by decide:(4:Int)≠5)
theorem tkS_pos' {m:List UInt8} (h0:m≠[]) (h:tkE m=0):0<tkS m:=by
 cases m with
 |nil=>exact absurd rfl h0
 |cons c r=>exact tkS_pos h
theorem tokens_any (w:World) (s:ByteArray) (hK:KwAt w) (hE:ErrAt w) :
  Calls Tryz.prog 59 #[.string s] w λ e w'=>∃v,e=.returned (.tuple #[v,.agg #[.int .i64 (scF s.data.toList).2.1,.int .i64 (scF s.data.toList).2.2]])/\TkRow w' w.heap.size v (scF s.data.toList).1/\Below w.heap.size w w':=by
 have hlen:s.data.toList.length=s.size:=rfl;have HKW:=h_ hK;have HER:=h_ hE
 obtain ⟨R,hR⟩:∃R,scF s.data.toList=R:=⟨_,rfl⟩
 rw [hR];have HR:=h_ hR;clear hK hE hR
 obtain ⟨g0,hg0⟩:∃g0,g0=w.heap.size:=⟨_,rfl⟩
 obtain ⟨W0,hW0⟩:∃W0,W0=w.alloc (.cells #[.int .i64 0,.int .i64 0] 34):=⟨_,rfl⟩
 have HF0:Hid (FtB W0 g0 (.int .i64 0) (.int .i64 0)):=by rw [hW0,hg0];exact FtB.new _ _ _
 have HB0:Hid (Below w.heap.size w W0):=by rw [hW0];exact (b_ _ w).alloc (n_ _) _
 have hgw:w.heap.size<=g0:=by omega
 by_cases hl:16384<s.size
 ·have hl':(16384:Int)<s.size:=by omega
  have HRR:Hid (R=([],2,-1)):=by
   show _=_;rw [<-HR.out,scF,if_pos (by rw [hlen];exact hl)]
  clear hlen HR;go_enter Tryz.func59,Tryz.ntmps59;go_upto_region 1 with fail;rw [<-hW0,<-hg0];clear hW0 hg0;have c0:=HF0.out.c0;have c1:=HF0.out.c1;have f0:=HF0.out.fr 0;have f1:=HF0.out.fr 1;go_wp2_with fail;refine bodyPost_ret (FtB.res rfl _ rfl (HF0.out.all _ _)) rfl ?_;refine ⟨.slice none 0 0,?_,?_,below_two HB0.out hgw _ _⟩
  ·rw [HRR.out];rfl
  ·rw [HRR.out];exact TkRow.nil _ _
 ·have hl':¬(16384:Int)<s.size:=by omega
  have HRR:Hid (scA (s.size+1) 0 [] s.data.toList=R):=by
   show _=_;rw [<-HR.out,scF,if_neg (by rw [hlen];exact hl),hlen]
  clear HR;go_enter Tryz.func59,Tryz.ntmps59;go_upto_region 1 with fail;rw [<-hW0,<-hg0];clear hW0;go_upto_region 4 with fail
  obtain ⟨b,hb⟩:∃b,b=W0.heap.size:=⟨_,rfl⟩
  obtain ⟨W1,hW1⟩:∃W1,W1=W0.alloc (.cells #[.int .i64 0,.string s] 173):=⟨_,rfl⟩
  rw [<-hW1,<-hb]
  have HS1:Hid (Scn W1 b 0 s):=by rw [hW1,hb];exact heap_alloc_new W0 _
  have HF1:Hid (FtB W1 g0 (.int .i64 0) (.int .i64 0)):=by rw [hW1];exact HF0.out.alloc _
  have HB1:Hid (Below w.heap.size w W1):=by rw [hW1];exact HB0.out.alloc HB0.out.size _
  have hbw:w.heap.size<=b:=by have:=HF0.out.lt;omega
  have hbg:¬g0=b:=by have:=HF0.out.lt;omega
  have HNE:Hid (0≠b/\7≠b):=⟨by have:=HKW.out.lt;omega,by have:=ErrAt.lt HER.out;omega⟩
  clear hW1 hb hg0 HF0 HB0;go_wp2_with fail
  go_loopw [5] (λ lv wr=>∃(p f:Nat) (xs:List Tk),p<=s.size/\xs.length<=p/\Hid (Scn wr b p s)/\Hid (TkRow wr w.heap.size lv xs)/\Hid (FtB wr g0 (.int .i64 0) (.int .i64 0))/\Hid (scA f p xs (s.data.toList.drop p)=R)/\Hid ((s.data.toList.drop p).length<f)/\Hid (Below w.heap.size w wr)) (λ _ wr=>s.size-posOf wr b)
  case atStart=>exact ⟨0,s.size+1,[],Nat.zero_le _,Nat.zero_le _,HS1,TkRow.nil _ _,HF1,by rw [List.drop_zero];exact HRR,by show _<_;rw [List.drop_zero,hlen];omega,HB1⟩
  case round =>
   obtain ⟨p,f,xs,hp,hxp,HS,HT,HF,HA,HL,HB⟩:=hrel
   obtain ⟨q,hq⟩:∃q,q=p+blK false (s.data.toList.drop p):=⟨_,rfl⟩
   obtain ⟨m,hm⟩:∃m,m=s.data.toList.drop q:=⟨_,rfl⟩
   have hqs:q<=s.size:=by
    have:=blK_le false (s.data.toList.drop p);rw [List.length_drop,hlen] at this;omega
   have hpq:p<=q:=by omega
   have hts:q+tkS m<=s.size:=by
    have:=tkS_le m;rw [hm,List.length_drop,hlen,<-hm] at this;omega
   have HTAKE:=h_ (take_any wr b p s HS.out hp (by omega) (HKW.out.below HB.out) (errAt_below HER.out HB.out) HNE.out.1 HNE.out.2 q hq m hm)
   have hdm:Hid ((s.data.toList.drop p).drop (blK false (s.data.toList.drop p))=m):=by
    show _=_;rw [List.drop_drop,hm,hq]
   have HMQ:=h_ hm;have HQ:=h_ hq;clear hm hq
   obtain ⟨f,rfl⟩:∃f',f=f' + 1:=⟨f-1,by have:=HL.out;omega⟩
   obtain ⟨t,ht,ht2⟩:=takeR_form m q
   obtain ⟨X,hX⟩:∃X,txV t.text=.string X:=⟨_,rfl⟩
   have HX:=h_ hX;rw [ht,hX] at HTAKE;have HTT:=h_ ht2;clear ht ht2 hX;go_wp2_with fail;refine HTAKE.out.mono ?_;rintro e w1 ⟨rfl,hs1,hm1⟩;have HS2:=h_ hs1;have HM1:=h_ hm1;have HT2:=h_ (HT.out.mv hm1 HS.out (by decide));have HF2:=h_ (HF.out.grown hm1 (by simpa using hbg));have HB2:=h_ (hm1.belowB HB.out hbw HB.out.size);clear hs1 hm1 HTAKE
   obtain ⟨W2,hW2⟩:∃W2,W2=w1.alloc (.cells #[.int .i64 t.kind,.string X,.int .i64 t.num,.int .i64 t.at_] 131):=⟨_,rfl⟩
   obtain ⟨g6,hg6⟩:∃g6,g6=w1.heap.size:=⟨_,rfl⟩
   have HG6:Hid (TkB W2 g6 (.int .i64 t.kind) (.string X) (.int .i64 t.num) (.int .i64 t.at_)):=by rw [hW2,hg6];exact TkB.new _ _ _ _ _
   have HS3:Hid (Scn W2 b (nextP m q) s):=by rw [hW2];exact HS2.out.alloc _
   have HT3:Hid (TkRow W2 w.heap.size u5 xs):=by rw [hW2];exact HT2.out.alloc _
   have HF3:Hid (FtB W2 g0 (.int .i64 0) (.int .i64 0)):=by rw [hW2];exact HF2.out.alloc _
   have HB3:Hid (Below w.heap.size w W2):=by rw [hW2];exact HB2.out.alloc HB2.out.size _
   obtain ⟨c,hc⟩:∃c,tkE m=c:=⟨_,rfl⟩
   rw [hc];go_upto_region 6 with fail;rw [<-hW2,<-hg6]
   have HG6n:Hid (some g6≠u5.ownBlock):=by
    intro e;have:=(HT2.out.lt g6 e.symm).2;omega
   have HG0n:Hid (some g0≠u5.ownBlock):=λ e=>HT3.out.ne HF3.out (by decide) e.symm;have HGBn:Hid (some b≠u5.ownBlock):=λ e=>HT3.out.ne HS3.out (by decide) e.symm;clear hW2 hg6
   by_cases hc0:c=0
   ·subst hc0
    have HN:Hid (nextP m q=q+tkS m):=by show _=_;rw [nextP,hc,if_pos rfl]
    have HTM:Hid (t=tkT m q):=by show _=_;rw [HTT.out,hc,if_pos rfl]
    have HCC:=h_ hc;have d0:=HG6.out.c0;have d1:=HG6.out.c1;have d2:=HG6.out.c2;have d3:=HG6.out.c3;clear hc;go_wp2_with (at_builtin;refine wpl_append_tk rfl (.tmp 25) (.tmp 27) rfl w.heap.size _ xs rfl HT3.out t X HX.out rfl (by omega) HB3.out.size ?_);intro v' w3 hrow hgr;have HR3:=h_ hrow;have hgr2:W2.grownBy w3 u5.ownBlock:=(World.grownBy_alloc W2 _ _).trans hgr
    have HG6':=(HG6.out:TkB _ _ _ _ _ _)
    have e0:w3.cell? ⟨g6,0,none⟩=some (.int .i64 t.kind):=by rw [World.cell?_of_block (w:=W2) (hgr2.block g6 HG6'.lt HG6n.out)];exact d0
    have HS4:Hid (Scn w3 b (q+tkS m) s):=by
     rw [<-HN.out];exact (hgr2.block b HS3.out.lt HGBn.out).trans HS3.out
    have HF4:=h_ (HF3.out.grown hgr2 HG0n.out);have HB4:Hid (Below w.heap.size w w3):=HB3.out.grown hgr2 HB3.out.size (λ k hk=>(HT3.out.lt k hk).1);clear hrow hgr hgr2 HG6' d0 d1 d2 d3
    by_cases hm0:m=[]
    ·have hk:(t.kind==5)=true:=by rw [HTM.out,hm0];rfl
     have HRR2:Hid (R=(xs++[t],0,0)):=by
      show _=_;rw [<-HA.out,scA_end (by rw [hdm.out];exact hm0),HTM.out,hm0,<-HQ.out];rfl
     have c0:=HF4.out.c0;have c1:=HF4.out.c1;have f0:=HF4.out.fr 0;have f1:=HF4.out.fr 1;clear hm0;go_wp2_with fail;refine bodyPost_ret (FtB.res rfl _ rfl (HF4.out.all _ _)) rfl ?_;refine ⟨v',?_,?_,below_two HB4.out hgw _ _⟩
     ·rw [HRR2.out];rfl
     ·rw [HRR2.out];exact HR3.out.grown (((Mv.refl g0 w3).set 0 _).set 1 _) (.inr (HR3.out.ne HF4.out (by decide)))
    ·have hk:(t.kind==5)=false:=by rw [HTM.out,beq_eq_false_iff_ne];exact tkT_kind hm0 q
     have hpos:0<tkS m:=tkS_pos' hm0 HCC.out
     have HA4:Hid (scA f (q+tkS m) (xs++[t]) (s.data.toList.drop (q+tkS m))=R):=by
      show _=_;rw [<-HA.out,scA_step hdm.out hm0 HCC.out,HTM.out,<-HQ.out,HMQ.out,List.drop_drop]
     have HL4:Hid ((s.data.toList.drop (q+tkS m)).length<f):=by
      show _<_;have:=HL.out;rw [List.length_drop,hlen] at this ⊢;omega
     have hxs:(xs++[t]).length<=q+tkS m:=by rw [List.length_append];simp;omega
     clear hm0;go_wp2_with fail
     go_roundw
     case rel=>exact ⟨q+tkS m,f,xs++[t],hts,hxs,HS4,HR3,HF4,HA4,HL4,HB4⟩
     case measure =>
      rw [HS4.out.pos,HS.out.pos];omega
   ·have hc1:(c==0)=false:=by simpa using hc0
    have HRR2:Hid (R=([],c,(q:Int))):=by
     show _=_;rw [<-HA.out,scA_bad hdm.out (λ e=>hc0 (by rw [<-hc,e];rfl)) (by rw [hc];exact hc0),hc,HQ.out]
    have HN:Hid (nextP m q=q):=by show _=_;rw [nextP,hc,if_neg hc0]
    have s0:=HS3.out.c0;rw [HN.out] at s0;have c0:=HF3.out.c0;have c1:=HF3.out.c1;have f0:=HF3.out.fr 0;have f1:=HF3.out.fr 1;clear hc hc0;go_wp2_with fail
    go_region
    all_goals
     go_wp2_with fail;refine bodyPost_ret (FtB.res rfl _ rfl (HF3.out.all _ _)) rfl ?_;refine ⟨.slice none 0 0,?_,?_,(below_two HB3.out hgw _ _).drew⟩
     ·rw [HRR2.out];rfl
     ·rw [HRR2.out];exact TkRow.nil _ _
theorem scA_skip (f p:Nat) (acc:List Tk) (l:List UInt8):scA (f+1) p acc l=scA (f+1) (p+blK false l) acc (l.drop (blK false l)):=by
 have h:=blK_rest false l;rw [scA,scA];simp only [h,List.drop_zero,Nat.add_zero]
theorem tkS_pos2 {m:List UInt8} (h0:m≠[]) (h:tkE m=0):0<tkS m:=by
 cases m with
 |nil=>exact absurd rfl h0
 |cons c r=>exact tkS_pos h
theorem wdK_all {l:List UInt8} (h:∀c∈l,isWd c=true):wdK l=l.length:=by
 induction l with
 |nil=>rfl
 |cons c r ih =>
  unfold wdK;rw [if_pos (h c (by simp)),ih (λ x hx=>h x (by simp [hx]))];rfl
theorem scA_pre:∀(f p:Nat) (acc:List Tk) (l:List UInt8),l.length<f->(scA f p acc l).2.1=0->∃rest,(scA f p acc l).1=acc++rest
 |0,_,_,_,h,_=>by omega
 |f+1,p,acc,l,h,h0=>by
  by_cases hm:l.drop (blK false l)=[]
  ·rw [scA_end hm];exact ⟨_,rfl⟩
  ·by_cases he:tkE (l.drop (blK false l))=0
   ·rw [scA_step rfl hm he] at h0 ⊢;have hp:=tkS_pos2 hm he;have hs:=tkS_le (l.drop (blK false l));rw [List.length_drop] at hs;obtain ⟨rest,hr⟩:=scA_pre f _ _ _ (by rw [List.length_drop,List.length_drop];omega) h0;exact ⟨_,by rw [hr,a_]⟩
   ·rw [scA_bad rfl hm he] at h0;exact absurd h0 he
theorem isNm_parts {l:List UInt8} (h:isNm l=true):∃c r,l=c::r/\isLt c=true/\wdK l=l.length/\l.length<=24/\isKw l=false:=by
 simp only [isNm,Bool.and_eq_true,Bool.not_eq_true',decide_eq_true_eq] at h;obtain ⟨⟨⟨h0,h1⟩,h2⟩,h3⟩:=h
 match l,h0,h1,h2,h3 with
 |c::r,_,h1,h2,h3 =>
  rw [wsz_cons] at h2
  split at h2
  ·rename_i hc;exact ⟨c,r,rfl,hc,h2,h1,h3⟩
  ·simp at h2
theorem isNm_of {c:UInt8} {r:List UInt8} (hc:isLt c=true) (h1:wdK (c::r)=(c::r).length) (h2:(c::r).length<=24) (h3:isKw (c::r)=false):isNm (c::r)=true:=by
 simp only [isNm,Bool.and_eq_true,Bool.not_eq_true',decide_eq_true_eq];exact ⟨⟨⟨rfl,h2⟩,by rw [wsz_cons,if_pos hc];exact h1⟩,h3⟩
theorem blK_app:∀(b:Bool) (l t:List UInt8),(blK b l=l.length->blK b (l++10::t)=l.length+(blK false t+1))/\(blK b l<l.length->blK b (l++10::t)=blK b l)
 |true,[],t=>⟨λ _=>by simp [blK],λ h=>by simp at h⟩
 |false,[],t=>⟨λ _=>by simp [blK,isBl],λ h=>by simp at h⟩
 |true,c::r,t=>by
  have h1:=blK_app true r t;have h2:=blK_app false r t
  by_cases hc:c=10
  ·have e1:blK true (c::r)=blK false r+1:=by simp only [blK,if_pos hc]
   have e2:blK true (c::r++10::t)=blK false (r++10::t)+1:=by simp only [List.cons_append,blK,if_pos hc]
   rw [e1,e2,List.length_cons];exact ⟨λ h=>by rw [h2.1 (by omega)];omega,λ h=>by rw [h2.2 (by omega)]⟩
  ·have e1:blK true (c::r)=blK true r+1:=by simp only [blK,if_neg hc]
   have e2:blK true (c::r++10::t)=blK true (r++10::t)+1:=by simp only [List.cons_append,blK,if_neg hc]
   rw [e1,e2,List.length_cons];exact ⟨λ h=>by rw [h1.1 (by omega)];omega,λ h=>by rw [h1.2 (by omega)]⟩
 |false,c::r,t=>by
  have h1:=blK_app true r t;have h2:=blK_app false r t
  have hh:(c=47/\(r++10::t).head?=some 47) ↔ (c=47/\r.head?=some 47):=by
   cases r with
   |nil=>simp
   |cons d r=>simp
  by_cases hc:c=47/\r.head?=some 47
  ·have e1:blK false (c::r)=blK true r+1:=by simp only [blK,if_pos hc]
   have e2:blK false (c::r++10::t)=blK true (r++10::t)+1:=by simp only [List.cons_append,blK,if_pos (hh.2 hc)]
   rw [e1,e2,List.length_cons];exact ⟨λ h=>by rw [h1.1 (by omega)];omega,λ h=>by rw [h1.2 (by omega)]⟩
  ·have hc':¬(c=47/\(r++10::t).head?=some 47):=λ h=>hc (hh.1 h)
   by_cases hb:isBl c=true
   ·have e1:blK false (c::r)=blK false r+1:=by simp only [blK,if_neg hc,if_pos hb]
    have e2:blK false (c::r++10::t)=blK false (r++10::t)+1:=by simp only [List.cons_append,blK,if_neg hc',if_pos hb]
    rw [e1,e2,List.length_cons];exact ⟨λ h=>by rw [h2.1 (by omega)];omega,λ h=>by rw [h2.2 (by omega)]⟩
   ·have e1:blK false (c::r)=0:=by simp only [blK,if_neg hc,if_neg hb]
    have e2:blK false (c::r++10::t)=0:=by simp only [List.cons_append,blK,if_neg hc',if_neg hb]
    rw [e1,e2,List.length_cons];exact ⟨λ h=>by omega,λ _=>rfl⟩
theorem wdK_app:∀(m t:List UInt8),wdK (m++10::t)=wdK m
 |[],t=>by simp [wdK,isWd,isLt,isDg]
 |c::r,t=>by
  have ih:=wdK_app r t;rw [List.cons_append];unfold wdK;rw [ih]
theorem dgK_app:∀(m t:List UInt8),dgK (m++10::t)=dgK m
 |[],t=>by simp [dgK,isDg]
 |c::r,t=>by
  have ih:=dgK_app r t;rw [List.cons_append];unfold dgK;rw [ih]
theorem pE_app {m:List UInt8} (h:m≠[]) (t:List UInt8):pE (m++10::t)=pE m/\pV (m++10::t)=pV m:=by
 have e1:(m++10::t).take (dgK m)=m.take (dgK m):=List.take_append_of_le_length (dgK_le m);have e2:(m++10::t).head?=m.head?:=head_app m _ h
 have e3:pE (m++10::t)=pE m:=by
  unfold pE;rw [dgK_app,e1,e2];simp [h]
 refine ⟨e3,?_⟩;unfold pV;rw [e3,dgK_app,e1]
theorem sgn_app {m:List UInt8} (h:m≠[]) (t:List UInt8):sgn (m++10::t)=sgn m:=by
 match m,h with
 |[a],_ =>
  unfold sgn
  have e1:twoS.contains (([a]++10::t).take 2)=false:=by
   cases e:twoS.contains (([a]++10::t).take 2) with
   |false=>rfl
   |true =>
    have:[a,10]∈twoS:=by simpa using e
    simp [twoS] at this
  have e2:twoS.contains ([a].take 2)=false:=by
   cases e:twoS.contains ([a].take 2) with
   |false=>rfl
   |true =>
    have:[a]∈twoS:=by simpa using e
    simp [twoS] at this
  rw [if_neg (by rw [e1];decide),if_neg (by rw [e2];decide)];rfl
 |a::b::r,_=>rfl
theorem tk_app {m:List UInt8} (h:m≠[]) (t:List UInt8) (q:Int):tkE (m++10::t)=tkE m/\tkS (m++10::t)=tkS m/\tkT (m++10::t) q=tkT m q:=by
 match m,h with
 |c::r,h =>
  have a1:=wdK_app (c::r) t;have a2:=dgK_app (c::r) t;have a3:=pE_app h t;have a4:=sgn_app h t;have b1:(c::r++10::t).take (wdK (c::r))=(c::r).take (wdK (c::r)):=List.take_append_of_le_length (wdK_le _);have b2:(c::r++10::t).take (sgn (c::r))=(c::r).take (sgn (c::r)):=List.take_append_of_le_length (sgn_le _);rw [List.cons_append] at a1 a2 a3 a4 b1 b2 ⊢;refine ⟨?_,?_,?_⟩
  ·rw [tkE_cons,tkE_cons,a1,a2,a3.1,a4]
  ·rw [tkS_cons,tkS_cons,a1,a2,a4]
  ·rw [tkT_cons,tkT_cons,a1,a4,b1,b2,a3.2]
inductive Ex where
 |int (n:Int) (p:Int)
 |var (s:List UInt8) (p:Int)
 |inn (s:List UInt8) (p:Int)
 |one (op:Int) (x:Ex) (p:Int)
 |both (op:Int) (x y:Ex)
deriving DecidableEq
def Ex.pos:Ex->Int
 |.int _ p=>p
 |.var _ p=>p
 |.inn _ p=>p
 |.one _ _ p=>p
 |.both _ x _=>x.pos
inductive PR where
 |out
 |bad (code p:Int)
 |ok (x:Ex) (rest:List Tk)
deriving DecidableEq
def PR.andThen (e:PR) (g:Ex->List Tk->PR):PR:=match e with
 |.ok x r=>g x r
 |.out=>.out
 |.bad c p=>.bad c p
theorem PR.andThen_ok {e:PR} {g:Ex->List Tk->PR} {y:Ex} {r:List Tk} (h:e.andThen g=.ok y r):∃x u,e=.ok x u/\g x u=.ok y r:=by
 cases e with
 |out=>cases h
 |bad c p=>cases h
 |ok x u=>exact ⟨x,u,rfl,h⟩
def rowOps:Nat->List (List UInt8×Int)
 |0=>[([124,124],13)]
 |1=>[([38,38],12)]
 |2=>[([61,61],10),([33,61],11)]
 |3=>[([60],6),([60,61],7),([62],8),([62,61],9)]
 |4=>[([43],1),([45],2)]
 |5=>[([42],3),([47],4),([37],5)]
 |_=>[]
def isSg (t:Tk) (s:List UInt8):Bool:=decide (t.kind=4)&&decide (t.text=s)
def opAt (k:Nat):List Tk->Int
 |[]=>0
 |t::_=>match (rowOps k).find? (λ o=>isSg t o.1) with
  |some o=>o.2
  |none=>0
def wrongAt (t:Tk):PR:=if t.kind=5 then .bad 3 t.at_ else .bad 4 t.at_
theorem wrongAt_not {t:Tk} {x:Ex} {r:List Tk}:wrongAt t≠.ok x r:=by
 unfold wrongAt
 split <;> (intro h;cases h)
def shutP (x:Ex):List Tk->PR
 |[]=>.bad 0 0
 |t::r=>if isSg t [41]=true then .ok x r else wrongAt t
def nameP (p:Int):List Tk->PR
 |[]=>.bad 0 0
 |u::r=>if u.kind=1 then shutP (.inn u.text p) r else wrongAt u
def innP (p:Int):List Tk->PR
 |[]=>.bad 0 0
 |t::r=>if isSg t [40]=true then nameP p r else wrongAt t
theorem shutP_cons (x:Ex) (t:Tk) (r:List Tk):shutP x (t::r)=if isSg t [41]=true then .ok x r else wrongAt t:=rfl
theorem nameP_cons (p:Int) (u:Tk) (r:List Tk):nameP p (u::r)=if u.kind=1 then shutP (.inn u.text p) r else wrongAt u:=rfl
theorem innP_cons (p:Int) (t:Tk) (r:List Tk):innP p (t::r)=if isSg t [40]=true then nameP p r else wrongAt t:=rfl
mutual
def pFrom:Nat->Nat->Nat->List Tk->PR
 |0,_,_,_=>.out
 |f+1,k,d,ts=>if k=6 then pOne f d ts else (pFrom f (k+1) d ts).andThen λ x r=>pMore f k d x r
def pMore:Nat->Nat->Nat->Ex->List Tk->PR
 |0,_,_,_,_=>.out
 |f+1,k,d,x,ts=>if opAt k ts=0 then .ok x ts else (pFrom f (k+1) d ts.tail).andThen λ y r=>pMore f k d (.both (opAt k ts) x y) r
def pOne:Nat->Nat->List Tk->PR
 |0,_,_=>.out
 |_+1,_,[]=>.bad 0 0
 |f+1,d,t::r =>
  if isSg t [45]=true∨isSg t [33]=true then
   if d=20 then .bad 21 t.at_ else (pOne f (d+1) r).andThen λ x r'=>.ok (.one (if isSg t [33]=true then 15 else 14) x t.at_) r'
  else if isSg t [40]=true then
   if d=20 then .bad 21 t.at_ else (pFrom f 0 (d+1) r).andThen λ x r'=>shutP x r'
  else if t.kind=3 then .ok (.int t.num t.at_) r
  else if t.kind=1 then .ok (.var t.text t.at_) r
  else if t.kind=2/\t.text=[105,110] then innP t.at_ r
  else wrongAt t
end
theorem pFrom_succ (f k d:Nat) (ts:List Tk):pFrom (f+1) k d ts=if k=6 then pOne f d ts else (pFrom f (k+1) d ts).andThen λ x r=>pMore f k d x r:=by rw [pFrom]
theorem pMore_succ (f k d:Nat) (x:Ex) (ts:List Tk):pMore (f+1) k d x ts=if opAt k ts=0 then .ok x ts else (pFrom f (k+1) d ts.tail).andThen λ y r=>pMore f k d (.both (opAt k ts) x y) r:=by rw [pMore]
theorem pOne_nil (f d:Nat):pOne (f+1) d []=.bad 0 0:=by rw [pOne]
theorem pOne_cons (f d:Nat) (t:Tk) (r:List Tk):pOne (f+1) d (t::r) =
  if isSg t [45]=true∨isSg t [33]=true then
   if d=20 then .bad 21 t.at_ else (pOne f (d+1) r).andThen λ x r'=>.ok (.one (if isSg t [33]=true then 15 else 14) x t.at_) r'
  else if isSg t [40]=true then
   if d=20 then .bad 21 t.at_ else (pFrom f 0 (d+1) r).andThen λ x r'=>shutP x r'
  else if t.kind=3 then .ok (.int t.num t.at_) r
  else if t.kind=1 then .ok (.var t.text t.at_) r
  else if t.kind=2/\t.text=[105,110] then innP t.at_ r
  else wrongAt t:=by rw [pOne]
theorem shutP_some {x y:Ex} {ts r:List Tk} (h:shutP x ts=.ok y r):∃t,ts=t::r/\isSg t [41]=true/\y=x:=by
 cases ts with
 |nil=>cases h
 |cons t u =>
  rw [shutP_cons] at h
  split at h
  ·rename_i e;injection h with h1 h2;exact ⟨t,by rw [h2],e,h1.symm⟩
  ·exact absurd h wrongAt_not
theorem innP_some {p:Int} {y:Ex} {ts r:List Tk} (h:innP p ts=.ok y r):∃t u v,ts=t::u::v::r/\isSg t [40]=true/\u.kind=1/\isSg v [41]=true/\y=.inn u.text p:=by
 match ts,h with
 |[],h=>cases h
 |t::ts,h =>
  rw [innP_cons] at h
  split at h
  ·rename_i e1
   match ts,h with
   |[],h=>cases h
   |u::ts,h =>
    rw [nameP_cons] at h
    split at h
    ·rename_i e2;obtain ⟨v,rfl,e3,rfl⟩:=shutP_some h;exact ⟨t,u,v,rfl,e1,e2,e3,rfl⟩
    ·exact absurd h wrongAt_not
  ·exact absurd h wrongAt_not
theorem p_len:∀f,(∀k d ts x r,pFrom f k d ts=.ok x r->r.length<ts.length)/\(∀k d y ts x r,pMore f k d y ts=.ok x r->r.length<=ts.length)/\(∀d ts x r,pOne f d ts=.ok x r->r.length<ts.length)
 |0=>⟨λ _ _ _ _ _ h=>by simp [pFrom] at h,λ _ _ _ _ _ _ h=>by simp [pMore] at h,λ _ _ _ _ h=>by simp [pOne] at h⟩
 |f+1=>by
  obtain ⟨h1,h2,h3⟩:=p_len f;refine ⟨λ k d ts x r h=>?_,λ k d y ts x r h=>?_,λ d ts x r h=>?_⟩
  ·rw [pFrom_succ] at h
   split at h
   ·exact h3 _ _ _ _ h
   ·obtain ⟨y,u,e,h⟩:=PR.andThen_ok h;have:=h1 _ _ _ _ _ e;have:=h2 _ _ _ _ _ _ h;omega
  ·rw [pMore_succ] at h
   split at h
   ·injection h with _ h;subst h;exact n_ _
   ·obtain ⟨z,u,e,h⟩:=PR.andThen_ok h;have:=h1 _ _ _ _ _ e;have:=h2 _ _ _ _ _ _ h;have:=List.length_tail (l:=ts);omega
  ·cases ts with
   |nil=>rw [pOne_nil] at h;cases h
   |cons t u =>
    rw [pOne_cons] at h;rw [List.length_cons]
    split at h
    ·split at h
     ·cases h
     ·obtain ⟨z,v,e,h⟩:=PR.andThen_ok h;injection h with _ h;subst h;have:=h3 _ _ _ _ e;omega
    ·split at h
     ·split at h
      ·cases h
      ·obtain ⟨z,v,e,h⟩:=PR.andThen_ok h;have:=h1 _ _ _ _ _ e;obtain ⟨t',rfl,_,_⟩:=shutP_some h;simp only [List.length_cons] at this;omega
     ·split at h
      ·injection h with _ h;subst h;omega
      ·split at h
       ·injection h with _ h;subst h;omega
       ·split at h
        ·obtain ⟨t1,t2,t3,rfl,_⟩:=innP_some h;simp only [List.length_cons];omega
        ·exact absurd h wrongAt_not
def Pf (k d:Nat) (ts:List Tk):PR:=pFrom (10*ts.length+8) k d ts
theorem Pf_len {k d:Nat} {ts r:List Tk} {x:Ex} (h:Pf k d ts=.ok x r):r.length<ts.length:=(p_len _).1 _ _ _ _ _ h
def rowOf (op:Int):Nat :=
 if op=13 then 0 else if op=12 then 1 else if op=10∨op=11 then 2 else if op=6∨op=7∨op=8∨op=9 then 3 else if op=1∨op=2 then 4 else if op=3∨op=4∨op=5 then 5 else 6
def sgOf (op:Int):List UInt8 :=
 if op=13 then [124,124] else if op=12 then [38,38] else if op=10 then [61,61] else if op=11 then [33,61] else if op=6 then [60] else if op=7 then [60,61] else if op=8 then [62] else if op=9 then [62,61]
 else if op=1 then [43] else if op=2 then [45] else if op=3 then [42] else if op=4 then [47] else [37]
theorem row_cases {op:Int} (h:rowOf op<6):op=1∨op=2∨op=3∨op=4∨op=5∨op=6∨op=7∨op=8∨op=9∨op=10∨op=11∨op=12∨op=13:=by
 unfold rowOf at h
 split at h
 ·omega
 ·split at h
  ·omega
  ·split at h
   ·omega
   ·split at h
    ·omega
    ·split at h
     ·omega
     ·split at h
      ·omega
      ·omega
def Ex.isBoth:Ex->Bool
 |.both _ _ _=>true
 |_=>false
def Ex.lev:Ex->Nat
 |.both op _ _=>rowOf op
 |_=>6
def par (b:Bool) (s:List UInt8):List UInt8:=if b=true then 40::(s++[41]) else s
def Ex.tx:Ex->List UInt8
 |.int n _=>Lib.itoa n
 |.var s _=>s
 |.inn s _=>105::110::40::(s++[41])
 |.one op x _=>(if op=14 then 45 else 33)::par x.isBoth x.tx
 |.both op x y=>par (decide (x.lev<rowOf op)) x.tx++32::(sgOf op++32::par (decide (y.lev<=rowOf op)) y.tx)
def Ex.nst:Ex->Nat
 |.one _ x _=>1+((if x.isBoth=true then 1 else 0)+x.nst)
 |.both op x y=>max ((if x.lev<rowOf op then 1 else 0)+x.nst) ((if y.lev<=rowOf op then 1 else 0)+y.nst)
 |_=>0
def Ex.ops:Ex->Prop
 |.one op x _=>(op=14∨op=15)/\x.ops
 |.both op x y=>rowOf op<6/\x.ops/\y.ops
 |_=>True
theorem scA_same:∀(f f' p:Nat) (acc:List Tk) (l:List UInt8),l.length<f->l.length<f'->scA f p acc l=scA f' p acc l
 |0,_,_,_,_,h,_=>by omega
 |_,0,_,_,_,_,h=>by omega
 |f+1,f' + 1,p,acc,l,h,h'=>by
  by_cases hm:l.drop (blK false l)=[]
  ·rw [scA_end hm,scA_end hm]
  ·by_cases he:tkE (l.drop (blK false l))=0
   ·have hp:=tkS_pos2 hm he;have hs:=tkS_le (l.drop (blK false l));rw [List.length_drop] at hs;rw [scA_step rfl hm he,scA_step rfl hm he];exact scA_same f f' _ _ _ (by rw [List.length_drop,List.length_drop];omega) (by rw [List.length_drop,List.length_drop];omega)
   ·rw [scA_bad rfl hm he,scA_bad rfl hm he]
def scT (p:Nat) (acc:List Tk) (l:List UInt8):List Tk×Int×Int:=scA (l.length+1) p acc l
theorem scT_tok {l:List UInt8} (h0:l≠[]) (hb:blK false l=0) (he:tkE l=0) (p:Nat) (acc:List Tk):scT p acc l=scT (p+tkS l) (acc++[tkT l p]) (l.drop (tkS l)):=by
 have hd:l.drop (blK false l)=l:=by rw [hb];rfl
 have hp:=tkS_pos2 h0 he;unfold scT;rw [scA_step hd h0 he,hb];simp only [Nat.add_zero];exact scA_same _ _ _ _ _ (by rw [List.length_drop];have:0<l.length:=List.length_pos_iff.2 h0;omega) (by omega)
def Hd (t:List UInt8):Prop:=∃c r,t=c::r/\(isWd c=true∨c=45∨c=33∨c=40)
def Ex.fine:Ex->Prop
 |.int n _=>0<=n/\n<=9223372036854775807
 |.var s _=>isNm s=true
 |.inn s _=>isNm s=true
 |.one op x _=>(op=14∨op=15)/\x.fine
 |.both op x y=>rowOf op<6/\x.fine/\y.fine
theorem Ex.fine.ops:∀{e:Ex},e.fine->e.ops
 |.int _ _,_=>trivial
 |.var _ _,_=>trivial
 |.inn _ _,_=>trivial
 |.one _ _ _,h=>⟨h.1,Ex.fine.ops h.2⟩
 |.both _ _ _,h=>⟨h.1,Ex.fine.ops h.2.1,Ex.fine.ops h.2.2⟩
def Ex.er:Ex->Ex
 |.int n _=>.int n 0
 |.var s _=>.var s 0
 |.inn s _=>.inn s 0
 |.one op x _=>.one op x.er 0
 |.both op x y=>.both op x.er y.er
theorem er_lev (e:Ex):e.er.lev=e.lev:=by cases e <;> rfl
theorem er_both (e:Ex):e.er.isBoth=e.isBoth:=by cases e <;> rfl
theorem er_nst:∀e:Ex,e.er.nst=e.nst
 |.int _ _=>rfl
 |.var _ _=>rfl
 |.inn _ _=>rfl
 |.one op x p=>by
  show 1+((if x.er.isBoth=true then 1 else 0)+x.er.nst)=1+((if x.isBoth=true then 1 else 0)+x.nst);rw [er_both,er_nst x]
 |.both op x y=>by
  show max ((if x.er.lev<rowOf op then 1 else 0)+x.er.nst) ((if y.er.lev<=rowOf op then 1 else 0)+y.er.nst)=max ((if x.lev<rowOf op then 1 else 0)+x.nst) ((if y.lev<=rowOf op then 1 else 0)+y.nst);rw [er_lev,er_lev,er_nst x,er_nst y]
theorem Hd.app {u:List UInt8} (h:Hd u) (t:List UInt8):Hd (u++t):=by
 obtain ⟨c,r,rfl,hc⟩:=h;exact ⟨c,r++t,rfl,hc⟩
theorem par_Hd (b:Bool) {s:List UInt8} (h:Hd s):Hd (par b s):=by
 cases b with
 |false=>exact h
 |true=>exact ⟨40,_,rfl,.inr (.inr (.inr rfl))⟩
theorem nm_Hd {s:List UInt8} (h:isNm s=true):Hd s:=by
 obtain ⟨c,r,rfl,hc,_⟩:=isNm_parts h;exact ⟨c,r,rfl,.inl (by simp [isWd,hc])⟩
theorem tx_Hd:∀e:Ex,e.fine->Hd e.tx
 |.int n _,h=>by
  show Hd (Lib.itoa n)
  have ei:Lib.itoa n=Lib.decDigits n.toNat:=by unfold Lib.itoa;rw [if_neg (by have:=h.1;omega)]
  rw [ei];have hd:=dec_digits n.toNat;have hpos:=dec_pos n.toNat;generalize Lib.decDigits n.toNat=D at *
  match D,hpos with
  |c::u,_=>exact ⟨c,u,rfl,.inl (by simp [isWd,hd c (by simp)])⟩
 |.var s _,h=>nm_Hd h
 |.inn s _,_=>⟨105,_,rfl,.inl (by decide)⟩
 |.one op x _,h=>by
  rcases h.1 with rfl|rfl
  ·exact ⟨45,_,rfl,.inr (.inl rfl)⟩
  ·exact ⟨33,_,rfl,.inr (.inr (.inl rfl))⟩
 |.both op x y,h=>(par_Hd _ (tx_Hd x h.2.1)).app _
def Lex (t:Tk):Prop:=(t.kind=1->isNm t.text=true)/\(t.kind=3->0<=t.num/\t.num<=9223372036854775807)
def Tk.sz (t:Tk):Nat:=if t.kind=3 then (Lib.itoa t.num).length else t.text.length
def szs:List Tk->Nat
 |[]=>0
 |t::r=>t.sz+szs r
theorem sg_len {op:Int} (h:rowOf op<6):1<=(sgOf op).length/\(sgOf op).length<=2:=by
 rcases row_cases h with rfl|rfl|rfl|rfl|rfl|rfl|rfl|rfl|rfl|rfl|rfl|rfl|rfl <;> decide
theorem dvalF_lt:∀(l:List UInt8) (n:Nat),(∀c∈l,isDg c=true)->dvalF n l<(n+1)*10 ^ l.length
 |[],n,_=>by simp [dvalF]
 |c::r,n,h=>by
  have h1:=isDg_iff.1 (h c (by simp));have ih:=dvalF_lt r (10*n+(c.toNat-48)) (λ c hc=>h c (by simp [hc]));have e:dvalF n (c::r)=dvalF (10*n+(c.toNat-48)) r:=rfl;rw [e,List.length_cons,Nat.pow_succ];refine Nat.lt_of_lt_of_le ih ?_
  have:10*n+(c.toNat-48)+1<=(n+1)*10:=by omega
  calc (10*n+(c.toNat-48)+1)*10 ^ r.length<=((n+1)*10)*10 ^ r.length:=Nat.mul_le_mul_right _ this
   _=(n+1)*(10 ^ r.length*10):=by rw [Nat.mul_assoc,Nat.mul_comm 10]
theorem pE_zero {m:List UInt8} (h:pE m=0):0<dgK m/\dval (m.take (dgK m))<=9223372036854775807:=by
 unfold pE at h
 split at h
 ·cases h
 ·split at h
  ·cases h
  ·rename_i h1
   split at h
   ·rename_i h2;exact ⟨by omega,h2⟩
   ·cases h
theorem tk_lex {c:UInt8} {r:List UInt8} (h:tkE (c::r)=0) (q:Int):Lex (tkT (c::r) q)/\(tkT (c::r) q).sz<=tkS (c::r):=by
 rw [tkT_cons,tkS_cons];rw [tkE_cons] at h
 by_cases hc:isLt c=true
 ·rw [if_pos hc] at h ⊢;rw [if_pos hc];have hw:=wdK_le (c::r)
  have htl:((c::r).take (wdK (c::r))).length=wdK (c::r):=by rw [List.length_take];omega
  have hp:0<wdK (c::r):=wdK_pos (by simp [isWd,hc])
  have h24:wdK (c::r)<=24:=by
   split at h
   ·cases h
   ·omega
  refine ⟨⟨λ hk=>?_,λ hk=>?_⟩,?_⟩
  ·have hkw:isKw ((c::r).take (wdK (c::r)))=false:=by
    cases e:isKw ((c::r).take (wdK (c::r))) with
    |false=>rfl
    |true =>
     simp only [e,if_true] at hk;cases hk
   obtain ⟨n,hn⟩:∃n,wdK (c::r)=n+1:=⟨wdK (c::r)-1,by omega⟩
   have e1:(c::r).take (wdK (c::r))=c::r.take n:=by rw [hn];rfl
   have hall:∀x∈(c::r).take (wdK (c::r)),isWd x=true:=by
    intro x hx;obtain ⟨i,hi,rfl⟩:=List.getElem_of_mem hx;rw [List.getElem_take];rw [htl] at hi
    cases e:isWd ((c::r)[i]'(by omega)) with
    |true=>rfl
    |false =>
     have:=wdK_no (c::r) i (by omega) (by omega) e;omega
   show isNm ((c::r).take (wdK (c::r)))=true;rw [e1] at hkw htl hall ⊢;exact isNm_of hc (wdK_all hall) (by omega) hkw
  ·simp only at hk
   split at hk <;> cases hk
  ·unfold Tk.sz;rw [if_neg (by show ¬(if _ then (2:Int) else 1)=3;split <;> decide)];show ((c::r).take (wdK (c::r))).length<=_;omega
 ·rw [if_neg hc] at h ⊢;rw [if_neg hc]
  by_cases hd:isDg c=true
  ·rw [if_pos hd] at h ⊢;rw [if_pos hd]
   have hE:pE (c::r)=0:=by
    by_cases hE:pE (c::r)=0
    ·exact hE
    ·rw [if_neg hE] at h;exact absurd h hE
   obtain ⟨hk,hv⟩:=pE_zero hE
   have hV:pV (c::r)=(dval ((c::r).take (dgK (c::r))):Int):=by unfold pV;rw [if_pos hE]
   refine ⟨⟨λ hk=>(by cases hk),λ _=>?_⟩,?_⟩
   ·show 0<=pV (c::r)/\pV (c::r)<=9223372036854775807;rw [hV];omega
   ·show (Lib.itoa (pV (c::r))).length<=_;rw [hV]
    have ei:Lib.itoa ((dval ((c::r).take (dgK (c::r))):Nat):Int)=Lib.decDigits (dval ((c::r).take (dgK (c::r)))):=by
     unfold Lib.itoa;rw [if_neg (by omega),Int.toNat_natCast]
    rw [ei];have hlt:=dvalF_lt ((c::r).take (dgK (c::r))) 0 (dgK_take _);rw [List.length_take,Nat.min_eq_left (dgK_le _),Nat.zero_add,Nat.one_mul] at hlt
    obtain ⟨n,hn⟩:∃n,dgK (c::r)=n+1:=⟨dgK (c::r)-1,by omega⟩
    rw [hn] at hlt ⊢;exact dec_len n hlt
  ·rw [if_neg hd] at h ⊢;rw [if_neg hd];refine ⟨⟨λ hk=>(by cases hk),λ hk=>(by cases hk)⟩,?_⟩;unfold Tk.sz;rw [if_neg (by show ¬(4:Int)=3;decide)];show ((c::r).take (sgn (c::r))).length<=_;rw [List.length_take];omega
theorem szs_app:∀a b:List Tk,szs (a++b)=szs a+szs b
 |[],b=>by simp [szs]
 |t::a,b=>by
  show t.sz+szs (a++b)=t.sz+szs a+szs b;rw [szs_app a b];omega
theorem scA_lex:∀(f p:Nat) (acc:List Tk) (l:List UInt8),(∀t∈acc,Lex t)->(∀t∈(scA f p acc l).1,Lex t)/\szs (scA f p acc l).1<=szs acc+l.length
 |0,_,_,_,_=>⟨λ t ht=>by simp [scA] at ht,Nat.zero_le _⟩
 |f+1,p,acc,l,ha=>by
  by_cases hm:l.drop (blK false l)=[]
  ·rw [scA_end hm];refine ⟨λ t ht=>?_,?_⟩
   ·rcases List.mem_append.1 ht with ht|ht
    ·exact ha t ht
    ·rw [List.mem_singleton.1 ht];exact ⟨λ h=>(by cases h),λ h=>(by cases h)⟩
   ·show szs (acc++[_])<=_;rw [szs_app];exact Nat.add_le_add_left (Nat.zero_le _) _
  ·by_cases he:tkE (l.drop (blK false l))=0
   ·rw [scA_step rfl hm he]
    obtain ⟨m,hmm⟩:∃m,l.drop (blK false l)=m:=⟨_,rfl⟩
    have hml:m.length<=l.length:=by rw [<-hmm,List.length_drop];omega
    rw [hmm] at hm he ⊢
    match m,hm with
    |c::r,_ =>
     obtain ⟨h1,h2⟩:=tk_lex he ((p+blK false l:Nat):Int);have hs:=tkS_le (c::r)
     have ih:=scA_lex f (p+blK false l+tkS (c::r)) (acc++[tkT (c::r) ((p+blK false l:Nat):Int)]) ((c::r).drop (tkS (c::r))) (λ t ht=>by
      rcases List.mem_append.1 ht with ht|ht
      ·exact ha t ht
      ·rw [List.mem_singleton.1 ht];exact h1)
     refine ⟨ih.1,Nat.le_trans ih.2 ?_⟩;rw [szs_app,List.length_drop];show szs acc+((tkT (c::r) _).sz+0)+_<=_;omega
   ·rw [scA_bad rfl hm he];exact ⟨λ t ht=>(by cases ht),Nat.zero_le _⟩
theorem scF_lex (l:List UInt8):(∀t∈(scF l).1,Lex t)/\szs (scF l).1<=l.length:=by
 unfold scF
 split
 ·exact ⟨λ t ht=>(by cases ht),Nat.zero_le _⟩
 ·have:=scA_lex (l.length+1) 0 [] l (λ t ht=>by cases ht);simpa [szs] using this
def Tk.er (t:Tk):Tk:=⟨t.kind,t.text,t.num,0⟩
theorem scT_skip (p:Nat) (acc:List Tk) (l:List UInt8):scT p acc l=scT (p+blK false l) acc (l.drop (blK false l)):=by
 have hb:=blK_le false l;unfold scT;rw [scA_skip];exact scA_same _ _ _ _ _ (by rw [List.length_drop];omega) (by omega)
theorem scT_skip_to {p q:Nat} {acc:List Tk} {l m:List UInt8} {n:Nat} (h:blK false l=n+blK false m) (hm:l.drop n=m) (hq:p+n=q):scT p acc l=scT q acc m:=by
 rw [scT_skip p,scT_skip q,h,<-List.drop_drop,hm]
 congr 1
 omega
theorem tkT_at0 (m:List UInt8) (p:Int):(tkT m p).kind=(tkT m 0).kind/\(tkT m p).text=(tkT m 0).text/\(tkT m p).num=(tkT m 0).num:=by
 cases m with
 |nil=>exact ⟨rfl,rfl,rfl⟩
 |cons c r =>
  rw [tkT_cons,tkT_cons]
  split
  ·exact ⟨rfl,rfl,rfl⟩
  ·split <;> exact ⟨rfl,rfl,rfl⟩
theorem tkT_kind5 {m:List UInt8} (h:m≠[]) (q:Int):(tkT m q).kind≠5:=by
 cases m with
 |nil=>exact absurd rfl h
 |cons c r =>
  rw [tkT_cons]
  split
  ·show (if _ then (2:Int) else 1)≠5
   split <;> decide
  ·split
   ·exact (by decide:(3:Int)≠5)
   ·exact (by decide:(4:Int)≠5)
theorem scA_kinds:∀(f p:Nat) (acc:List Tk) (l:List UInt8),(∀z∈acc,z.kind≠5)->∀Y e,(scA f p acc l).1=Y++[e]->∀z∈Y,z.kind≠5
 |0,_,_,_,_,Y,e,h=>by simp [scA] at h
 |f+1,p,acc,l,ha,Y,e,h=>by
  by_cases hm:l.drop (blK false l)=[]
  ·rw [scA_end hm] at h;have:=List.append_inj' h rfl;rw [<-this.1];exact ha
  ·by_cases he:tkE (l.drop (blK false l))=0
   ·rw [scA_step rfl hm he] at h
    exact scA_kinds f _ _ _ (λ z hz=>by
     rcases List.mem_append.1 hz with hz|hz
     ·exact ha z hz
     ·rw [List.mem_singleton.1 hz];exact tkT_kind5 hm _) Y e h
   ·rw [scA_bad rfl hm he] at h;simp at h
theorem scF_kinds (l:List UInt8) {Y:List Tk} {e:Tk} (h:(scF l).1=Y++[e]):∀z∈Y,z.kind≠5:=by
 unfold scF at h
 split at h
 ·simp at h
 ·exact scA_kinds _ 0 [] l (λ z hz=>by cases hz) Y e h
theorem sc_next (t:List UInt8):∀(f p:Nat) (acc:List Tk) (l:List UInt8),l.length<f->(scA f p acc l).2.1=0 ->
  ∃Y:List Tk,scA f p acc l=(acc++Y++[⟨5,[],0,((p+l.length:Nat):Int)⟩],0,0) /\
   ∀p2 acc2,∃Y2:List Tk,Y2.map Tk.er=Y.map Tk.er/\scT p2 acc2 (l++10::t)=scT (p2+(l.length+1)) (acc2++Y2) t
 |0,_,_,_,h,_=>by omega
 |f+1,p,acc,l,h,h0=>by
  have hb:=blK_le false l
  by_cases hm:l.drop (blK false l)=[]
  ·have hbl:blK false l=l.length:=by
    have:=congrArg List.length hm;rw [List.length_drop,List.length_nil] at this;omega
   refine ⟨[],by rw [scA_end hm,hbl,List.append_nil],λ p2 acc2=>⟨[],rfl,?_⟩⟩
   have hb2:blK false (l++10::t)=(l.length+1)+blK false t:=by
    rw [(blK_app false l t).1 hbl];omega
   rw [List.append_nil];exact scT_skip_to hb2 (by rw [<-List.drop_drop,List.drop_left'];rfl;rfl) rfl
  ·have hbl:blK false l<l.length:=by
    rcases Nat.lt_or_ge (blK false l) l.length with h1|h1
    ·exact h1
    ·exact absurd (List.drop_of_length_le h1) hm
   have hb2:=(blK_app false l t).2 hbl;have hrest:=blK_rest false l
   obtain ⟨m,hmm⟩:∃m,l.drop (blK false l)=m:=⟨_,rfl⟩
   have hml:m.length=l.length-blK false l:=by rw [<-hmm,List.length_drop]
   have hd2:(l++10::t).drop (blK false l)=m++10::t:=by rw [List.drop_append_of_le_length hb,hmm]
   rw [hmm] at hm hrest
   by_cases he:tkE m=0
   ·have hs:=tkS_le m;have hp:=tkS_pos2 hm he;rw [scA_step hmm hm he] at h0 ⊢;obtain ⟨Y,h1,h2⟩:=sc_next t f _ _ _ (by rw [List.length_drop];omega) h0;refine ⟨tkT m ((p+blK false l:Nat):Int)::Y,?_,λ p2 acc2=>?_⟩
    ·rw [h1]
     have e1:p+blK false l+tkS m+(m.drop (tkS m)).length=p+l.length:=by rw [List.length_drop];omega
     rw [e1];simp
    ·obtain ⟨k1,k2,k3⟩:=tk_app hm t ((p2+blK false l:Nat):Int)
     have hbm:blK false (m++10::t)=0:=by
      have:=(blK_app false m t).2 (by rw [hrest];exact List.length_pos_iff.2 hm);rw [this,hrest]
     obtain ⟨Y2,g1,g2⟩:=h2 (p2+blK false l+tkS m) (acc2++[tkT m ((p2+blK false l:Nat):Int)]);refine ⟨tkT m ((p2+blK false l:Nat):Int)::Y2,?_,?_⟩
     ·rw [List.map_cons,List.map_cons,g1]
      congr 1
      rw [Tk.er,Tk.er];have q1:=tkT_at0 m ((p2+blK false l:Nat):Int);have q2:=tkT_at0 m ((p+blK false l:Nat):Int);rw [q1.1,q1.2.1,q1.2.2,q2.1,q2.2.1,q2.2.2]
     ·rw [scT_skip_to (m:=m++10::t) (n:=blK false l) (q:=p2+blK false l) (by rw [hb2,hbm];rfl) hd2 rfl,scT_tok (by simp) hbm (by rw [k1];exact he),k2,k3,List.drop_append_of_le_length hs,g2]
      have e1:p2+blK false l+tkS m+((m.drop (tkS m)).length+1)=p2+(l.length+1):=by rw [List.length_drop];omega
      rw [e1];simp
   ·rw [scA_bad hmm hm he] at h0;exact absurd h0 he
inductive GX where
 |mk (kind num:Int) (name:List UInt8) (op:Int) (subs:List GX) (p:Int)
def GX.kind:GX->Int|.mk k _ _ _ _ _=>k
def GX.num:GX->Int|.mk _ n _ _ _ _=>n
def GX.name:GX->List UInt8|.mk _ _ s _ _ _=>s
def GX.op:GX->Int|.mk _ _ _ o _ _=>o
def GX.subs:GX->List GX|.mk _ _ _ _ l _=>l
def GX.p:GX->Int|.mk _ _ _ _ _ p=>p
mutual
def GX.er:GX->GX
 |.mk k n s o l _=>.mk k n s o (GX.ers l) 0
def GX.ers:List GX->List GX
 |[]=>[]
 |x::l=>x.er::GX.ers l
end
def Ex.gx:Ex->GX
 |.int n p=>.mk 1 n [] 0 [] p
 |.var s p=>.mk 2 0 s 0 [] p
 |.inn s p=>.mk 3 0 s 0 [] p
 |.one op x p=>.mk 4 0 [] op [x.gx] p
 |.both op x y=>.mk 5 0 [] op [x.gx,y.gx] x.pos
theorem er_pos:∀x:Ex,x.er.pos=0
 |.int _ _=>rfl
 |.var _ _=>rfl
 |.inn _ _=>rfl
 |.one _ _ _=>rfl
 |.both _ x _=>er_pos x
structure EV where
 kind:Int
 num:Int
 name:ByteArray
 op:Int
 A:Option Addr
 len:Nat
 cap:Nat
 p:Int
def EV.cells (v:EV):List Value:=[.int .i64 v.kind,.int .i64 v.num,.string v.name,.int .i64 v.op,.slice v.A v.len v.cap,.int .i64 v.p]
def EV.val (v:EV):Value:=.agg #[.int .i64 v.kind,.int .i64 v.num,.string v.name,.int .i64 v.op,.slice v.A v.len v.cap,.int .i64 v.p]
def EvAt (w:World) (g o:Nat) (v:EV):Prop :=
 w.cell? ⟨g,o,none⟩=some (.int .i64 v.kind)/\w.cell? ⟨g,o+1,none⟩=some (.int .i64 v.num)/\w.cell? ⟨g,o+2,none⟩=some (.string v.name) /\
 w.cell? ⟨g,o+3,none⟩=some (.int .i64 v.op)/\w.cell? ⟨g,o+4,none⟩=some (.slice v.A v.len v.cap)/\w.cell? ⟨g,o+5,none⟩=some (.int .i64 v.p)
mutual
def GV (w:World) (lo hi:Nat):GX->EV->Prop
 |.mk k n s o l p,v=>v.kind=k/\v.num=n/\v.name.data.toList=s/\v.op=o/\v.p=p/\v.len=l.length/\v.len<=v.cap/\v.cap<=maxLen/\GRow w lo hi l v.A 0
def GRow (w:World) (lo hi:Nat):List GX->Option Addr->Nat->Prop
 |[],_,_=>True
 |x::l,A,i=>(∃g o v,A=some ⟨g,o,none⟩/\lo<=g/\g<hi/\EvAt w g (o+i*6) v/\GV w lo hi x v)/\GRow w lo hi l A (i+1)
end
theorem EvAt.same {w w':World} {g o:Nat} {v:EV} (h:EvAt w g o v) (hg:w'.heap[g]?=w.heap[g]?):EvAt w' g o v:=by
 have e:∀j,w'.cell? ⟨g,j,none⟩=w.cell? ⟨g,j,none⟩:=λ j=>World.cell?_of_block (w:=w) hg;unfold EvAt;rw [e,e,e,e,e,e];exact h
mutual
theorem GV.same {w w':World} {lo hi:Nat} (hs:∀g,lo<=g->g<hi->w'.heap[g]?=w.heap[g]?):∀{x:GX} {v:EV},GV w lo hi x v->GV w' lo hi x v
 |.mk _ _ _ _ _ _,_,h=>by
  unfold GV at h ⊢;exact ⟨h.1,h.2.1,h.2.2.1,h.2.2.2.1,h.2.2.2.2.1,h.2.2.2.2.2.1,h.2.2.2.2.2.2.1,h.2.2.2.2.2.2.2.1,GRow.same hs h.2.2.2.2.2.2.2.2⟩
theorem GRow.same {w w':World} {lo hi:Nat} (hs:∀g,lo<=g->g<hi->w'.heap[g]?=w.heap[g]?):∀{l:List GX} {A:Option Addr} {i:Nat},GRow w lo hi l A i->GRow w' lo hi l A i
 |[],_,_,_=>by unfold GRow;trivial
 |x::l,_,_,h=>by
  unfold GRow at h ⊢;obtain ⟨⟨g,o,v,e,h1,h2,h3,h4⟩,h5⟩:=h;exact ⟨⟨g,o,v,e,h1,h2,h3.same (hs g h1 h2),GV.same hs h4⟩,GRow.same hs h5⟩
end
mutual
theorem GV.mono {w:World} {lo hi lo' hi':Nat} (h1:lo'<=lo) (h2:hi<=hi'):∀{x:GX} {v:EV},GV w lo hi x v->GV w lo' hi' x v
 |.mk _ _ _ _ _ _,_,h=>by
  unfold GV at h ⊢;exact ⟨h.1,h.2.1,h.2.2.1,h.2.2.2.1,h.2.2.2.2.1,h.2.2.2.2.2.1,h.2.2.2.2.2.2.1,h.2.2.2.2.2.2.2.1,GRow.mono h1 h2 h.2.2.2.2.2.2.2.2⟩
theorem GRow.mono {w:World} {lo hi lo' hi':Nat} (h1:lo'<=lo) (h2:hi<=hi'):∀{l:List GX} {A:Option Addr} {i:Nat},GRow w lo hi l A i->GRow w lo' hi' l A i
 |[],_,_,_=>by unfold GRow;trivial
 |x::l,_,_,h=>by
  unfold GRow at h ⊢;obtain ⟨⟨g,o,v,e,a1,a2,a3,a4⟩,h5⟩:=h;exact ⟨⟨g,o,v,e,by omega,by omega,a3,GV.mono h1 h2 a4⟩,GRow.mono h1 h2 h5⟩
end
theorem GV.below {w w':World} {lo hi:Nat} {x:GX} {v:EV} (h:GV w lo hi x v) (hb:Below w.heap.size w w') (hh:hi<=w.heap.size):GV w' lo hi x v:=h.same (λ g _ h2=>hb.block g (by omega))
theorem GRow.get {w:World} {lo hi:Nat}:∀{l:List GX} {A:Option Addr} {i:Nat},GRow w lo hi l A i->∀(j:Nat) (x:GX),l[j]?=some x->∃g o v,A=some ⟨g,o,none⟩/\lo<=g/\g<hi/\EvAt w g (o+(i+j)*6) v/\GV w lo hi x v
 |[],_,_,_,j,x,hx=>by simp at hx
 |y::l,A,i,h,0,x,hx=>by
  unfold GRow at h
  have:y=x:=by simpa using hx
  subst this;exact h.1
 |y::l,A,i,h,j+1,x,hx=>by
  unfold GRow at h;have:=GRow.get h.2 j x (by simpa using hx);rw [show i+1+j=i+(j+1) from by omega] at this;exact this
def TkEnds (l:List Tk):Prop:=∃Y e,l=Y++[e]/\e.kind=5/\∀z∈Y,z.kind≠5
theorem TkEnds.rest {u r:List Tk} (h:TkEnds (u++r)) (hu:∀z∈u,z.kind≠5):TkEnds r:=by
 obtain ⟨Y,e,h1,h2,h3⟩:=h;rcases List.eq_nil_or_concat r with rfl|⟨r',z,rfl⟩
 ·exfalso;rw [List.append_nil] at h1;exact hu e (by rw [h1];simp) h2
 ·have h4:(u++r')++[z]=Y++[e]:=by rw [<-h1];simp
  have h5:=List.append_inj' h4 rfl;simp only [List.cons.injEq,and_true] at h5;refine ⟨r',z,by simp,by rw [h5.2];exact h2,λ x hx=>h3 x (by rw [<-h5.1];exact List.mem_append_right _ hx)⟩
theorem TkEnds.ne {l:List Tk} (h:TkEnds l):l≠[]:=by
 obtain ⟨Y,e,rfl,_⟩:=h;simp
theorem TkEnds.tail {t:Tk} {r:List Tk} (h:TkEnds (t::r)) (ht:t.kind≠5):TkEnds r:=TkEnds.rest (u:=[t]) h (λ z hz=>by rw [List.mem_singleton.1 hz];exact ht)
mutual
def GW (w:World) (lo hi:Nat):GX->EV->Prop
 |.mk k n s o l p,v=>(v.kind=k/\v.num=n/\v.name.data.toList=s/\v.op=o/\v.p=p/\v.len=l.length/\v.len<=v.cap/\v.cap<=maxLen) /\
  (l=[]∨∃g cs,v.A=some ⟨g,0,none⟩/\lo<=g/\g<hi/\w.heap[g]?=some (.cells cs 55 (0,0))/\GWs w g lo g l 0)
def GWs (w:World) (g a b:Nat):List GX->Nat->Prop
 |[],_=>a<=b
 |x::l,i=>∃m v,a<=m/\m<=b/\EvAt w g (0+i*6) v/\GW w a m x v/\GWs w g m b l (i+1)
end
mutual
theorem GW.same {w w':World}:∀{x:GX} {v:EV} {lo hi:Nat},(∀g,lo<=g->g<hi->w'.heap[g]?=w.heap[g]?)->GW w lo hi x v->GW w' lo hi x v
 |.mk _ _ _ _ l _,_,lo,hi,hs,h=>by
  unfold GW at h ⊢;refine ⟨h.1,?_⟩;rcases h.2 with h2|⟨g,cs,h2,h3,h4,h5,h6⟩
  ·exact .inl h2
  ·exact .inr ⟨g,cs,h2,h3,h4,(hs g h3 h4).trans h5,GWs.same (hs g h3 h4) (λ i h7 h8=>hs i h7 (by omega)) h6⟩
theorem GWs.same {w w':World} {g:Nat} (hg:w'.heap[g]?=w.heap[g]?):∀{l:List GX} {a b i:Nat},(∀j,a<=j->j<b->w'.heap[j]?=w.heap[j]?)->GWs w g a b l i->GWs w' g a b l i
 |[],_,_,_,_,h=>by unfold GWs at h ⊢;exact h
 |x::l,a,b,i,hs,h=>by
  unfold GWs at h ⊢;obtain ⟨m,v,h1,h2,h3,h4,h5⟩:=h;exact ⟨m,v,h1,h2,h3.same hg,GW.same (λ j h6 h7=>hs j h6 (by omega)) h4,GWs.same hg (λ j h6 h7=>hs j (by omega) h7) h5⟩
end
mutual
theorem GW.gv {w:World}:∀{x:GX} {v:EV} {lo hi:Nat},GW w lo hi x v->GV w lo hi x v
 |.mk _ _ _ _ l _,v,lo,hi,h=>by
  unfold GW at h;unfold GV;obtain ⟨⟨a1,a2,a3,a4,a5,a6,a7,a8⟩,h2⟩:=h;refine ⟨a1,a2,a3,a4,a5,a6,a7,a8,?_⟩;rcases h2 with rfl|⟨g,cs,h2,h3,h4,_,h6⟩
  ·unfold GRow;trivial
  ·rw [h2];exact GWs.grow h3 h4 (n_ _) (Nat.le_of_lt h4) h6
theorem GWs.grow {w:World} {g lo hi:Nat} (h1:lo<=g) (h2:g<hi):∀{l:List GX} {a b i:Nat},lo<=a->b<=hi->GWs w g a b l i->GRow w lo hi l (some ⟨g,0,none⟩) i
 |[],_,_,_,_,_,_=>by unfold GRow;trivial
 |x::l,a,b,i,ha,hb,h=>by
  unfold GWs at h;unfold GRow;obtain ⟨m,v,h3,h4,h5,h6,h7⟩:=h;exact ⟨⟨g,0,v,rfl,h1,h2,h5,GV.mono ha (by omega) (GW.gv h6)⟩,GWs.grow h1 h2 (by omega) hb h7⟩
end
theorem GW.leaf (w:World) (lo hi:Nat) (k n o p:Int) (S:ByteArray):GW w lo hi (.mk k n S.data.toList o [] p) ⟨k,n,S,o,none,0,0,p⟩:=by
 unfold GW;exact ⟨⟨rfl,rfl,rfl,rfl,rfl,rfl,n_ _,Nat.zero_le _⟩,.inl rfl⟩
structure Spt where
 kind:Int
 name:List UInt8
 par:Int
 dep:Int
 fin:Int
structure Seg (L:List Spt) (p d:Int) (a:Nat):Prop where
 one:∀(j:Nat) (s:Spt),L[j]?=some s->((a+j:Nat):Int)<s.fin/\s.fin<=((a+L.length:Nat):Int)/\((s.par=p/\s.dep=d)∨∃q t,q<j/\L[q]?=some t/\s.par=((a+q:Nat):Int)/\((a+j:Nat):Int)<t.fin/\s.fin<=t.fin/\s.dep=t.dep+1)
 mid:∀(q j:Nat) (s t:Spt),q<j->L[j]?=some s->L[q]?=some t->((a+j:Nat):Int)<t.fin->∃r,q<=r/\s.par=((a+r:Nat):Int)
theorem Seg.nil (p d:Int) (a:Nat):Seg [] p d a:=⟨λ _ _ h=>by simp at h,λ _ _ _ _ _ h=>by simp at h⟩
theorem Seg.app {L M:List Spt} {p d:Int} {a:Nat} (h:Seg L p d a) (h':Seg M p d (a+L.length)):Seg (L++M) p d a:=by
 refine ⟨λ j s hs=>?_,λ q j s t hq hs ht hf=>?_⟩
 ·by_cases hj:j<L.length
  ·rw [List.getElem?_append_left hj] at hs;obtain ⟨h1,h2,h3⟩:=h.one j s hs;refine ⟨h1,by rw [List.length_append];omega,?_⟩;rcases h3 with h3|⟨q,t,k1,k2,k3⟩
   ·exact .inl h3
   ·exact .inr ⟨q,t,k1,by rw [List.getElem?_append_left (by omega)];exact k2,k3⟩
  ·rw [List.getElem?_append_right (by omega)] at hs;obtain ⟨h1,h2,h3⟩:=h'.one _ s hs;refine ⟨by omega,by rw [List.length_append];omega,?_⟩;rcases h3 with h3|⟨q,t,k1,k2,k3,k4,k5⟩
   ·exact .inl h3
   ·refine .inr ⟨L.length+q,t,by omega,by rw [List.getElem?_append_right (by omega),show L.length+q-L.length=q from by omega];exact k2,by rw [k3];omega,by omega,k5⟩
 ·by_cases hj:j<L.length
  ·rw [List.getElem?_append_left hj] at hs;rw [List.getElem?_append_left (by omega)] at ht;exact h.mid q j s t hq hs ht hf
  ·rw [List.getElem?_append_right (by omega)] at hs
   by_cases hq':q<L.length
   ·rw [List.getElem?_append_left hq'] at ht;have:=(h.one q t ht).2.1;omega
   ·rw [List.getElem?_append_right (by omega)] at ht;obtain ⟨r,k1,k2⟩:=h'.mid _ _ s t (by omega) hs ht (by omega);exact ⟨L.length+r,by omega,by rw [k2];omega⟩
theorem Seg.cons {L:List Spt} {p d:Int} {a:Nat} (k:Int) (nm:List UInt8) (h:Seg L a (d+1) (a+1)):Seg (⟨k,nm,p,d,(a:Int)+1+(L.length:Nat)⟩::L) p d a:=by
 refine ⟨λ j s hs=>?_,λ q j s t hq hs ht hf=>?_⟩
 ·cases j with
  |zero =>
   simp only [z_,j_] at hs;subst hs;refine ⟨by simp only;omega,by simp only [List.length_cons];omega,.inl ⟨rfl,rfl⟩⟩
  |succ j =>
   rw [s_] at hs;obtain ⟨h1,h2,h3⟩:=h.one j s hs;refine ⟨by omega,by rw [List.length_cons];omega,.inr ?_⟩;rcases h3 with ⟨h3,h4⟩|⟨q,t,k1,k2,k3,k4,k5⟩
   ·exact ⟨0,_,by omega,z_,by rw [h3];omega,by simp only;omega,by simp only;omega,h4⟩
   ·exact ⟨q+1,t,by omega,by rw [s_];exact k2,by rw [k3];omega,by omega,k5⟩
 ·obtain ⟨j,rfl⟩:∃i,j=i+1:=⟨j-1,by omega⟩
  rw [s_] at hs
  cases q with
  |zero =>
   rcases (h.one j s hs).2.2 with ⟨h3,_⟩|⟨q,t',k1,_,k3,_⟩
   ·exact ⟨0,n_ _,by rw [h3];omega⟩
   ·exact ⟨q+1,by omega,by rw [k3];omega⟩
  |succ q =>
   rw [s_] at ht;obtain ⟨r,k1,k2⟩:=h.mid q j s t (by omega) hs ht (by omega);exact ⟨r+1,by omega,by rw [k2];omega⟩
structure Fo (F:List Spt):Prop where
 pos:0<F.length
 root:∀s,F[0]?=some s->s.par=-1/\s.fin=((F.length:Nat):Int)
 dep0:∀s,F[0]?=some s->s.dep=0
 par:∀(i:Nat) (s:Spt),0<i->F[i]?=some s->∃(p:Nat) (t:Spt),s.par=(p:Int)/\p<i/\F[p]?=some t/\(i:Int)<t.fin/\s.fin<=t.fin/\s.dep=t.dep+1
 fin:∀(i:Nat) (s:Spt),F[i]?=some s->(i:Int)<s.fin/\s.fin<=((F.length:Nat):Int)
 mid:∀(b i:Nat) (s t:Spt),b<i->F[i]?=some s->F[b]?=some t->(i:Int)<t.fin->∃p:Nat,b<=p/\s.par=(p:Int)
theorem Fo.lam {F:List Spt} (h:Fo F):∀(i b:Nat) (s t:Spt),b<i->F[i]?=some s->F[b]?=some t->(i:Int)<t.fin->s.fin<=t.fin:=by
 intro i
 induction i using Nat.strongRecOn with
 |ind i ih =>
  intro b s t hb hs ht hf;obtain ⟨p,h1,h2⟩:=h.mid b i s t hb hs ht hf;obtain ⟨p',u,k1,k2,k3,k4,k5,_⟩:=h.par i s (by omega) hs
  have e:p'=p:=by omega
  subst e;rcases Nat.eq_or_lt_of_le h1 with e|hlt
  ·subst e;rw [ht] at k3;cases k3;exact k5
  ·have:=ih p' k2 b u t hlt k3 ht (by omega);omega
def spA (F:List Spt) (n:Int):Option Spt:=if 0<=n then F[n.toNat]? else none
def finF (F:List Spt) (n:Int):Int:=match spA F n with|some s=>s.fin|none=>0
def parF (F:List Spt) (n:Int):Int:=match spA F n with|some s=>if s.par<n then s.par else -1|none=>-1
def hasF (F:List Spt) (n:Int):Bool:=decide (0<=n)&&decide (n<(F.length:Nat))
def inW (F:List Spt) (a b:Int):Bool:=hasF F a&&hasF F b&&decide (b<a)&&decide (a<finF F b)
theorem spA_none {F:List Spt} {n:Int} (h:hasF F n=false):spA F n=none:=by
 unfold hasF at h;unfold spA
 by_cases h0:0<=n
 ·rw [if_pos h0];refine List.getElem?_eq_none ?_;simp [h0] at h;omega
 ·rw [if_neg h0]
theorem hasF_of {F:List Spt} {n:Int} (h:hasF F n=true):∃(k:Nat) (s:Spt),n=(k:Int)/\k<F.length/\F[k]?=some s/\spA F n=some s:=by
 unfold hasF at h;simp only [Bool.and_eq_true,decide_eq_true_eq] at h;obtain ⟨h1,h2⟩:=h
 obtain ⟨k,rfl⟩:∃k:Nat,n=(k:Int):=⟨n.toNat,by omega⟩
 have hk:k<F.length:=by omega
 refine ⟨k,F[k],rfl,hk,List.getElem?_eq_getElem hk,?_⟩;unfold spA;rw [if_pos h1,show ((k:Int)).toNat=k from by omega];exact List.getElem?_eq_getElem hk
theorem spA_nat {F:List Spt} (k:Nat):spA F (k:Int)=F[k]?:=by
 unfold spA;rw [if_pos (by omega),show ((k:Int)).toNat=k from by omega]
theorem hasF_nat {F:List Spt} {k:Nat} (h:k<F.length):hasF F (k:Int)=true:=by
 unfold hasF;simp only [Bool.and_eq_true,decide_eq_true_eq];omega
theorem parF_lt {F:List Spt} {n:Int} (h:0<=parF F n):parF F n<n/\hasF F n=true:=by
 unfold parF at *
 cases hs:spA F n with
 |none=>rw [hs] at h;simp at h
 |some s =>
  rw [hs] at h;simp only at h ⊢
  by_cases h1:s.par<n
  ·refine ⟨by rw [if_pos h1];exact h1,?_⟩
   cases hh:hasF F n with
   |true=>rfl
   |false=>rw [spA_none hh] at hs;cases hs
  ·rw [if_neg h1] at h;omega
theorem Fo.par_eq {F:List Spt} (h:Fo F) {i:Nat} {s:Spt} (hs:F[i]?=some s):parF F (i:Int)=s.par:=by
 unfold parF;rw [spA_nat,hs];simp only;rcases Nat.eq_zero_or_pos i with rfl|hi
 ·rw [(h.root s hs).1];rfl
 ·obtain ⟨p,t,k1,k2,_⟩:=h.par i s hi hs;rw [if_pos (by omega)]
theorem inW_iff {F:List Spt} {a b:Int}:inW F a b=true ↔ ∃(i j:Nat) (s t:Spt),a=(i:Int)/\b=(j:Int)/\F[i]?=some s/\F[j]?=some t/\j<i/\(i:Int)<t.fin:=by
 constructor
 ·intro h;unfold inW at h;simp only [Bool.and_eq_true,decide_eq_true_eq] at h;obtain ⟨⟨⟨h1,h2⟩,h3⟩,h4⟩:=h;obtain ⟨i,s,rfl,i1,i2,i3⟩:=hasF_of h1;obtain ⟨j,t,rfl,j1,j2,j3⟩:=hasF_of h2;unfold finF at h4;rw [j3] at h4;exact ⟨i,j,s,t,rfl,rfl,i2,j2,by omega,h4⟩
 ·rintro ⟨i,j,s,t,rfl,rfl,h1,h2,h3,h4⟩;unfold inW finF;rw [spA_nat,h2,hasF_nat (List.getElem?_eq_some_iff.1 h1).1,hasF_nat (List.getElem?_eq_some_iff.1 h2).1];simp only [Bool.true_and,Bool.and_eq_true,decide_eq_true_eq];exact ⟨by omega,h4⟩
theorem Fo.trans {F:List Spt} (h:Fo F) {a b d:Int} (h1:inW F a b=true) (h2:inW F b d=true):inW F a d=true:=by
 obtain ⟨i,j,s,t,rfl,rfl,a1,a2,a3,a4⟩:=inW_iff.1 h1;obtain ⟨j',k,t',u,e1,rfl,b1,b2,b3,b4⟩:=inW_iff.1 h2
 obtain rfl:j=j':=by omega
 have e:t'=t:=by rw [a2] at b1;exact (Option.some.inj b1).symm
 subst e;have:=h.lam j k t' u b3 a2 b2 b4;exact inW_iff.2 ⟨i,k,s,u,rfl,rfl,a1,b2,by omega,by omega⟩
def upL (F:List Spt):Nat->Int->List Int
 |0,_=>[]
 |f+1,n=>if parF F n<0 then [] else parF F n::upL F f (parF F n)
theorem upL_more {F:List Spt}:∀(f:Nat) (n:Int),n<(f:Int)->upL F (f+1) n=upL F f n:=by
 intro f
 induction f with
 |zero =>
  intro n hn;show (if parF F n<0 then [] else _)=[];rw [if_pos]
  by_cases hp:parF F n<0
  ·exact hp
  ·have:=(parF_lt (F:=F) (n:=n) (by omega)).1;omega
 |succ f ih =>
  intro n hn;rw [upL];show _=(if parF F n<0 then [] else parF F n::upL F f (parF F n))
  by_cases hp:parF F n<0
  ·rw [if_pos hp,if_pos hp]
  ·rw [if_neg hp,if_neg hp];have:=(parF_lt (F:=F) (n:=n) (by omega)).1;rw [ih _ (by omega)]
def upF (F:List Spt) (n:Int):List Int:=upL F F.length n
theorem upF_none {F:List Spt} {n:Int} (h:parF F n<0):upF F n=[]:=by
 unfold upF
 cases F.length with
 |zero=>rfl
 |succ f=>rw [upL,if_pos h]
theorem upF_some {F:List Spt} {n:Int} (h:0<=parF F n):upF F n=parF F n::upF F (parF F n):=by
 obtain ⟨h1,h2⟩:=parF_lt h;obtain ⟨k,s,rfl,k1,_⟩:=hasF_of h2;unfold upF;rw [<-upL_more F.length _ (by omega),upL,if_neg (by omega)]
theorem Fo.up {F:List Spt} (h:Fo F):∀(i:Nat) (b:Int),i<F.length->(b∈upF F (i:Int) ↔ inW F (i:Int) b=true):=by
 intro i
 induction i using Nat.strongRecOn with
 |ind i ih =>
  intro b hi;have hs:=List.getElem?_eq_getElem hi;generalize F[i]=s at hs;have hp:=h.par_eq hs;rcases Nat.eq_zero_or_pos i with rfl|hi0
  ·rw [upF_none (by rw [hp,(h.root s hs).1];decide)];constructor
   ·intro hb;cases hb
   ·intro hb;obtain ⟨i',j,_,_,e1,_,_,_,h3,_⟩:=inW_iff.1 hb;omega
  ·obtain ⟨p,t,k1,k2,k3,k4,k5,_⟩:=h.par i s hi0 hs;rw [upF_some (by rw [hp];omega),hp,k1,List.mem_cons,ih p k2 b (by omega)];have hpi:inW F (i:Int) (p:Int)=true:=inW_iff.2 ⟨i,p,s,t,rfl,rfl,hs,k3,k2,k4⟩;constructor
   ·rintro (rfl|hb)
    ·exact hpi
    ·exact h.trans hpi hb
   ·intro hb;obtain ⟨i',j,s',u,e1,rfl,c1,c2,c3,c4⟩:=inW_iff.1 hb
    obtain rfl:i=i':=by omega
    have e:s'=s:=by rw [hs] at c1;exact (Option.some.inj c1).symm
    subst e;obtain ⟨r,d1,d2⟩:=h.mid j i s' u c3 hs c2 c4
    obtain rfl:r=p:=by omega
    rcases Nat.eq_or_lt_of_le d1 with rfl|hlt
    ·exact .inl rfl
    ·exact .inr (inW_iff.2 ⟨r,j,t,u,rfl,rfl,k3,c2,hlt,by omega⟩)
theorem Fo.up_any {F:List Spt} (h:Fo F) (a b:Int):b∈upF F a ↔ inW F a b=true:=by
 cases ha:hasF F a with
 |true =>
  obtain ⟨k,s,rfl,k1,_⟩:=hasF_of ha;exact h.up k b k1
 |false =>
  have e:upF F a=[]:=upF_none (by unfold parF;rw [spA_none ha];show (-1:Int)<0;decide);rw [e];constructor
  ·intro hb;cases hb
  ·intro hb;unfold inW at hb;rw [ha] at hb;cases hb
def onW (F:List Spt) (n m:Int):Bool:=decide (n=m) || inW F n m
def covF (F:List Spt) (m:Int) (ns:List Int):Bool:=ns.all (λ n=>onW F n m)&&hasF F m
def goF (F:List Spt) (ns:List Int) (m:Int):Int:=((m::upF F m).find? λ m=>covF F m ns).getD (-1)
def meetF (F:List Spt) (ns:List Int):Int:=match ns with | []=>-1|n::_=>goF F ns n
theorem covF_neg {F:List Spt} {m:Int} (ns:List Int) (h:m<0):covF F m ns=false:=by
 have:hasF F m=false:=by unfold hasF;simp;omega
 unfold covF;rw [this,Bool.and_false]
theorem parF_neg {F:List Spt} {m:Int} (h:m<0):parF F m<0:=by
 by_cases hp:parF F m<0
 ·exact hp
 ·have:=(parF_lt (F:=F) (n:=m) (by omega)).1;omega
theorem goF_neg {F:List Spt} {ns:List Int} {m:Int} (h:m<0):goF F ns m=-1:=by
 unfold goF;rw [upF_none (parF_neg h),List.find?_cons,covF_neg ns h];rfl
theorem goF_yes {F:List Spt} {ns:List Int} {m:Int} (h:covF F m ns=true):goF F ns m=m:=by
 unfold goF;rw [List.find?_cons,h];rfl
theorem goF_no {F:List Spt} {ns:List Int} {m:Int} (h:covF F m ns=false):goF F ns m=goF F ns (parF F m):=by
 by_cases hp:parF F m<0
 ·rw [goF_neg hp];unfold goF;rw [upF_none hp,List.find?_cons,h];rfl
 ·unfold goF;rw [upF_some (by omega),List.find?_cons,h]
theorem upL_lt {F:List Spt}:∀(f:Nat) (n:Int),∀m∈upL F f n,m<n
 |0,_,m,h=>by cases h
 |f+1,n,m,h=>by
  rw [upL] at h
  by_cases hp:parF F n<0
  ·rw [if_pos hp] at h;cases h
  ·rw [if_neg hp] at h;have:=(parF_lt (F:=F) (n:=n) (by omega)).1;rcases List.mem_cons.1 h with rfl|h
   ·exact this
   ·have:=upL_lt f _ m h;omega
theorem covF_iff {F:List Spt} {m:Int} {ns:List Int}:covF F m ns=true ↔ (∀n∈ns,onW F n m=true)/\hasF F m=true:=by
 unfold covF;rw [Bool.and_eq_true,List.all_eq_true]
theorem find_first {F:List Spt} {p:Int->Bool}:∀(f:Nat) (n m:Int),m∈n::upL F f n->p m=true->∃k,(n::upL F f n).find? p=some k/\p k=true/\m<=k:=by
 intro f
 induction f with
 |zero =>
  intro n m h hp;rcases List.mem_cons.1 h with rfl|h
  ·exact ⟨m,by rw [List.find?_cons,hp],hp,Int.le_refl _⟩
  ·cases h
 |succ f ih =>
  intro n m h hp
  cases hn:p n with
  |true =>
   refine ⟨n,by rw [List.find?_cons,hn],hn,?_⟩;rcases List.mem_cons.1 h with rfl|h
   ·exact Int.le_refl _
   ·have:=upL_lt _ n m h;omega
  |false =>
   rw [List.find?_cons,hn];rcases List.mem_cons.1 h with rfl|h
   ·rw [hn] at hp;cases hp
   ·rw [upL] at h ⊢
    by_cases hq:parF F n<0
    ·rw [if_pos hq] at h;cases h
    ·rw [if_neg hq] at h ⊢;exact ih _ m h hp
theorem Fo.meet {F:List Spt} (h:Fo F) (ns:List Int) (hn:ns≠[]):(meetF F ns=-1/\∀m,covF F m ns=false)∨(covF F (meetF F ns) ns=true/\∀m,covF F m ns=true->m<=meetF F ns):=by
 cases ns with
 |nil=>exact absurd rfl hn
 |cons n l =>
  show (goF F (n::l) n=-1/\_)∨(covF F (goF F (n::l) n) _=true/\_)
  have key:∀m,covF F m (n::l)=true->m∈n::upF F n:=λ m hm=>by
   have:=(covF_iff.1 hm).1 n (List.mem_cons_self ..);unfold onW at this;rw [Bool.or_eq_true,decide_eq_true_eq] at this;rcases this with rfl|this
   ·exact List.mem_cons_self ..
   ·exact List.mem_cons_of_mem _ ((h.up_any n m).2 this)
  by_cases he:∃m,covF F m (n::l)=true
  ·obtain ⟨m,hm⟩:=he;obtain ⟨k,k1,k2,_⟩:=find_first (p:=λ m=>covF F m (n::l)) _ n m (key m hm) hm
   have e:goF F (n::l) n=k:=by
    unfold goF upF;rw [k1];rfl
   rw [e];refine .inr ⟨k2,λ m' hm'=>?_⟩;obtain ⟨k',k1',_,k3'⟩:=find_first (p:=λ m=>covF F m (n::l)) _ n m' (key m' hm') hm';have e':k=k':=Option.some.inj (k1.symm.trans k1');show m'<=goF F (n::l) n;rw [e,e'];exact k3'
  ·have hno:∀m,covF F m (n::l)=false:=λ m=>by
    cases hm:covF F m (n::l) with
    |false=>rfl
    |true=>exact absurd ⟨m,hm⟩ he
   refine .inl ⟨?_,hno⟩;unfold goF;have:(n::upF F n).find? (λ m=>covF F m (n::l))=none:=List.find?_eq_none.2 (λ m _=>by simp [hno m]);rw [this];rfl
theorem inW_nat {F:List Spt} {i k:Nat} {t:Spt} (hk:k<F.length) (ht:F[i]?=some t):inW F (k:Int) (i:Int)=(decide ((i:Int)<(k:Int))&&decide ((k:Int)<t.fin)):=by
 unfold inW finF;rw [spA_nat,ht,hasF_nat hk,hasF_nat (List.getElem?_eq_some_iff.1 ht).1];rfl
section
variable {P:Program} {ops:Array Oper} {Q:Exit->Act->World->Prop}
def updV (vals:Nat->Option Value) (i:Nat) (v:Value):Nat->Option Value:=λ j=>if j=i then some v else vals j
theorem updV_same (vals:Nat->Option Value) (i:Nat) (v:Value):updV vals i v i=some v:=if_pos rfl
theorem updV_ne (vals:Nat->Option Value) {i j:Nat} (v:Value) (h:j≠i):updV vals i v j=vals j:=if_neg h
def put1 (ops:Array Oper) (vals:Nat->Option Value) (a:Act) (i:Nat):Act :=
 match vals i,ops[i]? with
 |some v,some o=>a.put o.dst v
 |_,_=>a
def puts (ops:Array Oper) (vals:Nat->Option Value) (L:List Nat) (a:Act):Act:=L.foldl (put1 ops vals) a
theorem put_comm {a:Act} {d e:Option Tmp} {u v:Value} (h:d=none∨e=none∨d≠e):(a.put d u).put e v=(a.put e v).put d u:=by
 cases d with
 |none=>rfl
 |some d =>
  cases e with
  |none=>rfl
  |some e =>
   have hne:d≠e:=by
    rcases h with h|h|h
    ·cases h
    ·cases h
    ·exact λ hh=>h (by rw [hh])
   show ({ a with tmps:=(a.tmps.setIfInBounds d u).setIfInBounds e v }:Act)={ a with tmps:=(a.tmps.setIfInBounds e v).setIfInBounds d u };rw [Array.setIfInBounds_comm _ _ hne]
theorem puts_put {vals:Nat->Option Value} {d:Option Tmp} {v:Value}:∀(L:List Nat) (a:Act),(∀j∈L,∀o,ops[j]?=some o->o.dst=none∨d=none∨o.dst≠d)->(puts ops vals L a).put d v=puts ops vals L (a.put d v)
 |[],a,_=>rfl
 |j::L,a,h=>by
  show (puts ops vals L (put1 ops vals a j)).put d v=puts ops vals L (put1 ops vals (a.put d v) j);rw [puts_put L _ (λ k hk=>h k (by simp [hk]))]
  congr 1
  unfold put1
  split
  ·rename_i u o hu ho;exact put_comm (h j (by simp) o ho)
  ·rfl
theorem puts_upd {vals:Nat->Option Value} {i:Nat} {v:Value}:∀(L:List Nat) (a:Act),i∉L->puts ops (updV vals i v) L a=puts ops vals L a
 |[],a,_=>rfl
 |j::L,a,h=>by
  have hj:j≠i:=λ e=>h (by rw [e];simp);show puts ops (updV vals i v) L (put1 ops (updV vals i v) a j)=puts ops vals L (put1 ops vals a j);rw [puts_upd L _ (λ e=>h (by simp [e]))]
  congr 1
  unfold put1;rw [updV_ne vals v hj]
theorem puts_set {vals:Nat->Option Value} {i:Nat} {o:Oper} {v:Value} (ho:ops[i]?=some o) (hv:vals i=none):∀(L:List Nat) (a:Act),L.Nodup->i∈L->(∀j∈L,j≠i->∀p,ops[j]?=some p->p.dst=none∨o.dst=none∨p.dst≠o.dst) ->
  puts ops (updV vals i v) L a=(puts ops vals L a).put o.dst v
 |[],a,_,hi,_=>by simp at hi
 |j::L,a,hn,hi,hd=>by
  rw [List.nodup_cons] at hn
  by_cases hj:j=i
  ·subst hj;show puts ops (updV vals j v) L (put1 ops (updV vals j v) a j)=(puts ops vals L (put1 ops vals a j)).put o.dst v;rw [puts_upd L _ hn.1,puts_put L _ (λ k hk p hp=>hd k (by simp [hk]) (λ e=>hn.1 (e ▸ hk)) p hp)]
   congr 1
   unfold put1;rw [updV_same,ho,hv]
  ·show puts ops (updV vals i v) L (put1 ops (updV vals i v) a j)=(puts ops vals L (put1 ops vals a j)).put o.dst v
   have hiL:i∈L:=by
    rcases List.mem_cons.1 hi with h|h
    ·exact absurd h.symm hj
    ·exact h
   rw [puts_set ho hv L _ hn.2 hiL (λ k hk=>hd k (by simp [hk]))]
   congr 2
   unfold put1;rw [updV_ne vals v hj]
def freeB (ops:Array Oper):Bool :=
 ((List.range ops.size).all λ i=>(List.range ops.size).all λ j=>i==j || (match ops[i]?,ops[j]? with|some o,some p=>o.dst.isNone || p.dst.isNone || o.dst != p.dst|_,_=>true)) &&
 ((List.range ops.size).all λ i=>match ops[i]? with|some o=>o.guard.isNone&&o.after.all (λ e=>!Region.binds .any e || decide (e.on<i))|none=>true)
theorem freeB_dst (h:freeB ops=true) {i j:Nat} {o p:Oper} (hi:ops[i]?=some o) (hj:ops[j]?=some p) (hne:j≠i):p.dst=none∨o.dst=none∨p.dst≠o.dst:=by
 unfold freeB at h;rw [Bool.and_eq_true] at h;have h1:=List.all_eq_true.1 (List.all_eq_true.1 h.1 j (List.mem_range.2 (Array.getElem?_eq_some_iff.1 hj).1)) i (List.mem_range.2 (Array.getElem?_eq_some_iff.1 hi).1);simp only [hi,hj,Bool.or_eq_true,beq_iff_eq,Option.isNone_iff_eq_none,bne_iff_ne] at h1;rcases h1 with h1|(h1|h1)|h1
 ·exact absurd h1 hne
 ·exact .inl h1
 ·exact .inr (.inl h1)
 ·exact .inr (.inr h1)
theorem freeB_op (h:freeB ops=true) {i:Nat} {o:Oper} (hi:ops[i]?=some o):o.guard=none/\∀e∈o.after,Region.binds .any e=true->e.on<i:=by
 unfold freeB at h;rw [Bool.and_eq_true] at h;have h1:=List.all_eq_true.1 h.2 i (List.mem_range.2 (Array.getElem?_eq_some_iff.1 hi).1);simp only [hi,Bool.and_eq_true,Option.isNone_iff_eq_none,Array.all_eq_true_iff_forall_mem,Bool.or_eq_true,Bool.not_eq_true',decide_eq_true_eq] at h1;refine ⟨h1.1,λ e he hb=>?_⟩;rcases h1.2 e he with h2|h2
 ·rw [h2] at hb;cases hb
 ·exact h2
theorem all_come (h:freeB ops=true) {listed:Array Bool} (hr:Region.ready .any ops listed=[]):∀i,i<ops.size->listed.getD i true=true:=by
 intro i
 induction i using Nat.strongRecOn with
 |_ i ih =>
  intro hi
  by_cases c:listed.getD i true=true
  ·exact c
  ·have c':listed.getD i true=false:=by simpa using c
   have hm:i∈Region.ready .any ops listed:=by
    refine mem_ready.2 ⟨c',ops[i],Array.getElem?_eq_getElem hi,λ e he hb=>?_⟩;have h1:=(freeB_op h (Array.getElem?_eq_getElem hi)).2 e he hb;have h2:=ih e.on h1 (by omega);rw [Array.getD_eq_getD_getElem?] at h2 ⊢
    cases hh:listed[e.on]? with
    |some b=>rw [hh] at h2;exact h2
    |none =>
     exfalso;have h3:=Array.getElem?_eq_none_iff.1 hh;rw [Array.getD_eq_getD_getElem?,Array.getElem?_eq_none (by omega)] at c';cases c'
   rw [hr] at hm;cases hm
theorem wpAny_free (base:Act) (hB:freeB ops=true) (I:(Nat->Option Value)->World->Prop)
  (hstep:∀vals w i o,I vals w->ops[i]?=some o->vals i=none->(∀e∈o.after,Region.binds .any e=true->(vals e.on).isSome=true) ->
   o.wp P (puts ops vals (List.range ops.size) base) w (λ a' w'=>∃v,a'=(puts ops vals (List.range ops.size) base).put o.dst v/\I (updV vals i v) w') Q)
  (hdone:∀vals w,I vals w->(∀i,i<ops.size->(vals i).isSome=true)->Q .normal (puts ops vals (List.range ops.size) base) w) :
  ∀(fuel:Nat) (listed:Array Bool) (vals:Nat->Option Value) (w:World) (S:List Nat),listed.size=ops.size->(∀i,i<ops.size->listed.getD i true=(vals i).isSome)->S.length<=fuel->(∀i,i<ops.size->vals i=none->i∈S)->I vals w ->
   wpAny P .any ops Q fuel listed (puts ops vals (List.range ops.size) base) w
 |0,listed,vals,w,S,hs,hl,hf,hS,hI=>by
  have hall:∀i,i<ops.size->(vals i).isSome=true:=λ i hi=>by
   cases hv:vals i with
   |some v=>rfl
   |none =>
    have:=hS i hi hv;rw [List.eq_nil_of_length_eq_zero (Nat.le_zero.1 hf)] at this;cases this
  refine ⟨?_,hdone vals w hI hall⟩;refine List.eq_nil_iff_forall_not_mem.2 λ i hi=>?_;obtain ⟨h1,o,ho,_⟩:=mem_ready.1 hi;have hlt:=(Array.getElem?_eq_some_iff.1 ho).1;rw [hl i hlt,hall i hlt] at h1;cases h1
 |fuel+1,listed,vals,w,S,hs,hl,hf,hS,hI=>by
  refine ⟨λ hr=>hdone vals w hI (λ i hi=>by rw [<-hl i hi];exact all_come hB hr i hi),λ i hi=>?_⟩;obtain ⟨h1,o,ho,hdep⟩:=mem_ready.1 hi;have hlt:=(Array.getElem?_eq_some_iff.1 ho).1
  have hv:vals i=none:=by
   rw [hl i hlt] at h1;simpa using h1
  have hst:=hstep vals w i o hI ho hv (λ e he hb=>by
   have h2:=hdep e he hb
   have hlt2:e.on<ops.size:=by have:=(freeB_op hB ho).2 e he hb;omega
   rw [<-hl e.on hlt2];rw [Array.getD_eq_getD_getElem?] at h2 ⊢
   cases hh:listed[e.on]? with
   |some b=>rw [hh] at h2;exact h2
   |none=>rfl)
  have hg:=(freeB_op hB ho).1;unfold wpOp;rw [ho];simp only;rw [if_pos (by simp [Region.wanted,hg])];left;refine Oper.wp_mono (λ a' w' hh=>?_) hst;obtain ⟨v,rfl,hI'⟩:=hh;rw [<-puts_set ho hv (List.range ops.size) base List.nodup_range (List.mem_range.2 hlt) (λ j hj hne p hp=>freeB_dst hB ho hp hne)];refine wpAny_free base hB I hstep hdone fuel _ (updV vals i v) w' (S.erase i) (by simpa using hs) (λ j hj=>?_) ?_ (λ j hj hn=>?_) hI'
  ·by_cases c:j=i
   ·subst c;rw [updV_same,Array.getD_eq_getD_getElem?,Array.getElem?_setIfInBounds_self_of_lt (by omega)];rfl
   ·rw [updV_ne vals v c,<-hl j hj,Array.getD_eq_getD_getElem?,Array.getD_eq_getD_getElem?,Array.getElem?_setIfInBounds_ne (λ e=>c e.symm)]
  ·have:=List.length_erase_of_mem (hS i hlt hv);omega
  ·by_cases c:j=i
   ·subst c;rw [updV_same] at hn;cases hn
   ·rw [updV_ne vals v c] at hn;exact (List.mem_erase_of_ne c).2 (hS j hj hn)
def slotOf (ops:Array Oper) (j:Nat):Nat:=((ops[j]?).bind (·.dst)).getD 0
theorem puts_other (vals:Nat->Option Value) (k:Nat):∀(L:List Nat) (a:Act),(∀j∈L,∀o,ops[j]?=some o->o.dst≠some k)->(puts ops vals L a).tmps[k]?=a.tmps[k]?
 |[],a,_=>rfl
 |j::L,a,h=>by
  show (puts ops vals L (put1 ops vals a j)).tmps[k]?=_;rw [puts_other vals k L _ (λ i hi=>h i (by simp [hi]))];unfold put1
  split
  ·rename_i v o hv ho;have:=h j (by simp) o ho;unfold Act.put
   split
   ·rename_i d hd;rw [hd] at this;exact Array.getElem?_setIfInBounds_ne (λ e=>this (by rw [e]))
   ·rfl
  ·rfl
theorem puts_at {vals:Nat->Option Value} {i:Nat} {o:Oper} {v:Value} {d:Tmp} (ho:ops[i]?=some o) (hd:o.dst=some d) (hv:vals i=some v):∀(L:List Nat) (a:Act),L.Nodup->i∈L->d<a.tmps.size->(∀j∈L,j≠i->∀p,ops[j]?=some p->p.dst=none∨o.dst=none∨p.dst≠o.dst)->(puts ops vals L a).tmps[d]?=some v
 |[],a,_,hi,_,_=>by simp at hi
 |j::L,a,hn,hi,hsz,hdd=>by
  rw [List.nodup_cons] at hn
  by_cases hj:j=i
  ·subst hj;show (puts ops vals L (put1 ops vals a j)).tmps[d]?=_
   rw [puts_other vals d L _ (λ k hk p hp e=>by
    rcases hdd k (by simp [hk]) (λ e=>hn.1 (e ▸ hk)) p hp with h|h|h
    ·rw [h] at e;cases e
    ·rw [h] at hd;cases hd
    ·exact h (by rw [e,hd]))]
   unfold put1;rw [hv,ho];simp only [Act.put,hd];exact Array.getElem?_setIfInBounds_self_of_lt hsz
  ·show (puts ops vals L (put1 ops vals a j)).tmps[d]?=_
   have hiL:i∈L:=by
    rcases List.mem_cons.1 hi with h|h
    ·exact absurd h.symm hj
    ·exact h
   refine puts_at ho hd hv L _ hn.2 hiL ?_ (λ k hk=>hdd k (by simp [hk]));unfold put1
   split
   ·unfold Act.put
    split <;> simp [hsz]
   ·exact hsz
def depsB (ops:Array Oper) (D:Nat->List Nat):Bool :=
 (List.range ops.size).all λ i=>match ops[i]? with
  |some o=>(D i).all λ j=>decide (j<i)&&o.after.any (λ e=>e.on==j&&Region.binds .any e)&&(match ops[j]? with|some p=>p.dst.isSome|none=>false)
  |none=>true
def outB (ops:Array Oper) (k:Nat):Bool:=ops.all λ o=>o.dst != some k
def inB (ops:Array Oper) (n:Nat):Bool:=ops.all λ o=>match o.dst with|some d=>decide (d<n)|none=>true
def coverB (ops:Array Oper) (last:Nat):Bool :=
 (List.range last).all λ i=>(List.range (last+1)).any λ k=>decide (i<k)&&(match ops[k]? with|some o=>o.after.any (λ e=>e.on==i&&Region.binds .any e)|none=>false)
theorem cover_all {last:Nat} (hc:coverB ops last=true) {p:Nat->Prop} (hp:∀k o,k<=last->ops[k]?=some o->(k=last∨p k)->∀e∈o.after,Region.binds .any e=true->p e.on):∀i,i<last->p i:=by
 have main:∀d i,i<last->last-i<=d->p i:=by
  intro d
  induction d with
  |zero=>intro i hi hd;omega
  |succ d ih =>
   intro i hi hd;unfold coverB at hc;obtain ⟨k,hk,hh⟩:=List.any_eq_true.1 (List.all_eq_true.1 hc i (List.mem_range.2 hi));rw [Bool.and_eq_true,decide_eq_true_eq] at hh;have hkl:=List.mem_range.1 hk;obtain ⟨h1,h2⟩:=hh
   cases ho:ops[k]? with
   |none=>rw [ho] at h2;cases h2
   |some o =>
    rw [ho] at h2;simp only at h2;rw [<-Array.any_toList] at h2;obtain ⟨e,he0,h3⟩:=List.any_eq_true.1 h2;have he:e∈o.after:=Array.mem_toList_iff.1 he0;rw [Bool.and_eq_true,beq_iff_eq] at h3
    have:=hp k o (by omega) ho (by
     by_cases c:k=last
     ·exact .inl c
     ·exact .inr (ih k (by omega) (by omega))) e he h3.2
    rw [h3.1] at this;exact this
 exact λ i hi=>main (last-i) i hi (n_ _)
end
end Go.Proofs.YtocecpghoncmgaaGreatDoor
