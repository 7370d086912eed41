import Derived.Test.YtifekcbinjdfbaaGreatDoorQh
import Derived.Test.YtifekcbinjdfbaaGreatDoorQXA
import Derived.Laws.AppendOwn
import Derived.Laws.OwnMore
import Derived.RegionTactic
set_option maxHeartbeats 12800000
set_option maxRecDepth 20000
namespace Go.Proofs.YtifekcbinjdfbaaGreatDoor
open Go.RowKit
def tokR (m:List UInt8):Value:=.tuple #[if tkE m=0 then tkV (tkT m 0) else tkV noTk,.int .i64 (if tkE m=0 then (tkS m:Int) else 0),.int .i64 (tkE m)]
theorem tokR_nil:tokR []=.tuple #[tkV ⟨5,[],0,0⟩,.int .i64 0,.int .i64 0]:=rfl
theorem tokR_word {c:UInt8} {r:List UInt8} (h:isLt c=true):tokR (c::r)=wordR (c::r):=by
 have e:wsz (c::r)=wdK (c::r):=by rw [wsz_cons,if_pos h]
 rw [tokR,wordR,tkE_cons,tkS_cons,tkT_cons,e,if_pos h,if_pos h,if_pos h]
 by_cases hl:24<wdK (c::r)
 ·simp only [if_pos hl];rfl
 ·simp only [if_neg hl,if_true]
theorem tokR_int {c:UInt8} {r:List UInt8} (h1:isLt c=false) (h:isDg c=true):tokR (c::r)=intR (c::r):=by
 rw [tokR,intR,tkE_cons,tkS_cons,tkT_cons,h1,h]
 by_cases hE:pE (c::r)=0
 ·by_cases hl:dgK (c::r)<wdK (c::r)
  ·simp [hE,hl]
  ·simp [hE,hl]
 ·simp [hE]
theorem tokR_sign {c:UInt8} {r:List UInt8} (h1:isLt c=false) (h:isDg c=false):tokR (c::r)=signR (c::r):=by
 rw [tokR,signR,tkE_cons,tkS_cons,tkT_cons,h1,h]
 by_cases hl:sgn (c::r)=0
 ·simp [hl]
 ·simp [hl]
theorem tokR_form (m:List UInt8):∃t:Tk,tokR m=.tuple #[.agg #[.int .i64 t.kind,txV t.text,.int .i64 t.num,.int .i64 t.at_],.int .i64 (if tkE m=0 then (tkS m:Int) else 0),.int .i64 (tkE m)]/\t=if tkE m=0 then tkT m 0 else noTk:=by
 refine ⟨_,?_,rfl⟩;rw [tokR]
 by_cases h:tkE m=0
 ·rw [if_pos h,if_pos h,if_pos h];rfl
 ·rw [if_neg h,if_neg h,if_neg h];rfl
theorem drop_cons (s:ByteArray) (p:Nat) (h:p<s.size):s.data.toList.drop p=s[p]::s.data.toList.drop (p+1):=by
 rw [<-get_list s p h,List.getElem_cons_drop]
theorem token_any (w:World) (b p:Nat) (s:ByteArray) (h:Scn w b p s) (hp:p<=s.size) (hs:s.size<=140737488351232) (hK:KwAt w) (hE:ErrAt w) :
  Calls Tryz.prog 87 #[.pointer (some ⟨b,0,none⟩)] w λ e w'=>e=.returned (tokR (s.data.toList.drop p))/\Below w.heap.size w w':=by
 have HS:=h_ h;have HKW:=h_ hK;have HER:=h_ hE
 obtain ⟨r,hr⟩:∃r,s.extract p s.size=r:=⟨_,rfl⟩
 have hrs:r.size<=140737488351232:=by rw [<-hr,ByteArray.size_extract];omega
 have HR:=h_ (λ W (h:Scn W b p s)=>rest_any W b p s h hp);have HX:=h_ (extract_drop s p);rw [hr] at HR HX;have HSG:=h_ (λ W (h:Scn W b p s)=>sign_any W b p s h hp hs);have HWO:=h_ (λ W hK=>word_any W r hrs hK);have HIN:=h_ (λ W hE=>integer_any W r hrs hE)
 obtain ⟨m,hm⟩:∃m,s.data.toList.drop p=m:=⟨_,rfl⟩
 rw [hm] at HX HSG ⊢;have hrl:r.data.toList=m:=HX.out;rw [hrl] at HWO HIN
 have HML:Hid (m.length=r.size):=by
  show _=_;rw [<-hrl];rfl
 have HRL:=h_ hrl;clear h hK hE hr hm hrl HX;go_enter Tryz.func87,Tryz.ntmps87;go_wp2_with fail
 obtain ⟨W0,hW0⟩:∃W0,W0=w.alloc (.cells #[.int .i64 0,.string ⟨#[]⟩,.int .i64 0,.int .i64 0] 107):=⟨_,rfl⟩
 rw [<-hW0]
 have HT0:Hid (TkB W0 w.heap.size (.int .i64 0) (.string ⟨#[]⟩) (.int .i64 0) (.int .i64 0)):=by rw [hW0];exact TkB.new _ _ _ _ _
 have HS0:Hid (Scn W0 b p s):=by rw [hW0];exact HS.out.alloc _
 have HB0:Hid (Below w.heap.size w W0):=by rw [hW0];exact (b_ _ w).alloc (n_ _) _
 clear hW0;refine (HR.out W0 HS0.out).mono ?_;rintro e w1 ⟨rfl,n,rfl⟩;have HT1:Hid (TkB (W0.drewN n) w.heap.size (.int .i64 0) (.string ⟨#[]⟩) (.int .i64 0) (.int .i64 0)):=HT0.out;have HS1:Hid (Scn (W0.drewN n) b p s):=HS0.out;have HB1:Hid (Below w.heap.size w (W0.drewN n)):=HB0.out.trans ((drewN_below W0 n).mono HB0.out.size)
 obtain ⟨W1,hW1⟩:∃W1,W1=W0.drewN n:=⟨_,rfl⟩
 rw [<-hW1] at HT1 HS1 HB1 ⊢;clear hW1 HT0 HS0 HB0
 cases hl:r.toList.isEmpty with
 |true =>
  have hm:m=[]:=by
   rw [Lib.toList_data,HRL.out] at hl;simpa using hl
  have HR0:Hid (tokR m=.tuple #[tkV ⟨5,[],0,0⟩,.int .i64 0,.int .i64 0]):=by show _=_;rw [hm];exact tokR_nil
  clear hm;have c0:=HT1.out.c0;have c1:=HT1.out.c1;have c2:=HT1.out.c2;have c3:=HT1.out.c3;have f0:=HT1.out.fr 0;have f1:=HT1.out.fr 1;have f2:=HT1.out.fr 2;have f3:=HT1.out.fr 3;go_wp2_with fail;refine bodyPost_ret (TkB.res3 rfl _ rfl (HT1.out.all _ _ _ _)) rfl ?_;refine ⟨?_,below_all HB1.out (n_ _) _ _ _ _⟩;rw [HR0.out];rfl
 |false =>
  have hpos:0<r.size:=by
   rcases Nat.eq_zero_or_pos r.size with h0|h0
   ·rw [Lib.toList_data,List.eq_nil_of_length_eq_zero (l:=r.data.toList) h0] at hl;cases hl
   ·exact h0
  have hpos':(0:Int)<r.size:=by omega
  have hcons:=drop_cons r 0 hpos;rw [List.drop_zero,HRL.out] at hcons;obtain ⟨t,ht,ht2⟩:=tokR_form m
  obtain ⟨k,hk⟩:∃k,(if tkE m=0 then (tkS m:Int) else 0)=k:=⟨_,rfl⟩
  obtain ⟨c,hc⟩:∃c,tkE m=c:=⟨_,rfl⟩
  obtain ⟨X,hX⟩:∃X,txV t.text=.string X:=⟨_,rfl⟩
  rw [hk,hc,hX] at ht;clear ht2 hk hc hX;have HTF:=h_ ht;have HLE:=h_ (λ W=>letter_any r[0] W);have HDI:=h_ (λ W=>digit_any r[0] W)
  obtain ⟨d1,hd1⟩:∃d,isLt r[0]=d:=⟨_,rfl⟩
  obtain ⟨d2,hd2⟩:∃d,isDg r[0]=d:=⟨_,rfl⟩
  rw [hd1] at HLE;rw [hd2] at HDI;cases d1
  ·cases d2
   ·have e:tokR m=signR m:=by rw [hcons];exact tokR_sign hd1 hd2
    rw [<-e,ht] at HSG;clear hd1 hd2 hcons ht e;go_wp2_with fail;refine (HLE.out W1).mono ?_;rintro e w2 ⟨rfl,rfl⟩;go_wp2_with fail;refine (HDI.out W1).mono ?_;rintro e w2 ⟨rfl,rfl⟩;go_wp2_with fail;refine (HSG.out W1 HS1.out).mono ?_;rintro e w2 ⟨rfl,hb⟩;have HT2:=h_ (HT1.out.below hb);have HB2:Hid (Below w.heap.size w w2):=HB1.out.trans (hb.mono HB1.out.size);clear hb;have c0:=HT2.out.c0;have c1:=HT2.out.c1;have c2:=HT2.out.c2;have c3:=HT2.out.c3;have f0:=HT2.out.fr 0;have f1:=HT2.out.fr 1;have f2:=HT2.out.fr 2;have f3:=HT2.out.fr 3;go_wp2_with fail;refine bodyPost_ret (TkB.res3 rfl _ rfl (HT2.out.all _ _ _ _)) rfl ?_;refine ⟨?_,below_all HB2.out (n_ _) _ _ _ _⟩;rw [HTF.out];rfl
   ·have e:tokR m=intR m:=by rw [hcons];exact tokR_int hd1 hd2
    rw [<-e,ht] at HIN;clear hd1 hd2 hcons ht e;go_wp2_with fail;refine (HLE.out W1).mono ?_;rintro e w2 ⟨rfl,rfl⟩;go_wp2_with fail;refine (HDI.out W1).mono ?_;rintro e w2 ⟨rfl,rfl⟩;go_wp2_with fail;refine (HIN.out W1 (errAt_below HER.out HB1.out)).mono ?_;rintro e w2 ⟨rfl,hb⟩;have HT2:=h_ (HT1.out.below hb);have HB2:Hid (Below w.heap.size w w2):=HB1.out.trans (hb.mono HB1.out.size);clear hb;have c0:=HT2.out.c0;have c1:=HT2.out.c1;have c2:=HT2.out.c2;have c3:=HT2.out.c3;have f0:=HT2.out.fr 0;have f1:=HT2.out.fr 1;have f2:=HT2.out.fr 2;have f3:=HT2.out.fr 3;go_wp2_with fail;refine bodyPost_ret (TkB.res3 rfl _ rfl (HT2.out.all _ _ _ _)) rfl ?_;refine ⟨?_,below_all HB2.out (n_ _) _ _ _ _⟩;rw [HTF.out];rfl
  ·have e:tokR m=wordR m:=by rw [hcons];exact tokR_word hd1
   rw [<-e,ht] at HWO;clear hd1 hd2 hcons ht e;go_wp2_with fail;refine (HLE.out W1).mono ?_;rintro e w2 ⟨rfl,rfl⟩;go_wp2_with fail;refine (HWO.out W1 (HKW.out.below HB1.out)).mono ?_;rintro e w2 ⟨rfl,hb⟩;have HT2:=h_ (HT1.out.below hb);have HB2:Hid (Below w.heap.size w w2):=HB1.out.trans (hb.mono HB1.out.size);clear hb;have c0:=HT2.out.c0;have c1:=HT2.out.c1;have c2:=HT2.out.c2;have c3:=HT2.out.c3;have f0:=HT2.out.fr 0;have f1:=HT2.out.fr 1;have f2:=HT2.out.fr 2;have f3:=HT2.out.fr 3;go_wp2_with fail;refine bodyPost_ret (TkB.res3 rfl _ rfl (HT2.out.all _ _ _ _)) rfl ?_;refine ⟨?_,below_all HB2.out (n_ _) _ _ _ _⟩;rw [HTF.out];rfl
theorem tkT_at (m:List UInt8) (p:Int):tkT m p=⟨(tkT m 0).kind,(tkT m 0).text,(tkT m 0).num,p⟩:=by
 cases m with
 |nil=>rfl
 |cons c r =>
  rw [tkT_cons,tkT_cons]
  split
  ·rfl
  ·split <;> rfl
theorem Scn.mv {w w':World} {b g p:Nat} {s:ByteArray} (h:Scn w b p s) (hb:Mv g w w') (hn:b≠g):Scn w' b p s:=(hb.block h.lt hn).trans h
theorem KwAt.mv {w w':World} {g:Nat} (h:KwAt w) (hb:Mv g w w') (hn:0≠g):KwAt w':=by
 obtain ⟨t,fr,h⟩:=h;refine ⟨t,fr,?_⟩;rw [hb.block ?_ hn]
 ·exact h
 ·rcases Nat.lt_or_ge 0 w.heap.size with h'|h'
  ·exact h'
  ·rw [Array.getElem?_eq_none h'] at h;cases h
theorem ErrAt.lt {w:World} (h:ErrAt w):7<w.heap.size:=by
 obtain ⟨tp,p,hc⟩:=h;exact World.block_lt_of_cell? w _ hc
theorem KwAt.lt {w:World} (h:KwAt w):0<w.heap.size:=by
 obtain ⟨t,fr,h⟩:=h;rcases Nat.lt_or_ge 0 w.heap.size with h'|h'
 ·exact h'
 ·rw [Array.getElem?_eq_none h'] at h;cases h
theorem ErrAt.mv {w w':World} {g:Nat} (h:ErrAt w) (hb:Mv g w w') (hn:7≠g):ErrAt w':=by
 have hl:=h.lt;obtain ⟨tp,p,hc⟩:=h;exact ⟨tp,p,by rw [World.cell?_of_block (w:=w) (hb.block hl hn)];exact hc⟩
def takeR (m:List UInt8) (q:Nat):Value:=.tuple #[if tkE m=0 then tkV (tkT m q) else tkV noTk,.int .i64 (tkE m)]
def nextP (m:List UInt8) (q:Nat):Nat:=if tkE m=0 then q+tkS m else q
theorem Mv.put {b:Nat} {u w:World} (h:Mv b u w) (i:Nat) (g:Nat) (hg:u.heap.size<=g) (v:Value):Mv b u (w.setCell ⟨g,i,none⟩ v) :=
 ⟨h.os,h.tape,h.output,by simpa [World.setCell] using h.size,λ k hk hne=>(Below.heap_setCell _ _ _ _ (λ e=>by
  have e:k=g:=e
  omega)).trans (World.grownBy.block h k hk hne)⟩
theorem take_any (w:World) (b p:Nat) (s:ByteArray) (h:Scn w b p s) (hp:p<=s.size) (hs:s.size<=140737488351232) (hK:KwAt w) (hE:ErrAt w) (hbk:0≠b) (hbe:7≠b)
  (q:Nat) (hq:q=p+blK false (s.data.toList.drop p)) (m:List UInt8) (hm:m=s.data.toList.drop q) :
  Calls Tryz.prog 51 #[.pointer (some ⟨b,0,none⟩)] w λ e w'=>e=.returned (takeR m q)/\Scn w' b (nextP m q) s/\Mv b w w':=by
 have hqs:q<=s.size:=by
  have:=blK_le false (s.data.toList.drop p);have e:s.data.toList.length=s.size:=rfl;rw [List.length_drop,e] at this;omega
 have hts:q+tkS m<=s.size:=by
  have:=tkS_le m;have e:s.data.toList.length=s.size:=rfl;rw [hm,List.length_drop,e,<-hm] at this;omega
 have HS:=h_ h;have HKW:=h_ hK;have HER:=h_ hE;have HNE:=h_ (And.intro hbk hbe);have HSK:=h_ (λ W (h:Scn W b p s)=>skip_any W b p s h hp hs);have HTK:=h_ (λ W (h:Scn W b q s) hK hE=>token_any W b q s h hqs hs hK hE);have HAD:=h_ (λ W (h:Scn W b q s)=>adv_any W b q (tkS m) s h (by omega));obtain ⟨t,ht,ht2⟩:=tokR_form m
 obtain ⟨X,hX⟩:∃X,txV t.text=.string X:=⟨_,rfl⟩
 have HX:=h_ hX;have HT2:=h_ ht2;rw [<-hq] at HSK;rw [<-hm,ht,hX] at HTK;have hbl:=h.lt;clear h hK hE hbk hbe hq hm ht ht2 hX;go_enter Tryz.func51,Tryz.ntmps51;go_wp2_with fail
 obtain ⟨g1,hg1⟩:∃g1,g1=w.heap.size:=⟨_,rfl⟩
 obtain ⟨W0,hW0⟩:∃W0,W0=w.alloc (.cells #[.int .i64 0,.string ⟨#[]⟩,.int .i64 0,.int .i64 0] 107):=⟨_,rfl⟩
 rw [<-hW0,<-hg1]
 have HT0:Hid (TkB W0 g1 (.int .i64 0) (.string ⟨#[]⟩) (.int .i64 0) (.int .i64 0)):=by rw [hW0,hg1];exact TkB.new _ _ _ _ _
 have HS0:Hid (Scn W0 b p s):=by rw [hW0];exact HS.out.alloc _
 have HB0:Hid (Below w.heap.size w W0):=by rw [hW0];exact (b_ _ w).alloc (n_ _) _
 have hg:w.heap.size<=g1:=by omega
 have hg1b:g1≠b:=by omega
 clear hW0 hg1;refine (HSK.out W0 HS0.out).mono ?_;rintro e w1 ⟨rfl,hs1,hm1⟩;have HT1:=h_ (HT0.out.mv hm1 hg1b);have HS1:=h_ hs1;have HM1:Hid (Mv b w w1):=(Mv.of b HB0.out).trans hm1;clear hs1 hm1;have HK1:=h_ (HKW.out.mv HM1.out HNE.out.1);have HE1:=h_ (ErrAt.mv HER.out HM1.out HNE.out.2);go_wp2_with fail;refine (HTK.out w1 HS1.out HK1.out HE1.out).mono ?_;rintro e w2 ⟨rfl,hb⟩;have HT2':=h_ (HT1.out.below hb);have HS2:=h_ (HS1.out.below hb);have HM2:Hid (Mv b w w2):=HM1.out.trans (Mv.of b hb);clear hb
 obtain ⟨c,hc⟩:∃c,tkE m=c:=⟨_,rfl⟩
 have HC:=h_ hc
 obtain ⟨k,hk⟩:∃k,(if tkE m=0 then (tkS m:Int) else 0)=k:=⟨_,rfl⟩
 rw [hk,hc];have HKK:=h_ hk;clear hc hk
 obtain ⟨W3,hW3⟩:∃W3,W3=w2.alloc (.cells #[.int .i64 t.kind,.string X,.int .i64 t.num,.int .i64 t.at_] 107):=⟨_,rfl⟩
 obtain ⟨g2,hg2⟩:∃g2,g2=w2.heap.size:=⟨_,rfl⟩
 have HT3:Hid (TkB W3 g2 (.int .i64 t.kind) (.string X) (.int .i64 t.num) (.int .i64 t.at_)):=by rw [hW3,hg2];exact TkB.new _ _ _ _ _
 have HT4:Hid (TkB W3 g1 (.int .i64 0) (.string ⟨#[]⟩) (.int .i64 0) (.int .i64 0)):=by rw [hW3];exact HT2'.out.alloc _
 have HS3:Hid (Scn W3 b q s):=by rw [hW3];exact HS2.out.alloc _
 have HM3:Hid (Mv b w W3):=by rw [hW3];exact HM2.out.trans (Mv.of b ((b_ _ w2).alloc (n_ _) _))
 have hne:¬g1=g2:=by have:=HT2'.out.lt;omega
 have hne2:¬g2=g1:=λ e=>hne e.symm
 have hgb:¬g2=b:=by have:=HS2.out.lt;omega
 have hgw:w.heap.size<=g2:=by have:=HT2'.out.lt;omega
 go_upto_region 3 with fail;rw [<-hW3,<-hg2];clear hW3 hg2 HT2' HT1 HT0 HS1 HS0 HB0 HS2 HM1 HM2 HK1 HE1 HSK HTK;have c0:=HT4.out.c0;have c1:=HT4.out.c1;have c2:=HT4.out.c2;have c3:=HT4.out.c3;have f0:=HT4.out.fr 0;have f1:=HT4.out.fr 1;have f2:=HT4.out.fr 2;have f3:=HT4.out.fr 3
 by_cases hc0:c=0
 ·subst hc0
  have HKT:Hid (k=(tkS m:Int)):=by rw [<-HKK.out,if_pos HC.out];rfl
  have HTT:Hid (t=tkT m 0):=by rw [HT2.out,if_pos HC.out];rfl
  obtain rfl:k=(tkS m:Int):=HKT.out;have d0:=HT3.out.c0;have d1:=HT3.out.c1;have d2:=HT3.out.c2;have d3:=HT3.out.c3;have e3:=HT3.out.fr 3;have s0:=HS3.out.c0;have HS4:Hid (Scn (W3.setCell ⟨g2,3,none⟩ (.int .i64 (q:Int))) b q s):=(Below.heap_setCell W3 ⟨g2,3,none⟩ _ b (λ e=>hgb e.symm)).trans HS3.out;have HA4:=h_ (HAD.out _ HS4.out);go_wp2_with fail;refine HA4.out.mono ?_;rintro e w5 ⟨rfl,hs5,hm5⟩;have HS5:=h_ hs5;have HM4:Hid (Mv b w (W3.setCell ⟨g2,3,none⟩ (.int .i64 (q:Int)))):=HM3.out.put 3 g2 hgw _;have HM5:Hid (Mv b w w5):=HM4.out.trans hm5;have HT5:Hid (TkB w5 g2 (.int .i64 t.kind) (.string X) (.int .i64 t.num) (.int .i64 (q:Int))):=(HT3.out.set3 _).mv hm5 hgb;have HT6:Hid (TkB w5 g1 (.int .i64 0) (.string ⟨#[]⟩) (.int .i64 0) (.int .i64 0)):=(show TkB _ g1 _ _ _ _ from (Below.heap_setCell W3 ⟨g2,3,none⟩ _ g1 hne).trans HT4.out).mv hm5 hg1b;clear hs5 hm5 c0 c1 c2 c3 f0 f1 f2 f3 d0 d1 d2 d3 e3 s0;have c0:=HT6.out.c0;have c1:=HT6.out.c1;have c2:=HT6.out.c2;have c3:=HT6.out.c3;have f0:=HT6.out.fr 0;have f1:=HT6.out.fr 1;have f2:=HT6.out.fr 2;have f3:=HT6.out.fr 3;have d0:=HT5.out.c0;have d1:=HT5.out.c1;have d2:=HT5.out.c2;have d3:=HT5.out.c3;go_wp2_with fail;refine bodyPost_ret (TkB.res2 rfl _ rfl (HT6.out.all _ _ _ _)) rfl ?_;refine ⟨?_,?_,(((HM5.out.put 0 g1 hg _).put 1 g1 hg _).put 2 g1 hg _).put 3 g1 hg _⟩
  ·rw [takeR,HC.out,if_pos rfl,tkT_at,<-HTT.out,tkV,HX.out];rfl
  ·rw [nextP,if_pos HC.out]
   refine ((((Below.heap_setCell _ ⟨g1,3,none⟩ _ b ?_).trans (Below.heap_setCell _ ⟨g1,2,none⟩ _ b ?_)).trans (Below.heap_setCell _ ⟨g1,1,none⟩ _ b ?_)).trans (Below.heap_setCell _ ⟨g1,0,none⟩ _ b ?_)).trans HS5.out <;> exact λ e=>hg1b e.symm
 ·have hc1:(c==0)=false:=by simpa using hc0
  have HC0:=h_ hc0;clear hc0;go_wp2_with fail;refine bodyPost_ret (TkB.res2 rfl _ rfl (HT4.out.all _ _ _ _)) rfl ?_;refine ⟨?_,?_,(((HM3.out.put 0 g1 hg _).put 1 g1 hg _).put 2 g1 hg _).put 3 g1 hg _⟩
  ·rw [takeR,HC.out,if_neg HC0.out];rfl
  ·rw [nextP,HC.out,if_neg HC0.out]
   refine ((((Below.heap_setCell _ ⟨g1,3,none⟩ _ b ?_).trans (Below.heap_setCell _ ⟨g1,2,none⟩ _ b ?_)).trans (Below.heap_setCell _ ⟨g1,1,none⟩ _ b ?_)).trans (Below.heap_setCell _ ⟨g1,0,none⟩ _ b ?_)).trans HS3.out <;> exact λ e=>hg1b e.symm
def tkC (t:Tk):List Value:=[.int .i64 t.kind,txV t.text,.int .i64 t.num,.int .i64 t.at_]
def tkCs (xs:List Tk):List Value:=xs.flatMap tkC
theorem tkCs_snoc (xs:List Tk) (t:Tk):tkCs (xs++[t])=tkCs xs++tkC t:=by simp [tkCs]
def TkRow (w:World) (B:Nat) (v:Value) (xs:List Tk):Prop:=w.ownsRow B 107 4 v xs.length (tkCs xs)
theorem TkRow.nil (w:World) (B:Nat):TkRow w B (.slice none 0 0) []:=World.ownsRow_nil _ _ _ _
section
variable {w w':World} {B:Nat} {v:Value} {xs:List Tk}
theorem TkRow.grown {row:Option Nat} (h:TkRow w B v xs) (hg:w.grownBy w' row) (hne:v.ownBlock=none∨v.ownBlock≠row):TkRow w' B v xs:=World.ownsRow.kept h hg hne
theorem TkRow.below (h:TkRow w B v xs) (hb:Below w.heap.size w w'):TkRow w' B v xs:=World.ownsRow.kept h (row:=none) ⟨hb.os,hb.tape,hb.output,hb.size,λ k hk _=>hb.block k hk⟩ (by cases v.ownBlock <;> simp)
theorem TkRow.alloc (h:TkRow w B v xs) (o:Obj):TkRow (w.alloc o) B v xs:=World.ownsRow.alloc h o
theorem TkRow.lt (h:TkRow w B v xs):∀k,v.ownBlock=some k->B<=k/\k<w.heap.size:=World.ownsRow.lt h
theorem TkRow.ne (h:TkRow w B v xs) {g:Nat} {cs:Array Value} {t:TypeId} {fr:Nat×Nat} (hg:w.heap[g]?=some (.cells cs t fr)) (hne:t≠107):v.ownBlock≠some g:=by
 rcases h.2 with ⟨rfl,_⟩|⟨g',cap,cur,rfl,_,hh,_⟩
 ·simp [Value.ownBlock]
 ·intro he
  have:g'=g:=by simpa [Value.ownBlock] using he
  subst this;rw [hh] at hg;injection hg with hg;injection hg with _ ht _;exact hne ht.symm
theorem TkRow.mv {b:Nat} (h:TkRow w B v xs) (hm:Mv b w w') {cs:Array Value} {t:TypeId} {fr:Nat×Nat} (hg:w.heap[b]?=some (.cells cs t fr)) (hne:t≠107):TkRow w' B v xs:=h.grown hm (.inr (h.ne hg hne))
end
theorem infoT:(Tryz.prog.info? 107).map (λ i=>(i.zero,i.size,i.bytes))=some (some (.agg #[.int .i64 0,.string ⟨#[]⟩,.int .i64 0,.int .i64 0]),4,40):=by kernel_rfl
theorem wpl_append_tk {w:World} {ops:Array Oper} {rest:List Oper} {o:Oper} {a:Act} {Q:Exit->Act->World->Prop} (hgd:o.guard=none) (s x:Operand)
  (ho:o.op=.call { callee:=.builtin .append,args:=#[s,x],argTypes:=#[72,72] })
  (base:Nat) (v:Value) (xs:List Tk) (hs:a.eval s=v) (hown:TkRow w base v xs) (t:Tk) (X:ByteArray) (hX:txV t.text=.string X)
  (hx:a.eval x=.slice (some ⟨w.heap.size,0,none⟩) 1 1) (hn:xs.length<=1000000000) (hbase:base<=w.heap.size)
  (h:∀v' w',TkRow w' base v' (xs++[t])->(w.alloc (.cells #[.int .i64 t.kind,.string X,.int .i64 t.num,.int .i64 t.at_] 107)).grownBy w' v.ownBlock->wpList Tryz.prog ops Q rest (a.put o.dst v') w') :
  wpList Tryz.prog ops Q (o::rest) a (w.alloc (.cells #[.int .i64 t.kind,.string X,.int .i64 t.num,.int .i64 t.at_] 107)):=by
 obtain ⟨i0,hi,hz0,hz1,hz2⟩:=info_parts infoT;refine wpList_append_own _ hgd s x 72 ho base 107 i0 (.agg #[.int .i64 0,.string ⟨#[]⟩,.int .i64 0,.int .i64 0]) 4 40 Tryz.underlying72 hi hz0 hz1 hz2 rfl (by decide) v xs.length (tkCs xs) hs (World.ownsRow.alloc hown _) ⟨w.heap.size,0,none⟩ 1 1 (tkC t) hx rfl ?_ ?_ (by unfold maxLen;omega) (by omega) (by simp;omega) ?_
 ·intro j y hy;rw [Addr.add_mid,Nat.zero_add,cell_of_row _ _ _ _ _ _ (heap_alloc_new w _)];rw [<-hy,tkC,hX];simp
 ·intro y hy;simp only [tkC,List.mem_cons,List.not_mem_nil,or_false] at hy
  rcases hy with rfl|rfl|rfl|rfl <;> rfl
 ·intro v' w' h1 h2 _;refine h v' w' ?_ h2;unfold TkRow;rw [tkCs_snoc,List.length_append];exact h1
def FtB (w:World) (g:Nat) (x0 x1:Value):Prop:=w.heap[g]?=some (.cells #[x0,x1] 47 (0,0))
section
variable {w w':World} {g:Nat} {x0 x1:Value}
theorem FtB.lt (h:FtB w g x0 x1):g<w.heap.size:=by
 rcases Nat.lt_or_ge g w.heap.size with hlt|hge
 ·exact hlt
 ·unfold FtB at h;rw [Array.getElem?_eq_none hge] at h;cases h
theorem FtB.c0 (h:FtB w g x0 x1):w.cell? ⟨g,0,none⟩=some x0:=cell_of_row w g 0 _ _ _ h
theorem FtB.c1 (h:FtB w g x0 x1):w.cell? ⟨g,1,none⟩=some x1:=cell_of_row w g 1 _ _ _ h
theorem FtB.fr (h:FtB w g x0 x1) (i:Nat):w.frozen? ⟨g,i,none⟩=false:=by
 unfold FtB at h;simp [World.frozen?,h]
theorem FtB.below (h:FtB w g x0 x1) (hb:Below w.heap.size w w'):FtB w' g x0 x1:=(hb.block g h.lt).trans h
theorem FtB.alloc (h:FtB w g x0 x1) (o:Obj):FtB (w.alloc o) g x0 x1:=(Below.heap_alloc w o g h.lt).trans h
theorem FtB.grown {row:Option Nat} (h:FtB w g x0 x1) (hb:w.grownBy w' row) (hn:some g≠row):FtB w' g x0 x1:=(hb.block g h.lt hn).trans h
theorem FtB.new (w:World) (x0 x1:Value):FtB (w.alloc (.cells #[x0,x1] 47)) w.heap.size x0 x1:=heap_alloc_new w _
theorem FtB.all (h:FtB w g x0 x1) (y0 y1:Value):FtB ((w.setCell ⟨g,0,none⟩ y0).setCell ⟨g,1,none⟩ y1) g y0 y1:=heap_setCell_same (w.setCell ⟨g,0,none⟩ y0) g 1 _ _ y1 (heap_setCell_same w g 0 _ _ y0 h)
theorem FtB.load (h:FtB w g x0 x1):(loadVar 47 ⟨g,0,none⟩).run Tryz.prog w=.ok (.agg #[x0,x1]) w :=
 run_loadVar_row w g _ _ _ _ _ h Tryz.underlying47 rfl (by kernel_rfl)
theorem FtB.res {fn:Func} {p t:Tmp} (hr:fn.results=#[.tmp t,.cell p 47]) (tmps:Array Value) (hp:tmps.getD p undef=.pointer (some ⟨g,0,none⟩)) (h:FtB w g x0 x1) :
  (results fn tmps).run Tryz.prog w=.ok (.tuple #[tmps.getD t undef,.agg #[x0,x1]]) w:=by
 have hp':tmps[p]?.getD undef=.pointer (some ⟨g,0,none⟩):=by simpa using hp
 simp [results,hr,hp',asAddr,h.load]
end
theorem below_two {B g:Nat} {u w:World} (h:Below B u w) (hB:B<=g) (y0 y1:Value):Below B u ((w.setCell ⟨g,0,none⟩ y0).setCell ⟨g,1,none⟩ y1) :=
 (h.setCell (p:=⟨g,0,none⟩) hB y0).setCell (p:=⟨g,1,none⟩) hB y1
theorem takeR_form (m:List UInt8) (q:Nat):∃t:Tk,takeR m q=.tuple #[.agg #[.int .i64 t.kind,txV t.text,.int .i64 t.num,.int .i64 t.at_],.int .i64 (tkE m)]/\t=if tkE m=0 then tkT m q else noTk:=by
 refine ⟨_,?_,rfl⟩;rw [takeR]
 by_cases h:tkE m=0
 ·rw [if_pos h,if_pos h];rfl
 ·rw [if_neg h,if_neg h];rfl
theorem tkT_kind {m:List UInt8} (h:m≠[]) (q:Int):(tkT m q).kind≠5:=by
 cases m with
 |nil=>exact absurd rfl h
 |cons c r =>
  rw [tkT_cons]
  split
  ·show (if _ then (2:Int) else 1)≠5
   split <;> decide
  ·split
   ·exact (by decide:(3:Int)≠5)
   ·exact (by decide:(4:Int)≠5)
theorem tkS_pos' {m:List UInt8} (h0:m≠[]) (h:tkE m=0):0<tkS m:=by
 cases m with
 |nil=>exact absurd rfl h0
 |cons c r=>exact tkS_pos h
theorem tokens_any (w:World) (s:ByteArray) (hK:KwAt w) (hE:ErrAt w) :
  Calls Tryz.prog 29 #[.string s] w λ e w'=>∃v,e=.returned (.tuple #[v,.agg #[.int .i64 (scF s.data.toList).2.1,.int .i64 (scF s.data.toList).2.2]])/\TkRow w' w.heap.size v (scF s.data.toList).1/\Below w.heap.size w w':=by
 have hlen:s.data.toList.length=s.size:=rfl;have HKW:=h_ hK;have HER:=h_ hE
 obtain ⟨R,hR⟩:∃R,scF s.data.toList=R:=⟨_,rfl⟩
 rw [hR];have HR:=h_ hR;clear hK hE hR
 obtain ⟨g0,hg0⟩:∃g0,g0=w.heap.size:=⟨_,rfl⟩
 obtain ⟨W0,hW0⟩:∃W0,W0=w.alloc (.cells #[.int .i64 0,.int .i64 0] 47):=⟨_,rfl⟩
 have HF0:Hid (FtB W0 g0 (.int .i64 0) (.int .i64 0)):=by rw [hW0,hg0];exact FtB.new _ _ _
 have HB0:Hid (Below w.heap.size w W0):=by rw [hW0];exact (b_ _ w).alloc (n_ _) _
 have hgw:w.heap.size<=g0:=by omega
 by_cases hl:16384<s.size
 ·have hl':(16384:Int)<s.size:=by omega
  have HRR:Hid (R=([],2,-1)):=by
   show _=_;rw [<-HR.out,scF,if_pos (by rw [hlen];exact hl)]
  clear hlen HR;go_enter Tryz.func29,Tryz.ntmps29;go_upto_region 1 with fail;rw [<-hW0,<-hg0];clear hW0 hg0;have c0:=HF0.out.c0;have c1:=HF0.out.c1;have f0:=HF0.out.fr 0;have f1:=HF0.out.fr 1;go_wp2_with fail;refine bodyPost_ret (FtB.res rfl _ rfl (HF0.out.all _ _)) rfl ?_;refine ⟨.slice none 0 0,?_,?_,below_two HB0.out hgw _ _⟩
  ·rw [HRR.out];rfl
  ·rw [HRR.out];exact TkRow.nil _ _
 ·have hl':¬(16384:Int)<s.size:=by omega
  have HRR:Hid (scA (s.size+1) 0 [] s.data.toList=R):=by
   show _=_;rw [<-HR.out,scF,if_neg (by rw [hlen];exact hl),hlen]
  clear HR;go_enter Tryz.func29,Tryz.ntmps29;go_upto_region 1 with fail;rw [<-hW0,<-hg0];clear hW0;go_upto_region 4 with fail
  obtain ⟨b,hb⟩:∃b,b=W0.heap.size:=⟨_,rfl⟩
  obtain ⟨W1,hW1⟩:∃W1,W1=W0.alloc (.cells #[.int .i64 0,.string s] 105):=⟨_,rfl⟩
  rw [<-hW1,<-hb]
  have HS1:Hid (Scn W1 b 0 s):=by rw [hW1,hb];exact heap_alloc_new W0 _
  have HF1:Hid (FtB W1 g0 (.int .i64 0) (.int .i64 0)):=by rw [hW1];exact HF0.out.alloc _
  have HB1:Hid (Below w.heap.size w W1):=by rw [hW1];exact HB0.out.alloc HB0.out.size _
  have hbw:w.heap.size<=b:=by have:=HF0.out.lt;omega
  have hbg:¬g0=b:=by have:=HF0.out.lt;omega
  have HNE:Hid (0≠b/\7≠b):=⟨by have:=HKW.out.lt;omega,by have:=ErrAt.lt HER.out;omega⟩
  clear hW1 hb hg0 HF0 HB0;go_wp2_with fail
  go_loopw [5] (λ lv wr=>∃(p f:Nat) (xs:List Tk),p<=s.size/\xs.length<=p/\Hid (Scn wr b p s)/\Hid (TkRow wr w.heap.size lv xs)/\Hid (FtB wr g0 (.int .i64 0) (.int .i64 0))/\Hid (scA f p xs (s.data.toList.drop p)=R)/\Hid ((s.data.toList.drop p).length<f)/\Hid (Below w.heap.size w wr)) (λ _ wr=>s.size-posOf wr b)
  case atStart=>exact ⟨0,s.size+1,[],Nat.zero_le _,Nat.zero_le _,HS1,TkRow.nil _ _,HF1,by rw [List.drop_zero];exact HRR,by show _<_;rw [List.drop_zero,hlen];omega,HB1⟩
  case round =>
   obtain ⟨p,f,xs,hp,hxp,HS,HT,HF,HA,HL,HB⟩:=hrel
   obtain ⟨q,hq⟩:∃q,q=p+blK false (s.data.toList.drop p):=⟨_,rfl⟩
   obtain ⟨m,hm⟩:∃m,m=s.data.toList.drop q:=⟨_,rfl⟩
   have hqs:q<=s.size:=by
    have:=blK_le false (s.data.toList.drop p);rw [List.length_drop,hlen] at this;omega
   have hpq:p<=q:=by omega
   have hts:q+tkS m<=s.size:=by
    have:=tkS_le m;rw [hm,List.length_drop,hlen,<-hm] at this;omega
   have HTAKE:=h_ (take_any wr b p s HS.out hp (by omega) (HKW.out.below HB.out) (errAt_below HER.out HB.out) HNE.out.1 HNE.out.2 q hq m hm)
   have hdm:Hid ((s.data.toList.drop p).drop (blK false (s.data.toList.drop p))=m):=by
    show _=_;rw [List.drop_drop,hm,hq]
   have HMQ:=h_ hm;have HQ:=h_ hq;clear hm hq
   obtain ⟨f,rfl⟩:∃f',f=f' + 1:=⟨f-1,by have:=HL.out;omega⟩
   obtain ⟨t,ht,ht2⟩:=takeR_form m q
   obtain ⟨X,hX⟩:∃X,txV t.text=.string X:=⟨_,rfl⟩
   have HX:=h_ hX;rw [ht,hX] at HTAKE;have HTT:=h_ ht2;clear ht ht2 hX;go_wp2_with fail;refine HTAKE.out.mono ?_;rintro e w1 ⟨rfl,hs1,hm1⟩;have HS2:=h_ hs1;have HM1:=h_ hm1;have HT2:=h_ (HT.out.mv hm1 HS.out (by decide));have HF2:=h_ (HF.out.grown hm1 (by simpa using hbg));have HB2:=h_ (hm1.belowB HB.out hbw HB.out.size);clear hs1 hm1 HTAKE
   obtain ⟨W2,hW2⟩:∃W2,W2=w1.alloc (.cells #[.int .i64 t.kind,.string X,.int .i64 t.num,.int .i64 t.at_] 107):=⟨_,rfl⟩
   obtain ⟨g6,hg6⟩:∃g6,g6=w1.heap.size:=⟨_,rfl⟩
   have HG6:Hid (TkB W2 g6 (.int .i64 t.kind) (.string X) (.int .i64 t.num) (.int .i64 t.at_)):=by rw [hW2,hg6];exact TkB.new _ _ _ _ _
   have HS3:Hid (Scn W2 b (nextP m q) s):=by rw [hW2];exact HS2.out.alloc _
   have HT3:Hid (TkRow W2 w.heap.size u5 xs):=by rw [hW2];exact HT2.out.alloc _
   have HF3:Hid (FtB W2 g0 (.int .i64 0) (.int .i64 0)):=by rw [hW2];exact HF2.out.alloc _
   have HB3:Hid (Below w.heap.size w W2):=by rw [hW2];exact HB2.out.alloc HB2.out.size _
   obtain ⟨c,hc⟩:∃c,tkE m=c:=⟨_,rfl⟩
   rw [hc];go_upto_region 6 with fail;rw [<-hW2,<-hg6]
   have HG6n:Hid (some g6≠u5.ownBlock):=by
    intro e;have:=(HT2.out.lt g6 e.symm).2;omega
   have HG0n:Hid (some g0≠u5.ownBlock):=λ e=>HT3.out.ne HF3.out (by decide) e.symm;have HGBn:Hid (some b≠u5.ownBlock):=λ e=>HT3.out.ne HS3.out (by decide) e.symm;clear hW2 hg6
   by_cases hc0:c=0
   ·subst hc0
    have HN:Hid (nextP m q=q+tkS m):=by show _=_;rw [nextP,hc,if_pos rfl]
    have HTM:Hid (t=tkT m q):=by show _=_;rw [HTT.out,hc,if_pos rfl]
    have HCC:=h_ hc;have d0:=HG6.out.c0;have d1:=HG6.out.c1;have d2:=HG6.out.c2;have d3:=HG6.out.c3;clear hc;go_wp2_with (at_builtin;refine wpl_append_tk rfl (.tmp 25) (.tmp 27) rfl w.heap.size _ xs rfl HT3.out t X HX.out rfl (by omega) HB3.out.size ?_);intro v' w3 hrow hgr;have HR3:=h_ hrow;have hgr2:W2.grownBy w3 u5.ownBlock:=(World.grownBy_alloc W2 _ _).trans hgr
    have HG6':=(HG6.out:TkB _ _ _ _ _ _)
    have e0:w3.cell? ⟨g6,0,none⟩=some (.int .i64 t.kind):=by rw [World.cell?_of_block (w:=W2) (hgr2.block g6 HG6'.lt HG6n.out)];exact d0
    have HS4:Hid (Scn w3 b (q+tkS m) s):=by
     rw [<-HN.out];exact (hgr2.block b HS3.out.lt HGBn.out).trans HS3.out
    have HF4:=h_ (HF3.out.grown hgr2 HG0n.out);have HB4:Hid (Below w.heap.size w w3):=HB3.out.grown hgr2 HB3.out.size (λ k hk=>(HT3.out.lt k hk).1);clear hrow hgr hgr2 HG6' d0 d1 d2 d3
    by_cases hm0:m=[]
    ·have hk:(t.kind==5)=true:=by rw [HTM.out,hm0];rfl
     have HRR2:Hid (R=(xs++[t],0,0)):=by
      show _=_;rw [<-HA.out,scA_end (by rw [hdm.out];exact hm0),HTM.out,hm0,<-HQ.out];rfl
     have c0:=HF4.out.c0;have c1:=HF4.out.c1;have f0:=HF4.out.fr 0;have f1:=HF4.out.fr 1;clear hm0;go_wp2_with fail;refine bodyPost_ret (FtB.res rfl _ rfl (HF4.out.all _ _)) rfl ?_;refine ⟨v',?_,?_,below_two HB4.out hgw _ _⟩
     ·rw [HRR2.out];rfl
     ·rw [HRR2.out];exact HR3.out.grown (((Mv.refl g0 w3).set 0 _).set 1 _) (.inr (HR3.out.ne HF4.out (by decide)))
    ·have hk:(t.kind==5)=false:=by rw [HTM.out,beq_eq_false_iff_ne];exact tkT_kind hm0 q
     have hpos:0<tkS m:=tkS_pos' hm0 HCC.out
     have HA4:Hid (scA f (q+tkS m) (xs++[t]) (s.data.toList.drop (q+tkS m))=R):=by
      show _=_;rw [<-HA.out,scA_step hdm.out hm0 HCC.out,HTM.out,<-HQ.out,HMQ.out,List.drop_drop]
     have HL4:Hid ((s.data.toList.drop (q+tkS m)).length<f):=by
      show _<_;have:=HL.out;rw [List.length_drop,hlen] at this ⊢;omega
     have hxs:(xs++[t]).length<=q+tkS m:=by rw [List.length_append];simp;omega
     clear hm0;go_wp2_with fail
     go_roundw
     case rel=>exact ⟨q+tkS m,f,xs++[t],hts,hxs,HS4,HR3,HF4,HA4,HL4,HB4⟩
     case measure =>
      rw [HS4.out.pos,HS.out.pos];omega
   ·have hc1:(c==0)=false:=by simpa using hc0
    have HRR2:Hid (R=([],c,(q:Int))):=by
     show _=_;rw [<-HA.out,scA_bad hdm.out (λ e=>hc0 (by rw [<-hc,e];rfl)) (by rw [hc];exact hc0),hc,HQ.out]
    have HN:Hid (nextP m q=q):=by show _=_;rw [nextP,hc,if_neg hc0]
    have s0:=HS3.out.c0;rw [HN.out] at s0;have c0:=HF3.out.c0;have c1:=HF3.out.c1;have f0:=HF3.out.fr 0;have f1:=HF3.out.fr 1;clear hc hc0;go_wp2_with fail
    go_region
    all_goals
     go_wp2_with fail;refine bodyPost_ret (FtB.res rfl _ rfl (HF3.out.all _ _)) rfl ?_;refine ⟨.slice none 0 0,?_,?_,(below_two HB3.out hgw _ _).drew⟩
     ·rw [HRR2.out];rfl
     ·rw [HRR2.out];exact TkRow.nil _ _
theorem scA_skip (f p:Nat) (acc:List Tk) (l:List UInt8):scA (f+1) p acc l=scA (f+1) (p+blK false l) acc (l.drop (blK false l)):=by
 have h:=blK_rest false l;rw [scA,scA];simp only [h,List.drop_zero,Nat.add_zero]
theorem tkS_pos2 {m:List UInt8} (h0:m≠[]) (h:tkE m=0):0<tkS m:=by
 cases m with
 |nil=>exact absurd rfl h0
 |cons c r=>exact tkS_pos h
end Go.Proofs.YtifekcbinjdfbaaGreatDoor
