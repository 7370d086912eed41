import Derived.Test.YtocecpghoncmgaaGreatDoorQh
import Derived.Test.YtocecpghoncmgaaGreatDoorQPwB
import Derived.Shelf.Strings.Repeat
import Derived.Test.YtocecpghoncmgaaGreatDoorQPkA
import Derived.Deep.RegionHeld3
import Derived.Test.YtocecpghoncmgaaGreatDoorQLnP
set_option maxHeartbeats 12800000
set_option maxRecDepth 20000
namespace Go.Proofs.YtocecpghoncmgaaGreatDoor
open Go.RowKit
theorem xbuild:Builder.Extra Tryz.prog Tryz.lays105_ren where
 sizeBuilder:=by kernel_rfl
 liesBuilder:=by kernel_rfl
 t5:=Tryz.underlying5
 a5:=Tryz.isAgg5
 z5:=Tryz.sizeOf5
 v5:=Tryz.zeroValue5
 infoByte:=by kernel_rfl
 cellsByte:=by kernel_rfl
 sizeByte:=by kernel_rfl
 neB5:=by decide
def blankA (n:Nat):ByteArray:=⟨(List.replicate (2*n) 32).toArray⟩
theorem blank_rep:∀n:Nat,Lib.repeatL [32,32] n=List.replicate (2*n) 32
 |0=>rfl
 |n+1=>by
  rw [Lib.repeatL,blank_rep n,show 2*(n+1)=2*n+1+1 from by omega,List.replicate_succ,List.replicate_succ];rfl
theorem blank_size (n:Nat):(blankA n).size=2*n:=by
 show (List.replicate (2*n) (32:UInt8)).toArray.size=_;simp
theorem repeat_any (w:World) (n:Nat) (hn:n<=1000) :
  Calls Tryz.prog 197 #[.string ⟨#[32,32]⟩,.int .i64 (n:Int)] w λ e w'=>e=.returned (.string (blankA n))/\Below w.heap.size w w':=by
 have h:=Any.strings_Repeat Tryz.lays105 xbuild ⟨#[32,32]⟩ n w (by omega) (by show 2*n<=_;omega);refine Calls.mono (show Calls Tryz.prog 197 _ _ _ from h) ?_;rintro e w' ⟨rfl,hb⟩;exact ⟨by rw [show (⟨#[32,32]⟩:ByteArray).data.toList=[32,32] from rfl,blank_rep];rfl,hb⟩
def wds (ss:List ByteArray):List (List UInt8):=ss.map λ s=>s.data.toList
theorem ptT_snoc (l:List UInt8) (xs:List (List UInt8)) (x:List UInt8):ptT l (xs++[x])=ptT l xs++(sepW (ptL l xs) x++x):=by
 rw [ptT_app];simp [ptT]
def lastA (d:ByteArray):List ByteArray->ByteArray
 |[]=>d
 |s::ss=>lastA s ss
theorem lastA_snoc (d:ByteArray):∀(ss:List ByteArray) (s:ByteArray),lastA d (ss++[s])=s
 |[],_=>rfl
 |t::ss,s=>lastA_snoc t ss s
theorem lastA_ptL (d:ByteArray):∀ss:List ByteArray,(lastA d ss).data.toList=ptL d.data.toList (wds ss)
 |[]=>rfl
 |s::ss=>lastA_ptL s ss
theorem pputs_any (w0 w:World) (b n g m:Nat) (T:List UInt8) (d:ByteArray) (ss:List ByteArray) (h:WS w0 w b T n d) (hs:CB w g 9 (ss.map Value.string)) (hm:ss.length=m) (hg:g≠b) (hM:∀s∈ss,s.size<=1000000) (h5:m<=5) :
  Calls Tryz.prog 198 #[.pointer (some ⟨b,0,none⟩),.slice (some ⟨g,0,none⟩) m m] w λ e w'=>e=.returned (.tuple #[])/\WS w0 w' b (T++ptT d.data.toList (wds ss)) n (lastA d ss)/\Wk w0.heap.size b w w':=by
 have HW:=h_ h;have HS:=h_ hs;have HM:=h_ hm;have HB:=h_ hM;clear h hs hm hM;go_enter Tryz.func198,Tryz.ntmps198;go_wp2_with fail
 go_loopw [8] (λ iv wr=>∃i:Nat,i<=m/\iv=.int .i64 (i:Int)/\Hid (WS w0 wr b (T++ptT d.data.toList (wds (ss.take i))) n (lastA d (ss.take i)))/\Hid (Wk w0.heap.size b w wr)) (λ iv _=>m-(intOf iv).toNat)
 case atStart=>exact ⟨0,Nat.zero_le _,rfl,by show WS _ _ _ _ _ _;rw [List.take_zero];simpa [wds,ptT,lastA] using HW.out,Wk.refl _ _ _⟩
 case round =>
  obtain ⟨i,hi,rfl,HWB,HWK⟩:=hrel
  by_cases him:i<m
  ·have him':(i:Int)<m:=by omega
   have HIM:=h_ him
   obtain ⟨s,hsi⟩:∃s,ss[i]?=some s:=⟨_,List.getElem?_eq_getElem (by rw [HM.out];exact him)⟩
   have u1:=(HS.out.wk HWK.out hg (by decide)).c i (v:=.string s) (by rw [List.getElem?_map,hsi];rfl);have HSZ:=h_ (HB.out s (List.mem_of_getElem? hsi))
   have HNX:Hid (ss.take (i+1)=ss.take i++[s]):=by show _=_;rw [List.take_add_one,hsi];rfl
   obtain ⟨D,hD⟩:∃D,lastA d (ss.take i)=D:=⟨_,rfl⟩
   have HDL:Hid (ptL d.data.toList (wds (ss.take i))=D.data.toList):=by show _=_;rw [<-hD,lastA_ptL]
   rw [hD] at HWB;have u3:=HWB.out.c3;have HSP:=h_ (spaced_any wr D s)
   obtain ⟨q,hq⟩:∃q,spcB D s=q:=⟨_,rfl⟩
   rw [hq] at HSP
   obtain ⟨X,hX⟩:∃X,T++ptT d.data.toList (wds (ss.take i))=X:=⟨_,rfl⟩
   rw [hX] at HWB
   have HTX:Hid (T++ptT d.data.toList (wds (ss.take (i+1)))=X++((if q=true then [32] else [])++s.data.toList)):=by
    show _=_;rw [HNX.out,<-hX,<-hq];show T++ptT d.data.toList ((ss.take i++[s]).map λ s=>s.data.toList)=_;rw [List.map_append];show T++ptT d.data.toList (wds (ss.take i)++[s.data.toList])=_;rw [ptT_snoc,HDL.out,a_,spc_sep];rfl
   clear hsi hD hX
   have FIN:∀(w3:World),WS w0 w3 b (X++((if q=true then [32] else [])++s.data.toList)) n D->Wk w0.heap.size b w w3->∃W4,W4=w3.setCell ⟨b,3,none⟩ (.string s)/\w3.frozen? ⟨b,3,none⟩=false/\w3.cell? ⟨b,3,none⟩=some (.string D)/\Hid (WS w0 W4 b (T++ptT d.data.toList (wds (ss.take (i+1)))) n (lastA d (ss.take (i+1))))/\Hid (Wk w0.heap.size b w W4):=λ w3 h1 h2=>by
    refine ⟨_,rfl,h1.fr 3,h1.c3,?_,h2.trans (Wk.set h1.ge 3 _)⟩;show WS _ _ _ _ _ _;rw [HTX.out,HNX.out,lastA_snoc];exact h1.set3 s
   have HFIN:=h_ FIN;clear FIN;cases q
   ·have HC:=h_ (λ W h=>pwrite_any w0 W b n X D s h HSZ.out);go_wp2_with fail;refine HSP.out.mono ?_;rintro e w2 ⟨rfl,rfl⟩;go_wp2_with fail;refine (HC.out w2 HWB.out).mono ?_;rintro e w3 ⟨rfl,h1,h2⟩;obtain ⟨W4,hW4,f3,c3,HW4,HK4⟩:=HFIN.out w3 h1 (HWK.out.trans h2);clear h1 h2 HC HWB HWK u1 u3 HSP;go_upto_region 7 with fail;rw [<-hW4];clear hW4 f3 c3;go_wp2_with fail
    go_roundw
    case rel=>exact ⟨i+1,by have:=HIM.out;omega,by go_num,HW4,HK4⟩
    case measure=>have:=HIM.out;simp [intOf];omega
   ·have HC0:=h_ (pwrite_any w0 wr b n X D ⟨#[32]⟩ HWB.out (by decide));have HC:=h_ (λ W h=>pwrite_any w0 W b n (X++[32]) D s h HSZ.out);go_wp2_with fail;refine HSP.out.mono ?_;rintro e w2 ⟨rfl,rfl⟩;go_wp2_with fail;refine HC0.out.mono ?_;rintro e w2 ⟨rfl,h1,h2⟩;have HW2:=h_ h1;have HK2:=h_ (HWK.out.trans h2);clear h1 h2 HC0 HWB HWK u3 HSP;go_wp2_with fail;refine (HC.out w2 HW2.out).mono ?_;rintro e w3 ⟨rfl,h1,h2⟩;rw [a_] at h1;obtain ⟨W4,hW4,f3,c3,HW4,HK4⟩:=HFIN.out w3 h1 (HK2.out.trans h2);clear h1 h2 HC HW2 HK2 u1;go_upto_region 7 with fail;rw [<-hW4];clear hW4 f3 c3;go_wp2_with fail
    go_roundw
    case rel=>exact ⟨i+1,by have:=HIM.out;omega,by go_num,HW4,HK4⟩
    case measure=>have:=HIM.out;simp [intOf];omega
  ·have him':¬(i:Int)<m:=by omega
   have HF:Hid (WS w0 wr b (T++ptT d.data.toList (wds ss)) n (lastA d ss)):=by
    have:=HWB.out;rw [List.take_of_length_le (by rw [HM.out];omega)] at this;exact this
   clear HWB;go_wp2_with fail;go_end0;exact ⟨rfl,HF.out,HWK.out⟩
theorem pput_nil (w:World) (b:Nat) :
  Calls Tryz.prog 198 #[.pointer (some ⟨b,0,none⟩),.slice none 0 0] w λ e w'=>e=.returned (.tuple #[])/\w'=w:=by
 go_enter Tryz.func198,Tryz.ntmps198;go_wp2_with fail
 go_loopw [8] (λ iv wr=>iv=.int .i64 0/\wr=w) (λ _ _=>0)
 case atStart=>exact ⟨rfl,rfl⟩
 case round =>
  obtain ⟨rfl,rfl⟩:=hrel;go_wp2_with fail;go_end0;exact ⟨rfl,rfl⟩
theorem pbegin_any (w0 w:World) (b n g m:Nat) (T:List UInt8) (ss:List ByteArray) (h:WS w0 w b T n ⟨#[]⟩) (hs:CB w g 9 (ss.map Value.string)) (hm:ss.length=m) (hg:g≠b) (hM:∀s∈ss,s.size<=1000000) (h5:m<=5) (hn:n<=100) :
  Calls Tryz.prog 141 #[.pointer (some ⟨b,0,none⟩),.slice (some ⟨g,0,none⟩) m m] w λ e w'=>e=.returned (.tuple #[])/\WS w0 w' b (T++(List.replicate (2*n) 32++ptT [] (wds ss))) n (lastA ⟨#[]⟩ ss)/\Wk w0.heap.size b w w':=by
 have HR:=h_ (repeat_any w n (by omega));have HW:=h_ h;have HC:=h_ (λ W hw=>pwrite_any w0 W b n T ⟨#[]⟩ (blankA n) hw (by rw [blank_size];omega));have HP:=h_ (λ (W:World) (hk:Wk w0.heap.size b w W) hw=>pputs_any w0 W b n g m (T++List.replicate (2*n) 32) ⟨#[]⟩ ss hw (hs.wk hk hg (by decide)) hm hg hM h5);have u2:=h.c2;clear h hs hm hg hM;go_enter Tryz.func141,Tryz.ntmps141;go_wp2_with fail;refine HR.out.mono ?_;rintro e w1 ⟨rfl,hb⟩;have HW1:=h_ (HW.out.below hb);have HK1:Hid (Wk w0.heap.size b w w1):=Wk.of HW.out.bl.size hb;clear hb HR u2;go_wp2_with fail;refine (HC.out w1 HW1.out).mono ?_;rintro e w2 ⟨rfl,h1,h2⟩;have HW2:=h_ h1;have HK2:=h_ (HK1.out.trans h2);clear h1 h2 HC HW1 HK1;go_wp2_with fail;refine (HP.out w2 HK2.out HW2.out).mono ?_;rintro e w3 ⟨rfl,h1,h2⟩;have HW3:=h_ h1;have HK3:=h_ (HK2.out.trans h2);clear h1 h2 HP HW2 HK2;go_wp2_with fail;go_end0;refine ⟨rfl,?_,HK3.out⟩;have:=HW3.out;rw [a_] at this;exact this
theorem pend_nil (w0 w:World) (b n:Nat) (T:List UInt8) (d:ByteArray) (h:WS w0 w b T n d) :
  Calls Tryz.prog 142 #[.pointer (some ⟨b,0,none⟩),.slice none 0 0] w λ e w'=>e=.returned (.tuple #[])/\WS w0 w' b (T++[10]) n ⟨#[]⟩/\Wk w0.heap.size b w w':=by
 have HP:=h_ (pput_nil w b);have HC:=h_ (pwrite_any w0 w b n T d ⟨#[10]⟩ h (by decide));clear h;go_enter Tryz.func142,Tryz.ntmps142;go_wp2_with fail;refine HP.out.mono ?_;rintro e w1 ⟨rfl,rfl⟩;go_wp2_with fail;refine HC.out.mono ?_;rintro e w2 ⟨rfl,h1,h2⟩;have f3:=h1.fr 3;have c3:=h1.c3
 obtain ⟨W3,hW3⟩:∃W,W=w2.setCell ⟨b,3,none⟩ (.string ⟨#[]⟩):=⟨_,rfl⟩
 have HW3:Hid (WS w0 W3 b (T++[10]) n ⟨#[]⟩):=by rw [hW3];exact h1.set3 _
 have HK3:Hid (Wk w0.heap.size b w1 W3):=by rw [hW3];exact h2.trans (Wk.set h1.ge 3 _)
 clear h1 h2 HC HP;go_wp2_with fail;rw [<-hW3];clear hW3 f3 c3;go_end0;exact ⟨rfl,HW3.out,HK3.out⟩
theorem pend_any (w0 w:World) (b n g m:Nat) (T:List UInt8) (d:ByteArray) (ss:List ByteArray) (h:WS w0 w b T n d) (hs:CB w g 9 (ss.map Value.string)) (hm:ss.length=m) (hg:g≠b) (hM:∀s∈ss,s.size<=1000000) (h5:m<=5) :
  Calls Tryz.prog 142 #[.pointer (some ⟨b,0,none⟩),.slice (some ⟨g,0,none⟩) m m] w λ e w'=>e=.returned (.tuple #[])/\WS w0 w' b (T++(ptT d.data.toList (wds ss)++[10])) n ⟨#[]⟩/\Wk w0.heap.size b w w':=by
 have HP:=h_ (pputs_any w0 w b n g m T d ss h hs hm hg hM h5);have HC:=h_ (λ W hw=>pwrite_any w0 W b n (T++ptT d.data.toList (wds ss)) (lastA d ss) ⟨#[10]⟩ hw (by decide));clear h hs hm hg hM;go_enter Tryz.func142,Tryz.ntmps142;go_wp2_with fail;refine HP.out.mono ?_;rintro e w1 ⟨rfl,h1,h2⟩;have HW1:=h_ h1;have HK1:=h_ h2;clear h1 h2 HP;go_wp2_with fail;refine (HC.out w1 HW1.out).mono ?_;rintro e w2 ⟨rfl,h1,h2⟩;have f3:=h1.fr 3;have c3:=h1.c3
 obtain ⟨W3,hW3⟩:∃W,W=w2.setCell ⟨b,3,none⟩ (.string ⟨#[]⟩):=⟨_,rfl⟩
 have HW3:Hid (WS w0 W3 b (T++(ptT d.data.toList (wds ss)++[10])) n ⟨#[]⟩):=by rw [hW3,<-a_];exact h1.set3 _
 have HK3:Hid (Wk w0.heap.size b w W3):=by rw [hW3];exact (HK1.out.trans h2).trans (Wk.set h1.ge 3 _)
 clear h1 h2 HC HW1 HK1;go_wp2_with fail;rw [<-hW3];clear hW3 f3 c3;go_end0;exact ⟨rfl,HW3.out,HK3.out⟩
theorem pline_any (w0 w:World) (b n g m:Nat) (T:List UInt8) (ss:List ByteArray) (h:WS w0 w b T n ⟨#[]⟩) (hs:CB w g 9 (ss.map Value.string)) (hm:ss.length=m) (hg:g≠b) (hM:∀s∈ss,s.size<=1000000) (h5:m<=5) (hn:n<=100) :
  Calls Tryz.prog 84 #[.pointer (some ⟨b,0,none⟩),.slice (some ⟨g,0,none⟩) m m] w λ e w'=>e=.returned (.tuple #[])/\WS w0 w' b (T++ind n (ptT [] (wds ss))) n ⟨#[]⟩/\Wk w0.heap.size b w w':=by
 have HP:=h_ (pbegin_any w0 w b n g m T ss h hs hm hg hM h5 hn);have HC:=h_ (λ W hw=>pend_nil w0 W b n (T++(List.replicate (2*n) 32++ptT [] (wds ss))) (lastA ⟨#[]⟩ ss) hw);clear h hs hm hg hM;go_enter Tryz.func84,Tryz.ntmps84;go_wp2_with fail;refine HP.out.mono ?_;rintro e w1 ⟨rfl,h1,h2⟩;have HW1:=h_ h1;have HK1:=h_ h2;clear h1 h2 HP;go_wp2_with fail;refine (HC.out w1 HW1.out).mono ?_;rintro e w2 ⟨rfl,h1,h2⟩;have HW2:=h_ h1;have HK2:=h_ (HK1.out.trans h2);clear h1 h2 HC HW1 HK1;go_wp2_with fail;go_end0;refine ⟨rfl,?_,HK2.out⟩;have:=HW2.out;unfold ind;rw [a_,a_] at this;exact this
def acA (a:GA):List ByteArray:=if a.kind=2 then [⟨(actW 2).toArray⟩,⟨a.name.toArray⟩,⟨#[59]⟩] else [⟨(actW a.kind).toArray⟩,⟨a.name.toArray⟩,⟨#[61]⟩,⟨a.val.txt.toArray⟩,⟨#[59]⟩]
theorem acA_wds {a:GA} (h:okA a=true):wds (acA a)=acW a.s:=by
 have hg:=okA_good h;unfold acA
 by_cases hk:a.kind=2
 ·rw [if_pos hk];have hv:a.s.value=none:=hg.raise hk;unfold acW;rw [hv];show [_,_,_]=[actW a.kind,a.name,[59]];simp only [hk]
 ·rw [if_neg hk];obtain ⟨e,he,_⟩:=hg.value hk;have he':a.val.right=some e:=he;unfold acW;rw [he];show [_,_,_,_,_]=[actW a.kind,a.name,[61],e.tx,[59]];simp only [GX.txt_some he']
theorem txt_size (x:GX):(⟨x.txt.toArray⟩:ByteArray).size<=1000000:=by
 show x.txt.toArray.size<=_;simp only [List.size_toArray];unfold GX.txt
 split
 ·rename_i e h;have:=(GX.right_some h).2.2;omega
 ·simp
theorem nm_arr {s:List UInt8} (h:isNm s=true):(⟨s.toArray⟩:ByteArray).size<=1000000:=by
 have:=nm_size h;show s.toArray.size<=_;simp only [List.size_toArray];omega
theorem pblock_any (w0 w:World) (b n:Nat) (T:List UInt8) (d:ByteArray) (l:List GA) (A:Option Addr) (c:Nat) (hE:Ee w0) (h:WS w0 w b T n d) (hx:DxAt w0 (gActs l) (.slice A l.length c)) (hok:l.all okA=true) (hr:∀a∈l,a.rng) :
  Calls Tryz.prog 200 #[.pointer (some ⟨b,0,none⟩),.slice A l.length c] w λ e w'=>e=.returned (.tuple #[])/\WS w0 w' b (T++ptT d.data.toList (asW (l.map GA.s))) n ⟨#[125]⟩/\Wk w0.heap.size b w w':=by
 obtain ⟨N,hN⟩:∃N,l.length=N:=⟨_,rfl⟩
 have HM:Hid (N<=9223372036854775807):=by
  obtain ⟨_,c',e1,h1,h2⟩:=DxAt.slice (show DxAt w0 (.row _ 9 l.length _) _ from hx)
  have:maxLen<=9223372036854775807:=by decide
  show N<=_;omega
 have HN:=h_ hN;have HX:=h_ hx;have HOK:=h_ (λ a (ha:a∈l)=>List.all_eq_true.1 hok a ha);have HRG:=h_ hr;have HE:=h_ hE;have HGE:=h_ h.ge
 obtain ⟨W1,hW1⟩:∃W,W=w.alloc (.cells #[.string ⟨#[123]⟩] 9):=⟨_,rfl⟩
 obtain ⟨g1,hg1⟩:∃g,g=w.heap.size:=⟨_,rfl⟩
 have hal:Below w.heap.size w W1:=by rw [hW1];exact (b_ _ w).alloc (n_ _) _
 have HC1:=h_ (pputs_any w0 W1 b n g1 1 T d [⟨#[123]⟩] (h.below hal) (by rw [hW1,hg1];exact CB.new w _ [.string ⟨#[123]⟩]) rfl (by have:=h.lt;omega) (by intro s hs;simp at hs;subst hs;decide) (by decide));have HK1:Hid (Wk w0.heap.size b w W1):=Wk.of h.bl.size hal;rw [hN];clear hN hx hok hr hE h hal;go_enter Tryz.func200,Tryz.ntmps200;go_wp2_with fail;rw [<-hW1,<-hg1];clear hW1 hg1;refine HC1.out.mono ?_;rintro e w1 ⟨rfl,h1,h2⟩;have HW1:Hid (WS w0 w1 b (T++ptT d.data.toList ([123]::((l.take 0).map GA.s).flatMap acW)) n ⟨#[123]⟩):=h1;have HK2:=h_ (HK1.out.trans h2);clear h1 h2 HC1 HK1;go_wp2_with fail
 go_loopw [11] (λ iv wr=>∃(i:Nat) (D:ByteArray),i<=N/\iv=.int .i64 (i:Int)/\Hid (WS w0 wr b (T++ptT d.data.toList ([123]::((l.take i).map GA.s).flatMap acW)) n D/\D.data.toList=ptL d.data.toList ([123]::((l.take i).map GA.s).flatMap acW))/\Hid (Wk w0.heap.size b w wr)) (λ iv _=>N-(intOf iv).toNat)
 case atStart=>exact ⟨0,_,Nat.zero_le _,rfl,⟨HW1.out,rfl⟩,HK2⟩
 case round =>
  obtain ⟨i,D,hi,rfl,HWD,HWK⟩:=hrel
  by_cases him:i<N
  ·have him':(i:Int)<N:=by omega
   have HIM:=h_ him
   obtain ⟨a,ha⟩:∃a,l[i]?=some a:=⟨_,List.getElem?_eq_getElem (by rw [HN.out];exact him)⟩
   have hma:=List.mem_of_getElem? ha;have hoka:=HOK.out a hma;obtain ⟨g,o,c',ev,hv,hg,x0,x1,hev,hgv,x8⟩:=acts_at HX.out ha;rw [HN.out] at hv
   obtain rfl:A=some ⟨g,o,none⟩:=by injection hv
   have hbw:=HWD.out.1.bl
   have kb:∀{p:Addr} {u:Value},w0.cell? p=some u->wr.cell? p=some u:=λ hc=>by rw [World.cell?_of_block (hbw.block _ (World.block_lt_of_cell? w0 _ hc))];exact hc
   obtain ⟨X,hX⟩:=str_of a.name
   have HXN:Hid (X=⟨a.name.toArray⟩):=by show _=_;injection hX with hX;exact hX.symm
   rw [hX] at x1;have y0:=kb x0;have y1:=kb x1;have y8:=kb x8;obtain ⟨y2,y3,y4,y5,y6,y7⟩:=hev.same (hbw.block g hg);have HTX:=h_ (λ (W:World) (hb:Below w0.heap.size w0 W)=>etext_any W a.val ev (HE.out.below hb).wv (HRG.out a hma).2 ((GV.below hgv hb (n_ _)).mono (n_ 0) hb.size))
   have HNX:Hid (∀w4,WS w0 w4 b (T++ptT d.data.toList ([123]::((l.take i).map GA.s).flatMap acW)++ptT D.data.toList (wds (acA a))) n (lastA D (acA a))->WS w0 w4 b (T++ptT d.data.toList ([123]::((l.take (i+1)).map GA.s).flatMap acW)) n (lastA D (acA a))/\(lastA D (acA a)).data.toList=ptL d.data.toList ([123]::((l.take (i+1)).map GA.s).flatMap acW)):=by
    intro w4 h4
    have e1:[123]::((l.take (i+1)).map GA.s).flatMap acW=([123]::((l.take i).map GA.s).flatMap acW)++acW a.s:=by
     rw [List.take_add_one,ha];simp
    rw [e1,ptT_app,ptL_app,<-HWD.out.2,<-acA_wds hoka,<-a_,lastA_ptL];exact ⟨h4,rfl⟩
   have HSZ:Hid (∀s∈acA a,s.size<=1000000):=by
    have hnm:isNm a.name=true:=(okA_good hoka).name;intro s hs;unfold acA at hs
    have hactw:∀k:Int,(⟨(actW k).toArray⟩:ByteArray).size<=1000000:=λ k=>by
     unfold actW
     split
     ·decide
     ·split <;> decide
    split at hs
    ·simp only [List.mem_cons,List.not_mem_nil,or_false] at hs;rcases hs with rfl|rfl|rfl
     ·exact hactw 2
     ·exact nm_arr hnm
     ·decide
    ·simp only [List.mem_cons,List.not_mem_nil,or_false] at hs;rcases hs with rfl|rfl|rfl|rfl|rfl
     ·exact hactw a.kind
     ·exact nm_arr hnm
     ·decide
     ·exact txt_size a.val
     ·decide
   have HPT:=h_ (λ (W:World) (g5 m:Nat) (hw:WS w0 W b (T++ptT d.data.toList ([123]::((l.take i).map GA.s).flatMap acW)) n D) (hc:CB W g5 9 ((acA a).map Value.string)) (hm:(acA a).length=m) (hne:g5≠b) (h5:m<=5)=>pputs_any w0 W b n g5 m _ D (acA a) hw hc hm hne HSZ.out h5);have hkd:a.kind=1∨a.kind=2∨a.kind=3:=(okA_good hoka).kind
   obtain ⟨W5,hW5⟩:∃W,W=wr.alloc (.cells #[.int .i64 a.kind,.string X,.int .i64 ev.kind,.int .i64 ev.num,.string ev.name,.int .i64 ev.op,.slice ev.A ev.len ev.cap,.int .i64 ev.p,.int .i64 a.at_] 156):=⟨_,rfl⟩
   obtain ⟨g5,hg5⟩:∃g,g=wr.heap.size:=⟨_,rfl⟩
   have hal5:Below wr.heap.size wr W5:=by rw [hW5];exact (b_ _ wr).alloc (n_ _) _
   have HB5:Hid (CB W5 g5 156 [.int .i64 a.kind,.string X,.int .i64 ev.kind,.int .i64 ev.num,.string ev.name,.int .i64 ev.op,.slice ev.A ev.len ev.cap,.int .i64 ev.p,.int .i64 a.at_]):=by rw [hW5,hg5];exact CB.new wr _ [.int .i64 a.kind,.string X,.int .i64 ev.kind,.int .i64 ev.num,.string ev.name,.int .i64 ev.op,.slice ev.A ev.len ev.cap,.int .i64 ev.p,.int .i64 a.at_]
   have HW5:=h_ (HWD.out.1.below hal5);have HK5:Hid (Wk w0.heap.size b w W5):=HWK.out.trans (Wk.of hbw.size hal5);have HAC:Hid (a.kind=a.kind):=rfl
   have HGB5:Hid (g5≠b):=by have:=HWD.out.1.lt;rw [hg5];exact λ e=>by omega
   clear hma hoka hv hg hev hgv hbw kb hX x0 x1 x8 hal5 HWD HWK HSZ ha HAC;have HTX':=HTX;simp only [EV.val] at HTX;clear HTX';go_upto_region 4 with fail;rw [<-hW5,<-hg5];clear hW5 hg5 y0 y1 y2 y3 y4 y5 y6 y7 y8;rcases hkd with hk|hk|hk
   ·have hAC:acA a=[⟨#[115,101,116]⟩,X,⟨#[61]⟩,⟨a.val.txt.toArray⟩,⟨#[59]⟩]:=by
     unfold acA;rw [if_neg (by rw [hk];decide),hk,HXN.out];rfl
    have HQ0:Hid (CB W5 g5 156 [.int .i64 1,.string X,.int .i64 ev.kind,.int .i64 ev.num,.string ev.name,.int .i64 ev.op,.slice ev.A ev.len ev.cap,.int .i64 ev.p,.int .i64 a.at_]/\WS w0 W5 b (T++ptT d.data.toList ([123]::((l.take i).map GA.s).flatMap acW)) n D/\Wk w0.heap.size b w W5):=by rw [hk] at HB5;exact ⟨HB5.out,HW5.out,HK5.out⟩
    obtain ⟨TX,hTX⟩:∃TX:ByteArray,(⟨a.val.txt.toArray⟩:ByteArray)=TX:=⟨_,rfl⟩
    rw [hTX] at hAC HTX
    have HTXd:Hid (Calls Tryz.prog 201 #[.agg #[.int .i64 ev.kind,.int .i64 ev.num,.string ev.name,.int .i64 ev.op,.slice ev.A ev.len ev.cap,.int .i64 ev.p]] W5.drew λ e w'=>e=.returned (.string TX)/\(w'.cell? ⟨g5,1,none⟩=some (.string X)/\w'.cell? ⟨g5,2,none⟩=some (.int .i64 ev.kind)/\w'.cell? ⟨g5,3,none⟩=some (.int .i64 ev.num)/\w'.cell? ⟨g5,4,none⟩=some (.string ev.name)/\w'.cell? ⟨g5,5,none⟩=some (.int .i64 ev.op)/\w'.cell? ⟨g5,6,none⟩=some (.slice ev.A ev.len ev.cap)/\w'.cell? ⟨g5,7,none⟩=some (.int .i64 ev.p))/\((∀ob:Obj,(w'.alloc ob).cell? ⟨g5,1,none⟩=some (.string X))/\(∀ob:Obj,(w'.alloc ob).cell? ⟨g5,2,none⟩=some (.int .i64 ev.kind))/\(∀ob:Obj,(w'.alloc ob).cell? ⟨g5,3,none⟩=some (.int .i64 ev.num))/\(∀ob:Obj,(w'.alloc ob).cell? ⟨g5,4,none⟩=some (.string ev.name))/\(∀ob:Obj,(w'.alloc ob).cell? ⟨g5,5,none⟩=some (.int .i64 ev.op))/\(∀ob:Obj,(w'.alloc ob).cell? ⟨g5,6,none⟩=some (.slice ev.A ev.len ev.cap))/\(∀ob:Obj,(w'.alloc ob).cell? ⟨g5,7,none⟩=some (.int .i64 ev.p)))/\Hid (CB w' g5 156 [.int .i64 1,.string X,.int .i64 ev.kind,.int .i64 ev.num,.string ev.name,.int .i64 ev.op,.slice ev.A ev.len ev.cap,.int .i64 ev.p,.int .i64 a.at_]/\WS w0 w' b (T++ptT d.data.toList ([123]::((l.take i).map GA.s).flatMap acW)) n D/\Wk w0.heap.size b w w')):=by
     have hd:Below W5.heap.size W5 W5.drew:=(b_ _ W5).drew;refine (HTX.out W5.drew (HQ0.out.2.1.bl.trans (hd.mono HQ0.out.2.1.bl.size))).mono ?_;rintro e w6 ⟨rfl,hb⟩;have hb6:Below W5.heap.size W5 w6:=hd.trans hb;have c:=HQ0.out.1.below hb6;have ca:=λ ob=>c.alloc ob;exact ⟨rfl,⟨c.c 1 rfl,c.c 2 rfl,c.c 3 rfl,c.c 4 rfl,c.c 5 rfl,c.c 6 rfl,c.c 7 rfl⟩,⟨λ ob=>(ca ob).c 1 rfl,λ ob=>(ca ob).c 2 rfl,λ ob=>(ca ob).c 3 rfl,λ ob=>(ca ob).c 4 rfl,λ ob=>(ca ob).c 5 rfl,λ ob=>(ca ob).c 6 rfl,λ ob=>(ca ob).c 7 rfl⟩,c,HQ0.out.2.1.below hb6,HQ0.out.2.2.trans (Wk.of HQ0.out.2.1.bl.size hb6)⟩
    have HPTd:Hid (∀w6:World,Hid (CB w6 g5 156 [.int .i64 1,.string X,.int .i64 ev.kind,.int .i64 ev.num,.string ev.name,.int .i64 ev.op,.slice ev.A ev.len ev.cap,.int .i64 ev.p,.int .i64 a.at_]/\WS w0 w6 b (T++ptT d.data.toList ([123]::((l.take i).map GA.s).flatMap acW)) n D/\Wk w0.heap.size b w w6) ->
      Calls Tryz.prog 198 #[.pointer (some ⟨b,0,none⟩),.slice (some ⟨w6.heap.size,0,none⟩) 5 5] (w6.alloc (.cells #[.string ⟨#[115,101,116]⟩,.string X,.string ⟨#[61]⟩,.string TX,.string ⟨#[59]⟩] 9)) λ e w'=>e=.returned (.tuple #[])/\(w'.cell? ⟨g5,1,none⟩=some (.string X)/\w'.cell? ⟨g5,2,none⟩=some (.int .i64 ev.kind)/\w'.cell? ⟨g5,3,none⟩=some (.int .i64 ev.num)/\w'.cell? ⟨g5,4,none⟩=some (.string ev.name)/\w'.cell? ⟨g5,5,none⟩=some (.int .i64 ev.op)/\w'.cell? ⟨g5,6,none⟩=some (.slice ev.A ev.len ev.cap)/\w'.cell? ⟨g5,7,none⟩=some (.int .i64 ev.p))/\Hid (WS w0 w' b (T++ptT d.data.toList ([123]::((l.take (i+1)).map GA.s).flatMap acW)) n (lastA D (acA a))/\(lastA D (acA a)).data.toList=ptL d.data.toList ([123]::((l.take (i+1)).map GA.s).flatMap acW))/\Hid (Wk w0.heap.size b w w')):=by
     rintro w6 ⟨h1,h2,h3⟩;have hal:Below w6.heap.size w6 (w6.alloc (.cells #[.string ⟨#[115,101,116]⟩,.string X,.string ⟨#[61]⟩,.string TX,.string ⟨#[59]⟩] 9)):=(b_ _ w6).alloc (n_ _) _;refine (HPT.out _ w6.heap.size 5 (h2.below hal) (by rw [hAC];exact CB.new w6 _ [.string ⟨#[115,101,116]⟩,.string X,.string ⟨#[61]⟩,.string TX,.string ⟨#[59]⟩]) (by rw [hAC];rfl) (by have:=h2.lt;omega) (by decide)).mono ?_;rintro e w7 ⟨rfl,h4,h5⟩;have c:=(h1.below hal).wk h5 (by have:=HGB5.out;exact this) (by decide);exact ⟨rfl,⟨c.c 1 rfl,c.c 2 rfl,c.c 3 rfl,c.c 4 rfl,c.c 5 rfl,c.c 6 rfl,c.c 7 rfl⟩,HNX.out w7 h4,h3.trans ((Wk.of h2.bl.size hal).trans h5)⟩
    have z0:=HQ0.out.1.c 0 rfl;have z1:=HQ0.out.1.c 1 rfl;have z2:=HQ0.out.1.c 2 rfl;have z3:=HQ0.out.1.c 3 rfl;have z4:=HQ0.out.1.c 4 rfl;have z5:=HQ0.out.1.c 5 rfl;have z6:=HQ0.out.1.c 6 rfl;have z7:=HQ0.out.1.c 7 rfl;clear hk hAC hTX HTX HPT HNX HQ0 HB5 HW5 HK5 HXN;go_upto_region 6 with fail
    go_region_held3 (λ W=>W.cell? ⟨g5,1,none⟩=some (.string X)/\W.cell? ⟨g5,2,none⟩=some (.int .i64 ev.kind)/\W.cell? ⟨g5,3,none⟩=some (.int .i64 ev.num)/\W.cell? ⟨g5,4,none⟩=some (.string ev.name)/\W.cell? ⟨g5,5,none⟩=some (.int .i64 ev.op)/\W.cell? ⟨g5,6,none⟩=some (.slice ev.A ev.len ev.cap)/\W.cell? ⟨g5,7,none⟩=some (.int .i64 ev.p)) (go_keep) (first|(go_at_call 201;refine HTXd.out.mono ?_;rintro e w6 ⟨rfl,⟨x1,x2,x3,x4,x5,x6,x7⟩,⟨v1,v2,v3,v4,v5,v6,v7⟩,HQ6⟩)|(go_at_call 198;refine (HPTd.out _ HQ6).mono ?_;rintro e w7 ⟨rfl,⟨x1',x2',x3',x4',x5',x6',x7'⟩,HF7,HK7⟩))
    all_goals
     have HF8:=h_ HF7.out;have HK8:=h_ HK7.out;clear x1 x2 x3 x4 x5 x6 x7 v1 v2 v3 v4 v5 v6 v7 x1' x2' x3' x4' x5' x6' x7' HQ6 HF7 HK7 HTXd HPTd z0 z1 z2 z3 z4 z5 z6 z7;go_wp2_with fail
     go_roundw
     case rel=>exact ⟨i+1,_,by have:=HIM.out;omega,by have h1:=HIM.out;have h2:=HM.out;rw [Go.IntWalk.wrap64_in _ ⟨by omega,by omega⟩];rfl,HF8,HK8⟩
     case measure=>have h1:=HIM.out;have h2:=HM.out;rw [Go.IntWalk.wrap64_in _ ⟨by omega,by omega⟩];simp [intOf];omega
   ·have hAC:acA a=[⟨#[114,97,105,115,101]⟩,X,⟨#[59]⟩]:=by
     unfold acA;rw [if_pos hk,HXN.out];rfl
    have z0:=HB5.out.c 0 rfl;rw [hk] at z0;have z1:=HB5.out.c 1 rfl
    obtain ⟨W6,hW6⟩:∃W,W=W5.alloc (.cells #[.string ⟨#[114,97,105,115,101]⟩,.string X,.string ⟨#[59]⟩] 9):=⟨_,rfl⟩
    obtain ⟨g6,hg6⟩:∃g,g=W5.heap.size:=⟨_,rfl⟩
    have hal6:Below W5.heap.size W5 W6:=by rw [hW6];exact (b_ _ W5).alloc (n_ _) _
    have HP6:=h_ (HPT.out W6 g6 3 (HW5.out.below hal6) (by rw [hAC,hW6,hg6];exact CB.new W5 _ [.string ⟨#[114,97,105,115,101]⟩,.string X,.string ⟨#[59]⟩]) (by rw [hAC];rfl) (by have:=HW5.out.lt;omega) (by decide));have HK6:Hid (Wk w0.heap.size b w W6):=HK5.out.trans (Wk.of HW5.out.bl.size hal6);clear hk hAC HTX HPT HB5 HW5 HK5 HXN hal6;go_wp2_with fail;rw [<-hW6,<-hg6];clear hW6 hg6;refine HP6.out.mono ?_;rintro e w7 ⟨rfl,h1,h2⟩;have HF8:=h_ (HNX.out w7 h1);have HK8:=h_ (HK6.out.trans h2);clear h1 h2 HP6 HK6 HNX z0 z1;go_wp2_with fail
    go_roundw
    case rel=>exact ⟨i+1,_,by have:=HIM.out;omega,by have h1:=HIM.out;have h2:=HM.out;rw [Go.IntWalk.wrap64_in _ ⟨by omega,by omega⟩];rfl,HF8,HK8⟩
    case measure=>have h1:=HIM.out;have h2:=HM.out;rw [Go.IntWalk.wrap64_in _ ⟨by omega,by omega⟩];simp [intOf];omega
   ·have hAC:acA a=[⟨#[101,109,105,116]⟩,X,⟨#[61]⟩,⟨a.val.txt.toArray⟩,⟨#[59]⟩]:=by
     unfold acA;rw [if_neg (by rw [hk];decide),hk,HXN.out];rfl
    have HQ0:Hid (CB W5 g5 156 [.int .i64 3,.string X,.int .i64 ev.kind,.int .i64 ev.num,.string ev.name,.int .i64 ev.op,.slice ev.A ev.len ev.cap,.int .i64 ev.p,.int .i64 a.at_]/\WS w0 W5 b (T++ptT d.data.toList ([123]::((l.take i).map GA.s).flatMap acW)) n D/\Wk w0.heap.size b w W5):=by rw [hk] at HB5;exact ⟨HB5.out,HW5.out,HK5.out⟩
    obtain ⟨TX,hTX⟩:∃TX:ByteArray,(⟨a.val.txt.toArray⟩:ByteArray)=TX:=⟨_,rfl⟩
    rw [hTX] at hAC HTX
    have HTXd:Hid (Calls Tryz.prog 201 #[.agg #[.int .i64 ev.kind,.int .i64 ev.num,.string ev.name,.int .i64 ev.op,.slice ev.A ev.len ev.cap,.int .i64 ev.p]] W5.drew λ e w'=>e=.returned (.string TX)/\(w'.cell? ⟨g5,1,none⟩=some (.string X)/\w'.cell? ⟨g5,2,none⟩=some (.int .i64 ev.kind)/\w'.cell? ⟨g5,3,none⟩=some (.int .i64 ev.num)/\w'.cell? ⟨g5,4,none⟩=some (.string ev.name)/\w'.cell? ⟨g5,5,none⟩=some (.int .i64 ev.op)/\w'.cell? ⟨g5,6,none⟩=some (.slice ev.A ev.len ev.cap)/\w'.cell? ⟨g5,7,none⟩=some (.int .i64 ev.p))/\((∀ob:Obj,(w'.alloc ob).cell? ⟨g5,1,none⟩=some (.string X))/\(∀ob:Obj,(w'.alloc ob).cell? ⟨g5,2,none⟩=some (.int .i64 ev.kind))/\(∀ob:Obj,(w'.alloc ob).cell? ⟨g5,3,none⟩=some (.int .i64 ev.num))/\(∀ob:Obj,(w'.alloc ob).cell? ⟨g5,4,none⟩=some (.string ev.name))/\(∀ob:Obj,(w'.alloc ob).cell? ⟨g5,5,none⟩=some (.int .i64 ev.op))/\(∀ob:Obj,(w'.alloc ob).cell? ⟨g5,6,none⟩=some (.slice ev.A ev.len ev.cap))/\(∀ob:Obj,(w'.alloc ob).cell? ⟨g5,7,none⟩=some (.int .i64 ev.p)))/\Hid (CB w' g5 156 [.int .i64 3,.string X,.int .i64 ev.kind,.int .i64 ev.num,.string ev.name,.int .i64 ev.op,.slice ev.A ev.len ev.cap,.int .i64 ev.p,.int .i64 a.at_]/\WS w0 w' b (T++ptT d.data.toList ([123]::((l.take i).map GA.s).flatMap acW)) n D/\Wk w0.heap.size b w w')):=by
     have hd:Below W5.heap.size W5 W5.drew:=(b_ _ W5).drew;refine (HTX.out W5.drew (HQ0.out.2.1.bl.trans (hd.mono HQ0.out.2.1.bl.size))).mono ?_;rintro e w6 ⟨rfl,hb⟩;have hb6:Below W5.heap.size W5 w6:=hd.trans hb;have c:=HQ0.out.1.below hb6;have ca:=λ ob=>c.alloc ob;exact ⟨rfl,⟨c.c 1 rfl,c.c 2 rfl,c.c 3 rfl,c.c 4 rfl,c.c 5 rfl,c.c 6 rfl,c.c 7 rfl⟩,⟨λ ob=>(ca ob).c 1 rfl,λ ob=>(ca ob).c 2 rfl,λ ob=>(ca ob).c 3 rfl,λ ob=>(ca ob).c 4 rfl,λ ob=>(ca ob).c 5 rfl,λ ob=>(ca ob).c 6 rfl,λ ob=>(ca ob).c 7 rfl⟩,c,HQ0.out.2.1.below hb6,HQ0.out.2.2.trans (Wk.of HQ0.out.2.1.bl.size hb6)⟩
    have HPTd:Hid (∀w6:World,Hid (CB w6 g5 156 [.int .i64 3,.string X,.int .i64 ev.kind,.int .i64 ev.num,.string ev.name,.int .i64 ev.op,.slice ev.A ev.len ev.cap,.int .i64 ev.p,.int .i64 a.at_]/\WS w0 w6 b (T++ptT d.data.toList ([123]::((l.take i).map GA.s).flatMap acW)) n D/\Wk w0.heap.size b w w6) ->
      Calls Tryz.prog 198 #[.pointer (some ⟨b,0,none⟩),.slice (some ⟨w6.heap.size,0,none⟩) 5 5] (w6.alloc (.cells #[.string ⟨#[101,109,105,116]⟩,.string X,.string ⟨#[61]⟩,.string TX,.string ⟨#[59]⟩] 9)) λ e w'=>e=.returned (.tuple #[])/\(w'.cell? ⟨g5,1,none⟩=some (.string X)/\w'.cell? ⟨g5,2,none⟩=some (.int .i64 ev.kind)/\w'.cell? ⟨g5,3,none⟩=some (.int .i64 ev.num)/\w'.cell? ⟨g5,4,none⟩=some (.string ev.name)/\w'.cell? ⟨g5,5,none⟩=some (.int .i64 ev.op)/\w'.cell? ⟨g5,6,none⟩=some (.slice ev.A ev.len ev.cap)/\w'.cell? ⟨g5,7,none⟩=some (.int .i64 ev.p))/\Hid (WS w0 w' b (T++ptT d.data.toList ([123]::((l.take (i+1)).map GA.s).flatMap acW)) n (lastA D (acA a))/\(lastA D (acA a)).data.toList=ptL d.data.toList ([123]::((l.take (i+1)).map GA.s).flatMap acW))/\Hid (Wk w0.heap.size b w w')):=by
     rintro w6 ⟨h1,h2,h3⟩;have hal:Below w6.heap.size w6 (w6.alloc (.cells #[.string ⟨#[101,109,105,116]⟩,.string X,.string ⟨#[61]⟩,.string TX,.string ⟨#[59]⟩] 9)):=(b_ _ w6).alloc (n_ _) _;refine (HPT.out _ w6.heap.size 5 (h2.below hal) (by rw [hAC];exact CB.new w6 _ [.string ⟨#[101,109,105,116]⟩,.string X,.string ⟨#[61]⟩,.string TX,.string ⟨#[59]⟩]) (by rw [hAC];rfl) (by have:=h2.lt;omega) (by decide)).mono ?_;rintro e w7 ⟨rfl,h4,h5⟩;have c:=(h1.below hal).wk h5 (by have:=HGB5.out;exact this) (by decide);exact ⟨rfl,⟨c.c 1 rfl,c.c 2 rfl,c.c 3 rfl,c.c 4 rfl,c.c 5 rfl,c.c 6 rfl,c.c 7 rfl⟩,HNX.out w7 h4,h3.trans ((Wk.of h2.bl.size hal).trans h5)⟩
    have z0:=HQ0.out.1.c 0 rfl;have z1:=HQ0.out.1.c 1 rfl;have z2:=HQ0.out.1.c 2 rfl;have z3:=HQ0.out.1.c 3 rfl;have z4:=HQ0.out.1.c 4 rfl;have z5:=HQ0.out.1.c 5 rfl;have z6:=HQ0.out.1.c 6 rfl;have z7:=HQ0.out.1.c 7 rfl;clear hk hAC hTX HTX HPT HNX HQ0 HB5 HW5 HK5 HXN;go_upto_region 10 with fail
    go_region_held3 (λ W=>W.cell? ⟨g5,1,none⟩=some (.string X)/\W.cell? ⟨g5,2,none⟩=some (.int .i64 ev.kind)/\W.cell? ⟨g5,3,none⟩=some (.int .i64 ev.num)/\W.cell? ⟨g5,4,none⟩=some (.string ev.name)/\W.cell? ⟨g5,5,none⟩=some (.int .i64 ev.op)/\W.cell? ⟨g5,6,none⟩=some (.slice ev.A ev.len ev.cap)/\W.cell? ⟨g5,7,none⟩=some (.int .i64 ev.p)) (go_keep) (first|(go_at_call 201;refine HTXd.out.mono ?_;rintro e w6 ⟨rfl,⟨x1,x2,x3,x4,x5,x6,x7⟩,⟨v1,v2,v3,v4,v5,v6,v7⟩,HQ6⟩)|(go_at_call 198;refine (HPTd.out _ HQ6).mono ?_;rintro e w7 ⟨rfl,⟨x1',x2',x3',x4',x5',x6',x7'⟩,HF7,HK7⟩))
    all_goals
     have HF8:=h_ HF7.out;have HK8:=h_ HK7.out;clear x1 x2 x3 x4 x5 x6 x7 v1 v2 v3 v4 v5 v6 v7 x1' x2' x3' x4' x5' x6' x7' HQ6 HF7 HK7 HTXd HPTd z0 z1 z2 z3 z4 z5 z6 z7;go_wp2_with fail
     go_roundw
     case rel=>exact ⟨i+1,_,by have:=HIM.out;omega,by have h1:=HIM.out;have h2:=HM.out;rw [Go.IntWalk.wrap64_in _ ⟨by omega,by omega⟩];rfl,HF8,HK8⟩
     case measure=>have h1:=HIM.out;have h2:=HM.out;rw [Go.IntWalk.wrap64_in _ ⟨by omega,by omega⟩];simp [intOf];omega
  ·have him':¬(i:Int)<N:=by omega
   obtain rfl:i=N:=by omega
   have HWF:Hid (WS w0 wr b (T++ptT d.data.toList ([123]::(l.map GA.s).flatMap acW)) n D/\D.data.toList=ptL d.data.toList ([123]::(l.map GA.s).flatMap acW)):=by
    have:=HWD.out;rw [List.take_of_length_le (by rw [HN.out];exact n_ _)] at this;exact this
   obtain ⟨W6,hW6⟩:∃W,W=wr.alloc (.cells #[.string ⟨#[125]⟩] 9):=⟨_,rfl⟩
   obtain ⟨g6,hg6⟩:∃g,g=wr.heap.size:=⟨_,rfl⟩
   have hal6:Below wr.heap.size wr W6:=by rw [hW6];exact (b_ _ wr).alloc (n_ _) _
   have HP6:=h_ (pputs_any w0 W6 b n g6 1 _ D [⟨#[125]⟩] (HWF.out.1.below hal6) (by rw [hW6,hg6];exact CB.new wr _ [.string ⟨#[125]⟩]) rfl (by have:=HWF.out.1.lt;omega) (by intro s hs;simp at hs;subst hs;decide) (by decide));have HK6:Hid (Wk w0.heap.size b w W6):=HWK.out.trans (Wk.of HWF.out.1.bl.size hal6);have HDL:=h_ HWF.out.2;clear hi him HWD HWK HWF hal6;go_wp2_with fail;rw [<-hW6,<-hg6];clear hW6 hg6;refine HP6.out.mono ?_;rintro e w7 ⟨rfl,h1,h2⟩;have HF8:=h_ h1;have HK8:=h_ (HK6.out.trans h2);clear h1 h2 HP6 HK6;go_wp2_with fail;go_end0;refine ⟨rfl,?_,HK8.out⟩;have h:=HF8.out;rw [HDL.out,a_] at h;have e1:asW (l.map GA.s)=([123]::(l.map GA.s).flatMap acW)++[[125]]:=rfl;rw [e1,ptT_app];exact h
theorem ind_app (n:Nat) (T x y:List UInt8):(T++(List.replicate (2*n) 32++x))++y++[10]=T++ind n (x++y):=by
 unfold ind;simp only [a_]
theorem pclause_any (w0 w:World) (b n:Nat) (T:List UInt8) (S:ByteArray) (l:List GA) (A:Option Addr) (c:Nat) (hE:Ee w0) (h:WS w0 w b T n ⟨#[]⟩) (hx:DxAt w0 (gActs l) (.slice A l.length c)) (hok:l.all okA=true) (hr:∀a∈l,a.rng) (hS:kwOk S.data.toList=true) (hsz:S.size<=1000000) (hn:n<=100) :
  Calls Tryz.prog 144 #[.pointer (some ⟨b,0,none⟩),.string S,.slice A l.length c] w λ e w'=>e=.returned (.tuple #[])/\WS w0 w' b (T++clT n S.data.toList (l.map GA.s)) n ⟨#[]⟩/\Wk w0.heap.size b w w':=by
 by_cases hl:l.length=0
 ·obtain rfl:=List.eq_nil_of_length_eq_zero hl;have HW:=h_ h;clear h hx hok hr hl;go_enter Tryz.func144,Tryz.ntmps144;go_wp2_with fail;go_end0;refine ⟨rfl,?_,Wk.refl _ _ _⟩;have e:clT n S.data.toList ([].map GA.s)=[]:=rfl;rw [e,List.append_nil];exact HW.out
 ·have HNL:Hid (∀N,l.length=N->clT n S.data.toList (l.map GA.s)=ind n (S.data.toList++32::blockT (l.map GA.s))):=λ _ _=>by
   unfold clT;rw [if_neg (by intro h;have:=congrArg List.length h;simp at this;exact hl (by rw [this];rfl))]
  obtain ⟨W1,hW1⟩:∃W,W=w.alloc (.cells #[.string S] 9):=⟨_,rfl⟩
  obtain ⟨g1,hg1⟩:∃g,g=w.heap.size:=⟨_,rfl⟩
  have hal:Below w.heap.size w W1:=by rw [hW1];exact (b_ _ w).alloc (n_ _) _
  have HC1:=h_ (pbegin_any w0 W1 b n g1 1 T [S] (h.below hal) (by rw [hW1,hg1];exact CB.new w _ [.string S]) rfl (by have:=h.lt;omega) (by intro s hs;simp at hs;subst hs;exact hsz) (by decide) hn);have HK1:Hid (Wk w0.heap.size b w W1):=Wk.of h.bl.size hal;have HC2:=h_ (λ W hw=>pblock_any w0 W b n (T++(List.replicate (2*n) 32++ptT [] (wds [S]))) S l A c hE hw hx hok hr);have HC3:=h_ (λ W hw=>pend_nil w0 W b n ((T++(List.replicate (2*n) 32++ptT [] (wds [S])))++ptT S.data.toList (asW (l.map GA.s))) ⟨#[125]⟩ hw)
  have HTX:Hid ((T++(List.replicate (2*n) 32++ptT [] (wds [S])))++ptT S.data.toList (asW (l.map GA.s))++[10]=T++clT n S.data.toList (l.map GA.s)):=by
   show _=_;rw [HNL.out _ rfl,ind_app]
   congr 2
   have:=pt_clause hS (okAs_good hok);rw [<-this];show (sepW [] S.data.toList++(S.data.toList++[]))++ptT S.data.toList (asW (l.map GA.s))=sepW [] S.data.toList++(S.data.toList++ptT S.data.toList (asW (l.map GA.s)));simp only [a_,List.append_nil]
  obtain ⟨N,hN⟩:∃N,l.length=N:=⟨_,rfl⟩
  have hN0:(N:Int) > 0:=by omega
  rw [hN] at HC2 ⊢;clear h hal hx hok hr hS hsz hn hE hl hN HNL;go_enter Tryz.func144,Tryz.ntmps144;go_wp2_with fail;rw [<-hW1,<-hg1];clear hW1 hg1;refine HC1.out.mono ?_;rintro e w1 ⟨rfl,h1,h2⟩;have HW1:Hid (WS w0 w1 b (T++(List.replicate (2*n) 32++ptT [] (wds [S]))) n S):=h1;have HK2:=h_ (HK1.out.trans h2);clear h1 h2 HC1 HK1;go_wp2_with fail;refine (HC2.out w1 HW1.out).mono ?_;rintro e w2 ⟨rfl,h1,h2⟩;have HW2:=h_ h1;have HK3:=h_ (HK2.out.trans h2);clear h1 h2 HC2 HK2 HW1;go_wp2_with fail;refine (HC3.out w2 HW2.out).mono ?_;rintro e w3 ⟨rfl,h1,h2⟩;have HW3:=h_ h1;have HK4:=h_ (HK3.out.trans h2);clear h1 h2 HC3 HK3 HW2;go_wp2_with fail;go_end0;exact ⟨rfl,by have:=HW3.out;rw [HTX.out] at this;exact this,HK4.out⟩
def MS (w0 W:World) (b n:Nat) (X:List UInt8) (ws:List (List UInt8)):Prop:=∃D:ByteArray,WS w0 W b (X++ptT [] ws) n D/\D.data.toList=ptL [] ws
theorem MS.lt {w0 W:World} {b n:Nat} {X:List UInt8} {ws:List (List UInt8)} (h:MS w0 W b n X ws):b<W.heap.size:=by
 obtain ⟨D,h,_⟩:=h;exact h.lt
theorem MS.bl {w0 W:World} {b n:Nat} {X:List UInt8} {ws:List (List UInt8)} (h:MS w0 W b n X ws):Below w0.heap.size w0 W:=by
 obtain ⟨D,h,_⟩:=h;exact h.bl
theorem MS.below {w0 W W':World} {b n:Nat} {X:List UInt8} {ws:List (List UInt8)} (h:MS w0 W b n X ws) (hb:Below W.heap.size W W'):MS w0 W' b n X ws:=by
 obtain ⟨D,h,h2⟩:=h;exact ⟨D,h.below hb,h2⟩
theorem ms_begin {w0 W:World} {b n:Nat} {T:List UInt8} {ss:List ByteArray} (h:WS w0 W b (T++(List.replicate (2*n) 32++ptT [] (wds ss))) n (lastA ⟨#[]⟩ ss)):MS w0 W b n (T++List.replicate (2*n) 32) (wds ss) :=
 ⟨_,by rw [a_];exact h,lastA_ptL ⟨#[]⟩ ss⟩
theorem ms_put {w0 w:World} {b n g m:Nat} {X:List UInt8} {ws:List (List UInt8)} (ss:List ByteArray) (h:MS w0 w b n X ws) (hs:CB w g 9 (ss.map Value.string)) (hm:ss.length=m) (hg:g≠b) (hM:∀s∈ss,s.size<=1000000) (h5:m<=5) :
  Calls Tryz.prog 198 #[.pointer (some ⟨b,0,none⟩),.slice (some ⟨g,0,none⟩) m m] w λ e w'=>e=.returned (.tuple #[])/\MS w0 w' b n X (ws++wds ss)/\Wk w0.heap.size b w w':=by
 obtain ⟨D,h1,h2⟩:=h;refine (pputs_any w0 w b n g m _ D ss h1 hs hm hg hM h5).mono ?_;rintro e w' ⟨rfl,h3,h4⟩;refine ⟨rfl,⟨lastA D ss,?_,?_⟩,h4⟩
 ·rw [ptT_app,<-h2,<-a_];exact h3
 ·rw [ptL_app,<-h2];exact lastA_ptL D ss
theorem ms_block {w0 w:World} {b n:Nat} {X:List UInt8} {ws:List (List UInt8)} (l:List GA) (A:Option Addr) (c:Nat) (hE:Ee w0) (h:MS w0 w b n X ws) (hx:DxAt w0 (gActs l) (.slice A l.length c)) (hok:l.all okA=true) (hr:∀a∈l,a.rng) :
  Calls Tryz.prog 200 #[.pointer (some ⟨b,0,none⟩),.slice A l.length c] w λ e w'=>e=.returned (.tuple #[])/\MS w0 w' b n X (ws++asW (l.map GA.s))/\Wk w0.heap.size b w w':=by
 obtain ⟨D,h1,h2⟩:=h;refine (pblock_any w0 w b n _ D l A c hE h1 hx hok hr).mono ?_;rintro e w' ⟨rfl,h3,h4⟩;refine ⟨rfl,⟨⟨#[125]⟩,?_,?_⟩,h4⟩
 ·rw [ptT_app,<-h2,<-a_];exact h3
 ·rw [ptL_app];unfold asW;rw [show ([123]:List UInt8)::((l.map GA.s).flatMap acW++[[125]])=([123]::(l.map GA.s).flatMap acW)++[[125]] from rfl,ptL_app];rfl
theorem tgW1_snoc:∀(ts:List (List UInt8)) (t:List UInt8),tgW1 (ts++[t])=tgW1 ts++[[44],t]:=by
 intro ts t;unfold tgW1;rw [List.flatMap_append];rfl
def sgA (i:Nat):ByteArray:=match i with
 |0=>⟨#[45,62]⟩
 |_+1=>⟨#[44]⟩
theorem tgW_snoc (ts:List (List UInt8)) (t:List UInt8):tgW (ts++[t])=tgW ts++[(sgA ts.length).data.toList,t]:=by
 cases ts with
 |nil=>rfl
 |cons x ts =>
  show [45,62]::x::tgW1 (ts++[t])=([45,62]::x::tgW1 ts)++[[44],t];rw [tgW1_snoc];rfl
theorem sgA_size (i:Nat):(sgA i).size<=1000000:=by
 cases i with
 |zero=>decide
 |succ i=>show (⟨#[44]⟩:ByteArray).size<=_;decide
theorem itoa_arr (n:Int) (h0:-9223372036854775808<=n) (h1:n<=9223372036854775807):(⟨(Lib.itoa n).toArray⟩:ByteArray).size<=1000000:=by
 have:=itoa_short n h0 h1;show (Lib.itoa n).toArray.size<=_;simp only [List.size_toArray];omega
def mvW0 (m:SyMove):List (List UInt8):=evW m++gdW m.guard++bkW m.acts
theorem mvW_parts (m:SyMove):mvW m=mvW0 m++tgW m.targets++[[59]]:=by
 unfold mvW mvW0;simp only [a_]
theorem pmove_any (w0 w:World) (b n:Nat) (T:List UInt8) (m:GM) (xs:List Value) (hE:Ee w0) (h:WS w0 w b T n ⟨#[]⟩) (hx:DxsAt w0 (gMove m) xs) (hok:okM m=true) (hr:m.rng) (hn:n<=100) :
  Calls Tryz.prog 145 #[.pointer (some ⟨b,0,none⟩),.agg xs.toArray] w λ e w'=>e=.returned (.tuple #[])/\WS w0 w' b (T++ind n (moveT m.s)) n ⟨#[]⟩/\Wk w0.heap.size b w w':=by
 obtain ⟨ev,A1,A2,c1,c2,rfl,hg,ha,ht⟩:=move_vals' hx;have hgood:=okM_good hok hr.2.1.2;have HGD:=h_ hgood;obtain ⟨X,hX⟩:=str_of m.event
 have HXN:Hid (X=⟨m.event.toArray⟩):=by show _=_;injection hX with hX;exact hX.symm
 rw [hX]
 obtain ⟨W1,hW1⟩:∃W,W=w.alloc (.cells #[.int .i64 m.kind,.string X,.int .i64 m.wait,.bool m.guarded,.int .i64 ev.kind,.int .i64 ev.num,.string ev.name,.int .i64 ev.op,.slice ev.A ev.len ev.cap,.int .i64 ev.p,.slice A1 m.acts.length c1,.slice A2 m.targets.length c2,.int .i64 m.at_] 57):=⟨_,rfl⟩
 obtain ⟨g1,hg1⟩:∃g,g=w.heap.size:=⟨_,rfl⟩
 have hal:Below w.heap.size w W1:=by rw [hW1];exact (b_ _ w).alloc (n_ _) _
 have HB1:Hid (CB W1 g1 57 [.int .i64 m.kind,.string X,.int .i64 m.wait,.bool m.guarded,.int .i64 ev.kind,.int .i64 ev.num,.string ev.name,.int .i64 ev.op,.slice ev.A ev.len ev.cap,.int .i64 ev.p,.slice A1 m.acts.length c1,.slice A2 m.targets.length c2,.int .i64 m.at_]):=by rw [hW1,hg1];exact CB.new w _ [.int .i64 m.kind,.string X,.int .i64 m.wait,.bool m.guarded,.int .i64 ev.kind,.int .i64 ev.num,.string ev.name,.int .i64 ev.op,.slice ev.A ev.len ev.cap,.int .i64 ev.p,.slice A1 m.acts.length c1,.slice A2 m.targets.length c2,.int .i64 m.at_]
 have HW1:=h_ (h.below hal);have HK1:Hid (Wk w0.heap.size b w W1):=Wk.of h.bl.size hal
 have HGB:Hid (g1≠b):=by have:=h.lt;rw [hg1];exact λ e=>by omega
 have HE:=h_ hE;have HTX:=h_ (λ (W:World) (hb:Below w0.heap.size w0 W)=>etext_any W m.guard ev (hE.below hb).wv hr.2.2.1 ((GV.below hg hb (n_ _)).mono (n_ 0) hb.size));simp only [EV.val] at HTX;have HNT:=h_ (λ (W:World) (hb:Below w0.heap.size w0 W)=>text_any m.wait W hr.2.1.1 hr.2.1.2 (hE.below hb).pw)
 have hokp:trig m=true/\grd m=true/\m.acts.all okA=true/\m.targets.all isNm=true:=by
  unfold okM at hok;simp only [Bool.and_eq_true] at hok;exact ⟨hok.1.1.1,hok.1.1.2,hok.1.2,hok.2⟩
 have HBK:=h_ (λ (W:World) X ws (hw:MS w0 W b n X ws)=>ms_block m.acts A1 c1 hE hw ha hokp.2.2.1 hr.2.2.2.1);have HST:=h_ (strs_sl ht);have HTN:Hid (∀t∈m.targets,isNm t=true):=λ t ht=>List.all_eq_true.1 hokp.2.2.2 t ht
 have HSZ:Hid (X.size<=1000000∨m.kind≠1):=by
  show _∨_;rcases hgood.event with e|e
  ·left;rw [HXN.out];exact nm_arr e.2
  ·exact .inr e.1
 have HWT:=h_ (itoa_arr m.wait hr.2.1.1 hr.2.1.2);have hkd:m.kind=1∨m.kind=2∨m.kind=3:=hgood.kind;have HGS:Hid (m.guarded=m.guard.right.isSome):=hgood.guarded
 have HFN:Hid (T++List.replicate (2*n) 32++ptT [] (mvW m.s)++[10]=T++ind n (moveT m.s)):=by
  show _=_;rw [pt_move hgood];unfold ind;simp only [a_]
 have HN:=h_ hn
 obtain ⟨K,hK⟩:∃K,m.kind=K:=⟨_,rfl⟩
 have HKE:=h_ hK;rw [hK] at HB1 hkd hW1 HSZ ⊢;clear hK;have z0:=HB1.out.c 0 rfl;have z1:=HB1.out.c 1 rfl;have z2:=HB1.out.c 2 rfl;clear h hal hx hok hr hn hg ha ht hgood hX hE hokp;go_enter Tryz.func145,Tryz.ntmps145;go_upto_block 0 with fail;rw [<-hW1,<-hg1];clear hW1 hg1
 go_cut [] (λ wr=>Hid (MS w0 wr b n (T++List.replicate (2*n) 32) (evW m.s))/\Hid (CB wr g1 57 [.int .i64 K,.string X,.int .i64 m.wait,.bool m.guarded,.int .i64 ev.kind,.int .i64 ev.num,.string ev.name,.int .i64 ev.op,.slice ev.A ev.len ev.cap,.int .i64 ev.p,.slice A1 m.acts.length c1,.slice A2 m.targets.length c2,.int .i64 m.at_])/\Hid (Wk w0.heap.size b w wr))
 case first =>
  rcases hkd with rfl|rfl|rfl
  ·have HEV:Hid (evW m.s=wds [⟨#[111,110]⟩,X]):=by
    show _=_;unfold evW;rw [if_pos (show m.s.kind=1 from HKE.out),HXN.out];simp only [wds,List.map_cons,List.map_nil];rfl
   obtain ⟨W2,hW2⟩:∃W,W=W1.alloc (.cells #[.string ⟨#[111,110]⟩,.string X] 9):=⟨_,rfl⟩
   obtain ⟨g2,hg2⟩:∃g,g=W1.heap.size:=⟨_,rfl⟩
   have hal:Below W1.heap.size W1 W2:=by rw [hW2];exact (b_ _ W1).alloc (n_ _) _
   have HC:=h_ (pbegin_any w0 W2 b n g2 2 T [⟨#[111,110]⟩,X] (HW1.out.below hal) (by rw [hW2,hg2];exact CB.new W1 _ [.string ⟨#[111,110]⟩,.string X]) rfl (by have:=HW1.out.lt;omega) (by
    intro s hs;simp only [List.mem_cons,List.not_mem_nil,or_false] at hs;rcases hs with rfl|rfl
    ·decide
    ·rcases HSZ.out with h|h
     ·exact h
     ·exact absurd rfl h) (by decide) HN.out)
   have HB2:=h_ (HB1.out.below hal);have HK2:Hid (Wk w0.heap.size b w W2):=HK1.out.trans (Wk.of HW1.out.bl.size hal);clear hal HB1 HK1 HW1;go_wp2_with fail;rw [<-hW2,<-hg2];clear hW2 hg2 z0 z1 z2;refine HC.out.mono ?_;rintro e w3 ⟨rfl,h1,h2⟩
   have HM3:Hid (MS w0 w3 b n (T++List.replicate (2*n) 32) (evW m.s)):=by
    show MS _ _ _ _ _ _;rw [HEV.out];exact ms_begin h1
   have HB3:=h_ (HB2.out.wk h2 HGB.out (by decide));have HK3:=h_ (HK2.out.trans h2);clear h1 h2 HC HB2 HK2;go_wp2_with fail
   go_meet
   exact ⟨HM3,HB3,HK3⟩
  ·have HEV:Hid (evW m.s=wds [⟨#[97,108,119,97,121,115]⟩]):=by
    show _=_;unfold evW;rw [if_neg (show ¬m.s.kind=1 from by show ¬m.kind=1;rw [HKE.out];decide),if_pos (show m.s.kind=2 from HKE.out)];rfl
   obtain ⟨W2,hW2⟩:∃W,W=W1.alloc (.cells #[.string ⟨#[97,108,119,97,121,115]⟩] 9):=⟨_,rfl⟩
   obtain ⟨g2,hg2⟩:∃g,g=W1.heap.size:=⟨_,rfl⟩
   have hal:Below W1.heap.size W1 W2:=by rw [hW2];exact (b_ _ W1).alloc (n_ _) _
   have HC:=h_ (pbegin_any w0 W2 b n g2 1 T [⟨#[97,108,119,97,121,115]⟩] (HW1.out.below hal) (by rw [hW2,hg2];exact CB.new W1 _ [.string ⟨#[97,108,119,97,121,115]⟩]) rfl (by have:=HW1.out.lt;omega) (by intro s hs;simp at hs;subst hs;decide) (by decide) HN.out);have HB2:=h_ (HB1.out.below hal);have HK2:Hid (Wk w0.heap.size b w W2):=HK1.out.trans (Wk.of HW1.out.bl.size hal);clear hal HB1 HK1 HW1;go_wp2_with fail;rw [<-hW2,<-hg2];clear hW2 hg2 z0 z1 z2;refine HC.out.mono ?_;rintro e w3 ⟨rfl,h1,h2⟩
   have HM3:Hid (MS w0 w3 b n (T++List.replicate (2*n) 32) (evW m.s)):=by
    show MS _ _ _ _ _ _;rw [HEV.out];exact ms_begin h1
   have HB3:=h_ (HB2.out.wk h2 HGB.out (by decide));have HK3:=h_ (HK2.out.trans h2);clear h1 h2 HC HB2 HK2;go_wp2_with fail
   go_meet
   exact ⟨HM3,HB3,HK3⟩
  ·obtain ⟨NT,hNT⟩:∃NT:ByteArray,(⟨(Lib.itoa m.wait).toArray⟩:ByteArray)=NT:=⟨_,rfl⟩
   have HEV:Hid (evW m.s=wds [⟨#[97,102,116,101,114]⟩,NT]):=by
    show _=_;unfold evW;rw [if_neg (show ¬m.s.kind=1 from by show ¬m.kind=1;rw [HKE.out];decide),if_neg (show ¬m.s.kind=2 from by show ¬m.kind=2;rw [HKE.out];decide),<-hNT];simp only [wds,List.map_cons,List.map_nil];rfl
   rw [hNT] at HNT HWT;have HNC:=h_ (HNT.out W1 HW1.out.bl);clear hNT;go_wp2_with fail;refine HNC.out.mono ?_;rintro e wn ⟨rfl,hbn⟩
   obtain ⟨W2,hW2⟩:∃W,W=wn.alloc (.cells #[.string ⟨#[97,102,116,101,114]⟩,.string NT] 9):=⟨_,rfl⟩
   obtain ⟨g2,hg2⟩:∃g,g=wn.heap.size:=⟨_,rfl⟩
   have hal0:Below wn.heap.size wn W2:=by rw [hW2];exact (b_ _ wn).alloc (n_ _) _
   have hal:Below W1.heap.size W1 W2:=hbn.trans (hal0.mono hbn.size)
   have HC:=h_ (pbegin_any w0 W2 b n g2 2 T [⟨#[97,102,116,101,114]⟩,NT] (HW1.out.below hal) (by rw [hW2,hg2];exact CB.new wn _ [.string ⟨#[97,102,116,101,114]⟩,.string NT]) rfl (by have:=HW1.out.lt;have:=hbn.size;omega) (by
    intro s hs;simp only [List.mem_cons,List.not_mem_nil,or_false] at hs;rcases hs with rfl|rfl
    ·decide
    ·exact HWT.out) (by decide) HN.out)
   have HB2:=h_ (HB1.out.below hal);have HK2:Hid (Wk w0.heap.size b w W2):=HK1.out.trans (Wk.of HW1.out.bl.size hal);clear hal hal0 hbn HB1 HK1 HW1 HNC;go_wp2_with fail;rw [<-hW2,<-hg2];clear hW2 hg2 z0 z1 z2;refine HC.out.mono ?_;rintro e w3 ⟨rfl,h1,h2⟩
   have HM3:Hid (MS w0 w3 b n (T++List.replicate (2*n) 32) (evW m.s)):=by
    show MS _ _ _ _ _ _;rw [HEV.out];exact ms_begin h1
   have HB3:=h_ (HB2.out.wk h2 HGB.out (by decide));have HK3:=h_ (HK2.out.trans h2);clear h1 h2 HC HB2 HK2;go_wp2_with fail
   go_meet
   exact ⟨HM3,HB3,HK3⟩
 case rest =>
 obtain ⟨HM2,HB2,HK2⟩:=hcut;clear z0 z1 z2 HB1 HK1 HW1 HNT HWT HSZ hkd;have z3:=HB2.out.c 3 rfl;have z4:=HB2.out.c 4 rfl;have z5:=HB2.out.c 5 rfl;have z6:=HB2.out.c 6 rfl;have z7:=HB2.out.c 7 rfl;have z8:=HB2.out.c 8 rfl;have z9:=HB2.out.c 9 rfl
 obtain ⟨d,hgd⟩:∃d,m.guarded=d:=⟨_,rfl⟩
 have HGD2:=h_ hgd;rw [hgd] at z3;clear hgd;go_upto_if 30 with fail
 go_cut [] (λ wr=>Hid (MS w0 wr b n (T++List.replicate (2*n) 32) (evW m.s++gdW m.s.guard))/\Hid (CB wr g1 57 [.int .i64 K,.string X,.int .i64 m.wait,.bool m.guarded,.int .i64 ev.kind,.int .i64 ev.num,.string ev.name,.int .i64 ev.op,.slice ev.A ev.len ev.cap,.int .i64 ev.p,.slice A1 m.acts.length c1,.slice A2 m.targets.length c2,.int .i64 m.at_])/\Hid (Wk w0.heap.size b w wr))
 case first =>
  cases d
  ·have HM3:Hid (MS w0 wc b n (T++List.replicate (2*n) 32) (evW m.s++gdW m.s.guard)):=by
    show MS _ _ _ _ _ _;have h1:=HGS.out;rw [HGD2.out] at h1
    have h2:m.s.guard=none:=by
     show m.guard.right=none
     cases h:m.guard.right with
     |none=>rfl
     |some e=>rw [h] at h1;cases h1
    rw [h2];show MS w0 wc b n _ (evW m.s++[]);rw [List.append_nil];exact HM2.out
   go_wp2_with fail
   go_meet
   exact ⟨HM3,HB2,HK2⟩
  ·obtain ⟨e,he⟩:∃e,m.guard.right=some e:=x_ (by rw [<-HGS.out];exact HGD2.out)
   obtain ⟨TX,hTX⟩:∃TX:ByteArray,(⟨m.guard.txt.toArray⟩:ByteArray)=TX:=⟨_,rfl⟩
   have HGW:Hid (gdW m.s.guard=wds [⟨#[91]⟩,TX,⟨#[93]⟩]):=by
    show gdW m.guard.right=_;rw [he,<-hTX];simp only [wds,List.map_cons,List.map_nil,GX.txt_some he];rfl
   have HTS:Hid (TX.size<=1000000):=by show TX.size<=_;rw [<-hTX];exact txt_size m.guard
   rw [hTX] at HTX;have HTC:=h_ (HTX.out wc HM2.out.bl);clear he hTX;go_wp2_with fail;refine HTC.out.mono ?_;rintro e' wn ⟨rfl,hbn⟩
   obtain ⟨W2,hW2⟩:∃W,W=wn.alloc (.cells #[.string ⟨#[91]⟩,.string TX,.string ⟨#[93]⟩] 9):=⟨_,rfl⟩
   obtain ⟨g2,hg2⟩:∃g,g=wn.heap.size:=⟨_,rfl⟩
   have hal0:Below wn.heap.size wn W2:=by rw [hW2];exact (b_ _ wn).alloc (n_ _) _
   have hal:Below wc.heap.size wc W2:=hbn.trans (hal0.mono hbn.size)
   have HC:=h_ (ms_put [⟨#[91]⟩,TX,⟨#[93]⟩] (m:=3) (g:=g2) (HM2.out.below hal) (by rw [hW2,hg2];exact CB.new wn _ [.string ⟨#[91]⟩,.string TX,.string ⟨#[93]⟩]) rfl (by have:=HM2.out.lt;have:=hbn.size;omega) (by
    intro s hs;simp only [List.mem_cons,List.not_mem_nil,or_false] at hs;rcases hs with rfl|rfl|rfl
    ·decide
    ·exact HTS.out
    ·decide) (by decide))
   have HB3:=h_ (HB2.out.below hal);have HK3:Hid (Wk w0.heap.size b w W2):=HK2.out.trans (Wk.of HM2.out.bl.size hal);clear hal hal0 hbn HB2 HK2 HM2 HTC;go_wp2_with fail;rw [<-hW2,<-hg2];clear hW2 hg2 z3 z4 z5 z6 z7 z8 z9;refine HC.out.mono ?_;rintro e' w3 ⟨rfl,h1,h2⟩
   have HM4:Hid (MS w0 w3 b n (T++List.replicate (2*n) 32) (evW m.s++gdW m.s.guard)):=by
    show MS _ _ _ _ _ _;rw [HGW.out];exact h1
   have HB4:=h_ (HB3.out.wk h2 HGB.out (by decide));have HK4:=h_ (HK3.out.trans h2);clear h1 h2 HC HB3 HK3;go_wp2_with fail
   go_meet
   exact ⟨HM4,HB4,HK4⟩
 case rest =>
 obtain ⟨HM3,HB3,HK3⟩:=hcut;clear z3 z4 z5 z6 z7 z8 z9 HB2 HK2 HM2 HTX
 rename World=>wd
 have z10:=HB3.out.c 10 rfl
 obtain ⟨N,hN⟩:∃N,m.acts.length=N:=⟨_,rfl⟩
 have HNN:=h_ hN;rw [hN] at z10;clear hN
 obtain ⟨d2,hd2⟩:∃d,decide (0<N)=d:=⟨_,rfl⟩
 go_upto_if 40 with fail;have HD2:=h_ hd2;clear hd2
 go_cut [] (λ wr=>Hid (MS w0 wr b n (T++List.replicate (2*n) 32) (mvW0 m.s))/\Hid (CB wr g1 57 [.int .i64 K,.string X,.int .i64 m.wait,.bool m.guarded,.int .i64 ev.kind,.int .i64 ev.num,.string ev.name,.int .i64 ev.op,.slice ev.A ev.len ev.cap,.int .i64 ev.p,.slice A1 m.acts.length c1,.slice A2 m.targets.length c2,.int .i64 m.at_])/\Hid (Wk w0.heap.size b w wr))
 case first =>
  have HC:=h_ (HBK.out _ _ _ HM3.out);rw [HNN.out] at HC;cases d2
  ·have HM4:Hid (MS w0 wd b n (T++List.replicate (2*n) 32) (mvW0 m.s)):=by
    show MS _ _ _ _ _ _;have e1:m.acts=[]:=List.eq_nil_of_length_eq_zero (by have:=of_decide_eq_false HD2.out;rw [HNN.out];omega)
    have e2:mvW0 m.s=evW m.s++gdW m.s.guard:=by
     unfold mvW0;show _++_++bkW (m.acts.map GA.s)=_;rw [e1];show _++[]=_;rw [List.append_nil]
    rw [e2];exact HM3.out
   go_wp2_with fail
   go_meet
   exact ⟨HM4,HB3,HK3⟩
  ·have HMM:Hid (mvW0 m.s=evW m.s++gdW m.s.guard++asW (m.acts.map GA.s)):=by
    show _=_;unfold mvW0;show _++_++bkW (m.acts.map GA.s)=_;unfold bkW;rw [if_neg (by intro h;have:=congrArg List.length h;rw [List.length_map,HNN.out] at this;have h2:=of_decide_eq_true HD2.out;simp at this;omega)]
   go_wp2_with fail;refine HC.out.mono ?_;rintro e' w3 ⟨rfl,h1,h2⟩
   have HM4:Hid (MS w0 w3 b n (T++List.replicate (2*n) 32) (mvW0 m.s)):=by
    show MS _ _ _ _ _ _;rw [HMM.out];exact h1
   have HB4:=h_ (HB3.out.wk h2 HGB.out (by decide));have HK4:=h_ (HK3.out.trans h2);clear h1 h2 HC;go_wp2_with fail
   go_meet
   exact ⟨HM4,HB4,HK4⟩
 case rest =>
 obtain ⟨HM4,HB4,HK4⟩:=hcut;clear z10 HB3 HK3 HM3 HBK;have z11:=HB4.out.c 11 rfl
 obtain ⟨N,hN⟩:∃N,m.targets.length=N:=⟨_,rfl⟩
 have HN2:=h_ hN
 have HMX:Hid (N<=9223372036854775807):=by
  have h1:=HST.out.1;have h2:=HST.out.2.1
  have:maxLen<=9223372036854775807:=by decide
  show N<=_;omega
 rw [hN] at z11;clear hN;go_wp2_with fail
 go_loopw [4,48] (λ sv iv wr=>∃i:Nat,i<=N/\sv=.string (sgA i)/\iv=.int .i64 (i:Int)/\Hid (MS w0 wr b n (T++List.replicate (2*n) 32) (mvW0 m.s++tgW (m.targets.take i)))/\Hid (Wk w0.heap.size b w wr)) (λ _ iv _=>N-(intOf iv).toNat)
 case atStart=>exact ⟨0,Nat.zero_le _,rfl,rfl,by show MS _ _ _ _ _ (_++[]);rw [List.append_nil];exact HM4.out,HK4⟩
 case round =>
  obtain ⟨i,hi,rfl,rfl,HMI,HKI⟩:=hrel
  by_cases him:i<N
  ·have him':(i:Int)<N:=by omega
   have HIM:=h_ him
   obtain ⟨t,ht⟩:∃t,m.targets[i]?=some t:=⟨_,List.getElem?_eq_getElem (by rw [HN2.out];exact him)⟩
   obtain ⟨g,o,hA,hgl,hc⟩:=HST.out.2.2 i ⟨t.toArray⟩ (by rw [List.getElem?_map,ht];rfl);subst hA
   obtain ⟨Z,hZ⟩:∃Z:ByteArray,(⟨t.toArray⟩:ByteArray)=Z:=⟨_,rfl⟩
   rw [hZ] at hc
   have u1:wr.cell? ⟨g,o+i,none⟩=some (.string Z):=by rw [World.cell?_of_block (HMI.out.bl.block g hgl)];exact hc
   have HZS:Hid (Z.size<=1000000):=by show Z.size<=_;rw [<-hZ];exact nm_arr (HTN.out t (List.mem_of_getElem? ht))
   have HNX:Hid (mvW0 m.s++tgW (m.targets.take (i+1))=mvW0 m.s++tgW (m.targets.take i)++wds [sgA i,Z]):=by
    show _=_;rw [List.take_add_one,ht];show _++tgW (m.targets.take i++[t])=_;rw [tgW_snoc,List.length_take,Nat.min_eq_left (by rw [HN2.out];omega),<-hZ,a_];simp only [wds,List.map_cons,List.map_nil]
   obtain ⟨W2,hW2⟩:∃W,W=wr.alloc (.cells #[.string (sgA i),.string Z] 9):=⟨_,rfl⟩
   obtain ⟨g2,hg2⟩:∃g,g=wr.heap.size:=⟨_,rfl⟩
   have hal:Below wr.heap.size wr W2:=by rw [hW2];exact (b_ _ wr).alloc (n_ _) _
   have HC:=h_ (ms_put [sgA i,Z] (m:=2) (g:=g2) (HMI.out.below hal) (by rw [hW2,hg2];exact CB.new wr _ [.string (sgA i),.string Z]) rfl (by have:=HMI.out.lt;omega) (by
    intro s hs;simp only [List.mem_cons,List.not_mem_nil,or_false] at hs;rcases hs with rfl|rfl
    ·exact sgA_size i
    ·exact HZS.out) (by decide))
   have HK5:Hid (Wk w0.heap.size b w W2):=HKI.out.trans (Wk.of HMI.out.bl.size hal);clear hal ht hgl hc hZ HMI HKI;go_wp2_with fail;rw [<-hW2,<-hg2];clear hW2 hg2 u1;refine HC.out.mono ?_;rintro e' w3 ⟨rfl,h1,h2⟩
   have HM5:Hid (MS w0 w3 b n (T++List.replicate (2*n) 32) (mvW0 m.s++tgW (m.targets.take (i+1)))):=by
    show MS _ _ _ _ _ _;rw [HNX.out];exact h1
   have HK6:=h_ (HK5.out.trans h2);clear h1 h2 HC HK5;go_wp2_with fail
   go_roundw
   case rel=>exact ⟨i+1,by have:=HIM.out;omega,rfl,by have h1:=HIM.out;have h2:=HMX.out;rw [Go.IntWalk.wrap64_in _ ⟨by omega,by omega⟩];rfl,HM5,HK6⟩
   case measure=>have h1:=HIM.out;have h2:=HMX.out;rw [Go.IntWalk.wrap64_in _ ⟨by omega,by omega⟩];simp [intOf];omega
  ·have him':¬(i:Int)<N:=by omega
   have HM5:Hid (∃D:ByteArray,WS w0 wr b ((T++List.replicate (2*n) 32)++ptT [] (mvW0 m.s++tgW m.targets)) n D/\D.data.toList=ptL [] (mvW0 m.s++tgW m.targets)):=by
    have:=HMI.out;rw [List.take_of_length_le (by rw [HN2.out];omega)] at this;exact this
   obtain ⟨D,hD1,hD2⟩:=HM5.out
   obtain ⟨W2,hW2⟩:∃W,W=wr.alloc (.cells #[.string ⟨#[59]⟩] 9):=⟨_,rfl⟩
   obtain ⟨g2,hg2⟩:∃g,g=wr.heap.size:=⟨_,rfl⟩
   have hal:Below wr.heap.size wr W2:=by rw [hW2];exact (b_ _ wr).alloc (n_ _) _
   have HC:=h_ (pend_any w0 W2 b n g2 1 _ D [⟨#[59]⟩] (hD1.below hal) (by rw [hW2,hg2];exact CB.new wr _ [.string ⟨#[59]⟩]) rfl (by have:=hD1.lt;omega) (by intro s hs;simp at hs;subst hs;decide) (by decide));have HK5:Hid (Wk w0.heap.size b w W2):=HKI.out.trans (Wk.of hD1.bl.size hal);have HD2:=h_ hD2;clear hal hD1 hD2 HM5 HMI HKI hi him;go_wp2_with fail;rw [<-hW2,<-hg2];clear hW2 hg2;refine HC.out.mono ?_;rintro e' w3 ⟨rfl,h1,h2⟩;have HW3:=h_ h1;have HK6:=h_ (HK5.out.trans h2);clear h1 h2 HC HK5;go_wp2_with fail;go_end0;refine ⟨rfl,?_,HK6.out⟩;have h:=HW3.out;rw [HD2.out] at h;rw [<-HFN.out,mvW_parts,ptT_app]
   have e1:∀(P Q R:List UInt8),P++Q++(R++[10])=P++(Q++R)++[10]:=λ P Q R=>by simp only [a_]
   rw [e1] at h;exact h
theorem okNs_get {d:Nat} {l:List GN} (h:okNs d l=true) {i:Nat} {x:GN} (hx:l[i]?=some x):okN d x=true:=okNs_iff.1 h x (List.mem_of_getElem? hx)
theorem mvsT_app (n:Nat):∀(l l':List SyMove),mvsT n (l++l')=mvsT n l++mvsT n l'
 |[],l'=>rfl
 |x::l,l'=>by rw [List.cons_append,mvsT,mvsT,mvsT_app n l l',a_]
theorem nodesT_app (n:Nat):∀(l l':List SyNode),nodesT n (l++l')=nodesT n l++nodesT n l'
 |[],l'=>by rw [List.nil_append,nodesT,List.nil_append]
 |x::l,l'=>by rw [List.cons_append,nodesT,nodesT,nodesT_app n l l',a_]
theorem nodesT_nil (n:Nat):nodesT n []=[]:=by rw [nodesT]
theorem nodesT_one (n:Nat) (x:SyNode):nodesT n [x]=nodeT n x:=by rw [nodesT,nodesT,List.append_nil]
def PN (w0:World) (b d:Nat) (x:GN):Prop:=∀(w:World) (n:Nat) (T:List UInt8) (xs:List Value),WS w0 w b T n ⟨#[]⟩->DxsAt w0 (gNode x) xs->n+d<=50->okN d x=true->x.rng ->
 Calls Tryz.prog 146 #[.pointer (some ⟨b,0,none⟩),.agg xs.toArray] w λ e w'=>e=.returned (.tuple #[])/\WS w0 w' b (T++nodeT n x.s) n ⟨#[]⟩/\Wk w0.heap.size b w w'
theorem pbody_any (w0 w:World) (b n d:Nat) (T:List UInt8) (k p:Int) (nm ini dft:List UInt8) (en le:List GA) (mo:List GM) (ks:List GN) (xs:List Value) (hE:Ee w0) (h:WS w0 w b T n ⟨#[]⟩) (hx:DxsAt w0 (gNode (.mk k nm ini dft en le mo ks p)) xs) (hn:n+d<=50)
  (o1:(ini.isEmpty || isNm ini)=true) (o2:en.all okA=true) (o3:le.all okA=true) (o4:mo.all okM=true) (o5:okNs d ks=true) (hr:(GN.mk k nm ini dft en le mo ks p).rng) (ih:∀(i:Nat) (a:GN),ks[i]?=some a->PN w0 b d a) :
  Calls Tryz.prog 86 #[.pointer (some ⟨b,0,none⟩),.agg xs.toArray] w λ e w'=>e=.returned (.tuple #[])/\WS w0 w' b (T++(iniT n ini++(clT n wEnter (en.map GA.s)++(clT n wLeave (le.map GA.s)++(mvsT n (mo.map GM.s)++nodesT n (ks.map GN.s)))))) n ⟨#[]⟩/\Wk w0.heap.size b w w':=by
 obtain ⟨A1,A2,A3,A4,Ac1,Ac2,Ac3,Ac4,rfl,a1,a2,a3,a4⟩:=node_v hx;rw [GN.rng] at hr;obtain ⟨_,_,_,r1,r2,r3,r4⟩:=hr;obtain ⟨N0,hN0⟩:=str_of nm;obtain ⟨I0,hI0⟩:=str_of ini;obtain ⟨D0,hD0⟩:=str_of dft
 have HIN:Hid (I0.data.toList=ini):=by
  have:I0=⟨ini.toArray⟩:=by injection hI0 with hI0;exact hI0.symm
  show _=_;rw [this]
 rw [hN0,hI0,hD0]
 obtain ⟨W1,hW1⟩:∃W,W=w.alloc (.cells #[.int .i64 k,.string N0,.string I0,.string D0,.slice A1 en.length Ac1,.slice A2 le.length Ac2,.slice A3 mo.length Ac3,.slice A4 ks.length Ac4,.int .i64 p] 27):=⟨_,rfl⟩
 obtain ⟨g1,hg1⟩:∃g,g=w.heap.size:=⟨_,rfl⟩
 have hal:Below w.heap.size w W1:=by rw [hW1];exact (b_ _ w).alloc (n_ _) _
 have HB1:Hid (CB W1 g1 27 [.int .i64 k,.string N0,.string I0,.string D0,.slice A1 en.length Ac1,.slice A2 le.length Ac2,.slice A3 mo.length Ac3,.slice A4 ks.length Ac4,.int .i64 p]):=by rw [hW1,hg1];exact CB.new w _ [.int .i64 k,.string N0,.string I0,.string D0,.slice A1 en.length Ac1,.slice A2 le.length Ac2,.slice A3 mo.length Ac3,.slice A4 ks.length Ac4,.int .i64 p]
 have HW1:=h_ (h.below hal);have HK1:Hid (Wk w0.heap.size b w W1):=Wk.of h.bl.size hal
 have HGB:Hid (g1≠b):=by have:=h.lt;rw [hg1];exact λ e=>by omega
 have HC1:=h_ (λ (W:World) (T':List UInt8) (hw:WS w0 W b T' n ⟨#[]⟩)=>pclause_any w0 W b n T' ⟨#[101,110,116,101,114]⟩ en A1 Ac1 hE hw a1 o2 r1 (by decide) (by decide) (by omega));have HC2:=h_ (λ (W:World) (T':List UInt8) (hw:WS w0 W b T' n ⟨#[]⟩)=>pclause_any w0 W b n T' ⟨#[108,101,97,118,101]⟩ le A2 Ac2 hE hw a2 o3 r2 (by decide) (by decide) (by omega));have HMV:=h_ (λ (m:GM) (hm:m∈mo) (W:World) (T':List UInt8) (ys:List Value) (hw:WS w0 W b T' n ⟨#[]⟩) (hy:DxsAt w0 (gMove m) ys)=>pmove_any w0 W b n T' m ys hE hw hy (List.all_eq_true.1 o4 m hm) (r3 m hm) (by omega));have HND:=h_ (λ (i:Nat) (a:GN) (ha:ks[i]?=some a) (W:World) (T':List UInt8) (ys:List Value) (hw:WS w0 W b T' n ⟨#[]⟩) (hy:DxsAt w0 (gNode a) ys)=>ih i a ha W n T' ys hw hy hn (okNs_get o5 ha) (GN.rngs_iff.1 r4 a (List.mem_of_getElem? ha)));have HMO:=h_ (show DxAt w0 (.row 57 13 mo.length (mo.flatMap gMove)) (.slice A3 mo.length Ac3) from a3)
 have HKS:Hid (DxAt w0 (.row 27 9 ks.length (ks.flatMap gNode)) (.slice A4 ks.length Ac4)):=by
  show DxAt _ _ _;have:=a4;unfold gKids at this;rw [gNodes_flat] at this;exact this
 have HMX:Hid (mo.length<=9223372036854775807/\ks.length<=9223372036854775807):=by
  obtain ⟨_,_,e1,f1,f2⟩:=HMO.out.slice;obtain ⟨_,_,e2,f3,f4⟩:=HKS.out.slice
  have:maxLen<=9223372036854775807:=by decide
  exact ⟨by omega,by omega⟩
 have HO1:=h_ o1;have HNN:=h_ hn;have z2:=HB1.out.c 2 rfl
 obtain ⟨d0,hd0⟩:∃d0,I0.toList.isEmpty=d0:=⟨_,rfl⟩
 clear h hal hx hn o1 o2 o3 o4 o5 r1 r2 r3 r4 ih a1 a2 a3 a4 hN0 hI0 hD0;go_enter Tryz.func86,Tryz.ntmps86;go_upto_region 1 with fail;rw [<-hW1,<-hg1];clear hW1 hg1;go_upto_if 10 with fail;have HD0:=h_ hd0
 go_cut [] (λ wr=>Hid (WS w0 wr b (T++iniT n ini) n ⟨#[]⟩)/\Hid (CB wr g1 27 [.int .i64 k,.string N0,.string I0,.string D0,.slice A1 en.length Ac1,.slice A2 le.length Ac2,.slice A3 mo.length Ac3,.slice A4 ks.length Ac4,.int .i64 p])/\Hid (Wk w0.heap.size b w wr))
 case first =>
  cases d0
  ·have hne:ini≠[]:=by
    intro e;have:=HD0.out;rw [Lib.toList_data,HIN.out,e] at this;cases this
   have hnm:isNm ini=true:=by
    have:=HO1.out;rw [Bool.or_eq_true] at this;rcases this with h|h
    ·exact absurd (List.isEmpty_iff.1 h) hne
    ·exact h
   obtain ⟨W2,hW2⟩:∃W,W=W1.alloc (.cells #[.string ⟨#[105,110,105,116,105,97,108]⟩,.string I0,.string ⟨#[59]⟩] 9):=⟨_,rfl⟩
   obtain ⟨g2,hg2⟩:∃g,g=W1.heap.size:=⟨_,rfl⟩
   have hal:Below W1.heap.size W1 W2:=by rw [hW2];exact (b_ _ W1).alloc (n_ _) _
   have HC:=h_ (pline_any w0 W2 b n g2 3 T [⟨#[105,110,105,116,105,97,108]⟩,I0,⟨#[59]⟩] (HW1.out.below hal) (by rw [hW2,hg2];exact CB.new W1 _ [.string ⟨#[105,110,105,116,105,97,108]⟩,.string I0,.string ⟨#[59]⟩]) rfl (by have:=HW1.out.lt;omega) (by
    intro s hs;simp only [List.mem_cons,List.not_mem_nil,or_false] at hs;rcases hs with rfl|hs|rfl
    ·decide
    ·rw [hs]
     have:I0.data.toList.length<=24:=by rw [HIN.out];exact nm_size hnm
     have h2:I0.data.toList.length=I0.size:=rfl;omega
    ·decide) (by decide) (by have:=HNN.out;omega))
   have HTX:Hid (ind n (ptT [] (wds [⟨#[105,110,105,116,105,97,108]⟩,I0,⟨#[59]⟩]))=iniT n ini):=by
    show _=_;unfold iniT;rw [if_neg hne,<-pt_ini (pw_name hnm)];simp only [wds,List.map_cons,List.map_nil,HIN.out];rfl
   rw [HTX.out] at HC;have HB2:=h_ (HB1.out.below hal);have HK2:Hid (Wk w0.heap.size b w W2):=HK1.out.trans (Wk.of HW1.out.bl.size hal);clear hal hne hnm HB1 HK1 HW1;go_wp2_with fail;rw [<-hW2,<-hg2];clear hW2 hg2 z2;refine HC.out.mono ?_;rintro e w3 ⟨rfl,h1,h2⟩;have HW3:=h_ h1;have HB3:=h_ (HB2.out.wk h2 HGB.out (by decide));have HK3:=h_ (HK2.out.trans h2);clear h1 h2 HC HB2 HK2;go_wp2_with fail
   go_meet
   exact ⟨HW3,HB3,HK3⟩
  ·have HW3:Hid (WS w0 W1 b (T++iniT n ini) n ⟨#[]⟩):=by
    have h:=HD0.out;rw [Lib.toList_data,HIN.out] at h;show WS _ _ _ _ _ _;unfold iniT;rw [if_pos (List.isEmpty_iff.1 h),List.append_nil];exact HW1.out
   go_wp2_with fail
   go_meet
   exact ⟨HW3,HB1,HK1⟩
 case rest =>
 obtain ⟨HW2,HB2,HK2⟩:=hcut;clear z2 HB1 HK1 HW1 hd0 HD0;have z4:=HB2.out.c 4 rfl;go_wp2_with fail;refine (HC1.out wc _ HW2.out).mono ?_;rintro e w3 ⟨rfl,h1,h2⟩;have HW3:Hid (WS w0 w3 b (T++iniT n ini++clT n wEnter (en.map GA.s)) n ⟨#[]⟩):=h1;have HB3:=h_ (HB2.out.wk h2 HGB.out (by decide));have HK3:=h_ (HK2.out.trans h2);clear h1 h2 HC1 HB2 HK2 HW2 z4;have z5:=HB3.out.c 5 rfl;go_wp2_with fail;refine (HC2.out w3 _ HW3.out).mono ?_;rintro e w4 ⟨rfl,h1,h2⟩;have HW4:Hid (WS w0 w4 b (T++iniT n ini++clT n wEnter (en.map GA.s)++clT n wLeave (le.map GA.s)) n ⟨#[]⟩):=h1;have HB4:=h_ (HB3.out.wk h2 HGB.out (by decide));have HK4:=h_ (HK3.out.trans h2);clear h1 h2 HC2 HB3 HK3 HW3 z5
 obtain ⟨T1,hT1⟩:∃T1,T++iniT n ini++clT n wEnter (en.map GA.s)++clT n wLeave (le.map GA.s)=T1:=⟨_,rfl⟩
 rw [hT1] at HW4;have HT1:=h_ hT1;clear hT1;have z6:=HB4.out.c 6 rfl
 obtain ⟨NM,hNM⟩:∃N,mo.length=N:=⟨_,rfl⟩
 have HNM:=h_ hNM
 obtain ⟨NK,hNK⟩:∃N,ks.length=N:=⟨_,rfl⟩
 have HNK:=h_ hNK;rw [hNM] at z6 HB4;rw [hNK] at HB4;clear hNM hNK;go_wp2_with fail;clear z6
 go_loopw [27] (λ iv wr=>∃i:Nat,i<=NM/\iv=.int .i64 (i:Int)/\Hid (WS w0 wr b (T1++mvsT n ((mo.take i).map GM.s)) n ⟨#[]⟩)/\Hid (CB wr g1 27 [.int .i64 k,.string N0,.string I0,.string D0,.slice A1 en.length Ac1,.slice A2 le.length Ac2,.slice A3 NM Ac3,.slice A4 NK Ac4,.int .i64 p])/\Hid (Wk w0.heap.size b w wr)) (λ iv _=>NM-(intOf iv).toNat)
 case atStart=>exact ⟨0,Nat.zero_le _,rfl,by show WS _ _ _ (_++[]) _ _;rw [List.append_nil];exact HW4.out,HB4,HK4⟩
 case round =>
  obtain ⟨i,hi,rfl,HWI,HBI,HKI⟩:=hrel
  by_cases him:i<NM
  ·have him':(i:Int)<NM:=by omega
   have HIM:=h_ him
   obtain ⟨m,hm⟩:∃m,mo[i]?=some m:=⟨_,List.getElem?_eq_getElem (by rw [HNM.out];exact him)⟩
   obtain ⟨g,og,c,ys,hv,_,_,hg,hy,_,hyc⟩:=DxAt.elem (f:=gMove) (k:=13) gMove_len (by decide) HMO.out hm
   obtain rfl:A3=some ⟨g,og,none⟩:=by injection hv
   have HCM:=λ (W:World) (T':List UInt8) (hw:WS w0 W b T' n ⟨#[]⟩)=>HMV.out m (List.mem_of_getElem? hm) W T' ys hw hy;obtain ⟨ev,E1,E2,e1,e2,rfl,_⟩:=move_vals' hy;obtain ⟨X,hX⟩:=str_of m.event;rw [hX] at HCM hyc
   have kb:∀{p:Addr} {u:Value},w0.cell? p=some u->wr.cell? p=some u:=λ hc=>by rw [World.cell?_of_block (HWI.out.bl.block _ (World.block_lt_of_cell? w0 _ hc))];exact hc
   have u0:wr.cell? ⟨g,og+i*13,none⟩=_:=kb (hyc 0 _ rfl);have u1:=kb (hyc 1 _ rfl);have u2:=kb (hyc 2 _ rfl);have u3:=kb (hyc 3 _ rfl);have u4:=kb (hyc 4 _ rfl);have u5:=kb (hyc 5 _ rfl);have u6:=kb (hyc 6 _ rfl);have u7:=kb (hyc 7 _ rfl);have u8:=kb (hyc 8 _ rfl);have u9:=kb (hyc 9 _ rfl);have u10:=kb (hyc 10 _ rfl);have u11:=kb (hyc 11 _ rfl);have u12:=kb (hyc 12 _ rfl)
   obtain ⟨W5,hW5⟩:∃W,W=wr.alloc (.cells #[.int .i64 m.kind,.string X,.int .i64 m.wait,.bool m.guarded,.int .i64 ev.kind,.int .i64 ev.num,.string ev.name,.int .i64 ev.op,.slice ev.A ev.len ev.cap,.int .i64 ev.p,.slice E1 m.acts.length e1,.slice E2 m.targets.length e2,.int .i64 m.at_] 57):=⟨_,rfl⟩
   obtain ⟨g5,hg5⟩:∃g,g=wr.heap.size:=⟨_,rfl⟩
   have hal5:Below wr.heap.size wr W5:=by rw [hW5];exact (b_ _ wr).alloc (n_ _) _
   have HB5:Hid (CB W5 g5 57 [.int .i64 m.kind,.string X,.int .i64 m.wait,.bool m.guarded,.int .i64 ev.kind,.int .i64 ev.num,.string ev.name,.int .i64 ev.op,.slice ev.A ev.len ev.cap,.int .i64 ev.p,.slice E1 m.acts.length e1,.slice E2 m.targets.length e2,.int .i64 m.at_]):=by rw [hW5,hg5];exact CB.new wr _ [.int .i64 m.kind,.string X,.int .i64 m.wait,.bool m.guarded,.int .i64 ev.kind,.int .i64 ev.num,.string ev.name,.int .i64 ev.op,.slice ev.A ev.len ev.cap,.int .i64 ev.p,.slice E1 m.acts.length e1,.slice E2 m.targets.length e2,.int .i64 m.at_]
   have HBN:=h_ (HBI.out.below hal5);have HKN:Hid (Wk w0.heap.size b w W5):=HKI.out.trans (Wk.of HWI.out.bl.size hal5);have HCC:=h_ (HCM W5 _ (HWI.out.below hal5))
   have HNX:Hid (T1++mvsT n ((mo.take i).map GM.s)++ind n (moveT m.s)=T1++mvsT n ((mo.take (i+1)).map GM.s)):=by
    show _=_;rw [List.take_add_one,hm,List.map_append,mvsT_app,<-a_];show _=_++(ind n (moveT m.s)++[]);rw [List.append_nil]
   rw [HNX.out] at HCC;clear hm hv hg hy hyc kb hal5 HCM hX HWI HBI HKI;go_upto_region 8 with fail;rw [<-hW5,<-hg5];clear hW5 hg5 u0 u1 u2 u3 u4 u5 u6 u7 u8 u9 u10 u11 u12;have z0:=HB5.out.c 0 rfl;have z1:=HB5.out.c 1 rfl;have z2:=HB5.out.c 2 rfl;have z3:=HB5.out.c 3 rfl;have z4:=HB5.out.c 4 rfl;have z5:=HB5.out.c 5 rfl;have z6:=HB5.out.c 6 rfl;have z7:=HB5.out.c 7 rfl;have z8:=HB5.out.c 8 rfl;have z9:=HB5.out.c 9 rfl;have z10:=HB5.out.c 10 rfl;have z11:=HB5.out.c 11 rfl;have z12:=HB5.out.c 12 rfl;go_wp2_with fail;refine HCC.out.mono ?_;rintro e w6 ⟨rfl,h1,h2⟩;have HW6:=h_ h1;have HB6:=h_ (HBN.out.wk h2 HGB.out (by decide));have HK6:=h_ (HKN.out.trans h2);clear h1 h2 HCC HBN HKN HB5 z0 z1 z2 z3 z4 z5 z6 z7 z8 z9 z10 z11 z12;go_wp2_with fail
   go_roundw
   case rel=>exact ⟨i+1,by have:=HIM.out;omega,by have h1:=HIM.out;have h2:=HMX.out.1;rw [HNM.out] at h2;rw [Go.IntWalk.wrap64_in _ ⟨by omega,by omega⟩];rfl,HW6,HB6,HK6⟩
   case measure=>have h1:=HIM.out;have h2:=HMX.out.1;rw [HNM.out] at h2;rw [Go.IntWalk.wrap64_in _ ⟨by omega,by omega⟩];simp [intOf];omega
  have him':¬(i:Int)<NM:=by omega
  have HWJ:Hid (WS w0 wr b (T1++mvsT n (mo.map GM.s)) n ⟨#[]⟩):=by
   have:=HWI.out;rw [List.take_of_length_le (by rw [HNM.out];omega)] at this;exact this
  have z7:=HBI.out.c 7 rfl;clear hi him HWI HW4 HB4 HK4;go_wp2_with fail;clear z7
  go_loopw [38] (λ iv wr=>∃i:Nat,i<=NK/\iv=.int .i64 (i:Int)/\Hid (WS w0 wr b (T1++mvsT n (mo.map GM.s)++nodesT n ((ks.take i).map GN.s)) n ⟨#[]⟩)/\Hid (Wk w0.heap.size b w wr)) (λ iv _=>NK-(intOf iv).toNat)
  case atStart=>exact ⟨0,Nat.zero_le _,rfl,by show WS _ _ _ (_++nodesT n []) _ _;rw [nodesT_nil,List.append_nil];exact HWJ.out,HKI⟩
  case round =>
   obtain ⟨i,hi,rfl,HWI,HKI⟩:=hrel
   by_cases him:i<NK
   ·have him':(i:Int)<NK:=by omega
    have HIM:=h_ him
    obtain ⟨a,ha⟩:∃a,ks[i]?=some a:=⟨_,List.getElem?_eq_getElem (by rw [HNK.out];exact him)⟩
    obtain ⟨g,og,c,ys,hv,_,_,hg,hy,_,hyc⟩:=DxAt.elem (f:=gNode) (k:=9) gNode_len (by decide) HKS.out ha
    obtain rfl:A4=some ⟨g,og,none⟩:=by injection hv
    have HCM:=λ (W:World) (T':List UInt8) (hw:WS w0 W b T' n ⟨#[]⟩)=>HND.out i a ha W T' ys hw hy
    obtain ⟨aS,haS⟩:∃x,a.s=x:=⟨_,rfl⟩
    rw [haS] at HCM
    have HAS:Hid (GN.s <$> ks[i]?=some aS):=by show _=_;rw [ha,<-haS];rfl
    clear haS;obtain ⟨ka,na,ia,da,ea,la,ma,sa,pa⟩:=a;obtain ⟨E1,E2,E3,E4,e1,e2,e3,e4,rfl,_⟩:=node_v hy;obtain ⟨P1,hP1⟩:=str_of na;obtain ⟨P2,hP2⟩:=str_of ia;obtain ⟨P3,hP3⟩:=str_of da;rw [hP1,hP2,hP3] at HCM hyc
    have kb:∀{p:Addr} {u:Value},w0.cell? p=some u->wr.cell? p=some u:=λ hc=>by rw [World.cell?_of_block (HWI.out.bl.block _ (World.block_lt_of_cell? w0 _ hc))];exact hc
    have u0:wr.cell? ⟨g,og+i*9,none⟩=_:=kb (hyc 0 _ rfl);have u1:=kb (hyc 1 _ rfl);have u2:=kb (hyc 2 _ rfl);have u3:=kb (hyc 3 _ rfl);have u4:=kb (hyc 4 _ rfl);have u5:=kb (hyc 5 _ rfl);have u6:=kb (hyc 6 _ rfl);have u7:=kb (hyc 7 _ rfl);have u8:=kb (hyc 8 _ rfl)
    obtain ⟨W5,hW5⟩:∃W,W=wr.alloc (.cells #[.int .i64 ka,.string P1,.string P2,.string P3,.slice E1 ea.length e1,.slice E2 la.length e2,.slice E3 ma.length e3,.slice E4 sa.length e4,.int .i64 pa] 27):=⟨_,rfl⟩
    obtain ⟨g5,hg5⟩:∃g,g=wr.heap.size:=⟨_,rfl⟩
    have hal5:Below wr.heap.size wr W5:=by rw [hW5];exact (b_ _ wr).alloc (n_ _) _
    have HB5:Hid (CB W5 g5 27 [.int .i64 ka,.string P1,.string P2,.string P3,.slice E1 ea.length e1,.slice E2 la.length e2,.slice E3 ma.length e3,.slice E4 sa.length e4,.int .i64 pa]):=by rw [hW5,hg5];exact CB.new wr _ [.int .i64 ka,.string P1,.string P2,.string P3,.slice E1 ea.length e1,.slice E2 la.length e2,.slice E3 ma.length e3,.slice E4 sa.length e4,.int .i64 pa]
    have HKN:Hid (Wk w0.heap.size b w W5):=HKI.out.trans (Wk.of HWI.out.bl.size hal5);have HCC:=h_ (HCM W5 _ (HWI.out.below hal5))
    have HNX:Hid (T1++mvsT n (mo.map GM.s)++nodesT n ((ks.take i).map GN.s)++nodeT n aS=T1++mvsT n (mo.map GM.s)++nodesT n ((ks.take (i+1)).map GN.s)):=by
     show _=_
     have e1:(ks.take (i+1)).map GN.s=(ks.take i).map GN.s++[aS]:=by
      have h:=HAS.out;rw [ha] at h;have h':GN.s (.mk ka na ia da ea la ma sa pa)=aS:=Option.some.inj h;rw [List.take_add_one,ha,List.map_append,<-h'];rfl
     rw [e1,nodesT_app,nodesT_one,<-a_]
    rw [HNX.out] at HCC;clear ha hv hg hy hyc kb hal5 HCM hP1 hP2 hP3 HWI HKI HAS;go_upto_region 13 with fail;rw [<-hW5,<-hg5];clear hW5 hg5 u0 u1 u2 u3 u4 u5 u6 u7 u8;have z0:=HB5.out.c 0 rfl;have z1:=HB5.out.c 1 rfl;have z2:=HB5.out.c 2 rfl;have z3:=HB5.out.c 3 rfl;have z4:=HB5.out.c 4 rfl;have z5:=HB5.out.c 5 rfl;have z6:=HB5.out.c 6 rfl;have z7:=HB5.out.c 7 rfl;have z8:=HB5.out.c 8 rfl;go_wp2_with fail;refine HCC.out.mono ?_;rintro e w6 ⟨rfl,h1,h2⟩;have HW6:=h_ h1;have HK6:=h_ (HKN.out.trans h2);clear h1 h2 HCC HKN HB5 z0 z1 z2 z3 z4 z5 z6 z7 z8;go_wp2_with fail
    go_roundw
    case rel=>exact ⟨i+1,by have:=HIM.out;omega,by have h1:=HIM.out;have h2:=HMX.out.2;rw [HNK.out] at h2;rw [Go.IntWalk.wrap64_in _ ⟨by omega,by omega⟩];rfl,HW6,HK6⟩
    case measure=>have h1:=HIM.out;have h2:=HMX.out.2;rw [HNK.out] at h2;rw [Go.IntWalk.wrap64_in _ ⟨by omega,by omega⟩];simp [intOf];omega
   ·have him':¬(i:Int)<NK:=by omega
    have HWF:Hid (WS w0 wr b (T1++mvsT n (mo.map GM.s)++nodesT n (ks.map GN.s)) n ⟨#[]⟩):=by
     have:=HWI.out;rw [List.take_of_length_le (by rw [HNK.out];omega)] at this;exact this
    clear hi him HWI;go_wp2_with fail;go_end0;refine ⟨rfl,?_,HKI.out⟩;have:=HWF.out;rw [<-HT1.out] at this;simp only [a_] at this ⊢;exact this
def pvT (n:Nat):List SyVar->List UInt8
 |[]=>[]
 |v::l=>ind n (pvarT v)++pvT n l
theorem pvT_one:∀l:List SyVar,pvT 1 l=pvarsT l
 |[]=>rfl
 |v::l=>by rw [pvT,pvarsT,pvT_one l]
theorem pvT_snoc (n:Nat):∀(l:List SyVar) (v:SyVar),pvT n (l++[v])=pvT n l++ind n (pvarT v)
 |[],v=>by show ind n (pvarT v)++[]=[]++ind n (pvarT v);simp
 |x::l,v=>by rw [List.cons_append,pvT,pvT,pvT_snoc n l v,a_]
theorem pstate_any (w0 w:World) (b n:Nat) (T BT:List UInt8) (S:ByteArray) (k p:Int) (N0 I0 D0:ByteArray) (A1 A2 A3 A4 A0:Option Addr) (n1 n2 n3 n4 c1 c2 c3 c4 c0:Nat) (vl:List SyVar) (hE:Ee w0) (h:WS w0 w b T n ⟨#[]⟩) (hn:n<=50)
  (hv:DxAt w0 (dvVars vl) (.slice A0 vl.length c0)) (hvo:∀v∈vl,isNm v.name=true) (hvr:∀v∈vl,v.rng) (hS:kwOk S.data.toList=true) (hsz:S.size<=1000000) (hN:isNm N0.data.toList=true)
  (hb:∀(W:World) (T':List UInt8),WS w0 W b T' (n+1) ⟨#[]⟩->Calls Tryz.prog 86 #[.pointer (some ⟨b,0,none⟩),.agg #[.int .i64 k,.string N0,.string I0,.string D0,.slice A1 n1 c1,.slice A2 n2 c2,.slice A3 n3 c3,.slice A4 n4 c4,.int .i64 p]] W λ e w'=>e=.returned (.tuple #[])/\WS w0 w' b (T'++BT) (n+1) ⟨#[]⟩/\Wk w0.heap.size b W w') :
  Calls Tryz.prog 43 #[.pointer (some ⟨b,0,none⟩),.string S,.agg #[.int .i64 k,.string N0,.string I0,.string D0,.slice A1 n1 c1,.slice A2 n2 c2,.slice A3 n3 c3,.slice A4 n4 c4,.int .i64 p],.slice A0 vl.length c0] w λ e w'=>e=.returned (.tuple #[])/\WS w0 w' b (T++(ind n (S.data.toList++32::(N0.data.toList++32::[123]))++(pvT (n+1) vl++(BT++ind n [125])))) n ⟨#[]⟩/\Wk w0.heap.size b w w':=by
 obtain ⟨N1,hN1⟩:∃N1,n+1=N1:=⟨_,rfl⟩
 rw [hN1] at hb ⊢
 have hc1:(n:Int)+1=(N1:Int):=by omega
 have hc2:(N1:Int)-1=(n:Int):=by omega
 have HNS:=h_ hN1;clear hN1
 obtain ⟨W1,hW1⟩:∃W,W=w.alloc (.cells #[.int .i64 k,.string N0,.string I0,.string D0,.slice A1 n1 c1,.slice A2 n2 c2,.slice A3 n3 c3,.slice A4 n4 c4,.int .i64 p] 27):=⟨_,rfl⟩
 obtain ⟨g1,hg1⟩:∃g,g=w.heap.size:=⟨_,rfl⟩
 have hal:Below w.heap.size w W1:=by rw [hW1];exact (b_ _ w).alloc (n_ _) _
 have HB1:Hid (CB W1 g1 27 [.int .i64 k,.string N0,.string I0,.string D0,.slice A1 n1 c1,.slice A2 n2 c2,.slice A3 n3 c3,.slice A4 n4 c4,.int .i64 p]):=by rw [hW1,hg1];exact CB.new w _ [.int .i64 k,.string N0,.string I0,.string D0,.slice A1 n1 c1,.slice A2 n2 c2,.slice A3 n3 c3,.slice A4 n4 c4,.int .i64 p]
 have HGB:Hid (g1≠b):=by have:=h.lt;rw [hg1];exact λ e=>by omega
 obtain ⟨W2,hW2⟩:∃W,W=W1.alloc (.cells #[.string S,.string N0,.string ⟨#[123]⟩] 9):=⟨_,rfl⟩
 obtain ⟨g2,hg2⟩:∃g,g=W1.heap.size:=⟨_,rfl⟩
 have hal2:Below W1.heap.size W1 W2:=by rw [hW2];exact (b_ _ W1).alloc (n_ _) _
 have hnm:N0.data.toList.length<=24:=nm_size hN
 have HC:=h_ (pline_any w0 W2 b n g2 3 T [S,N0,⟨#[123]⟩] ((h.below hal).below hal2) (by rw [hW2,hg2];exact CB.new W1 _ [.string S,.string N0,.string ⟨#[123]⟩]) rfl (by have:=(h.below hal).lt;omega) (by
  intro s hs;simp only [List.mem_cons,List.not_mem_nil,or_false] at hs;rcases hs with hs|hs|hs
  ·rw [hs];exact hsz
  ·rw [hs];have h2:N0.data.toList.length=N0.size:=rfl;omega
  ·rw [hs];decide) (by decide) (by omega))
 have HTX:Hid (ind n (ptT [] (wds [S,N0,⟨#[123]⟩]))=ind n (S.data.toList++32::(N0.data.toList++32::[123]))):=by
  show _=_;rw [<-pt_head (pw_kw hS) (pw_name hN)];rfl
 rw [HTX.out] at HC;have HB2:=h_ (HB1.out.below hal2);have HK2:Hid (Wk w0.heap.size b w W2):=(Wk.of h.bl.size hal).trans (Wk.of (h.below hal).bl.size hal2);have HBD:=h_ hb;have HVX:=h_ (show DxAt w0 (.row 73 3 vl.length (vl.flatMap dvVar)) (.slice A0 vl.length c0) from hv);have HVO:=h_ hvo;have HNT:=h_ (λ (v:SyVar) (hm:v∈vl) (W:World) (hb:Below w0.heap.size w0 W)=>And.intro (text_any v.num W (hvr v hm).2.1 (hvr v hm).2.2 (hE.below hb).pw) (itoa_arr v.num (hvr v hm).2.1 (hvr v hm).2.2))
 have HMX:Hid (vl.length<=9223372036854775807):=by
  obtain ⟨_,_,e1,f1,f2⟩:=HVX.out.slice
  have:maxLen<=9223372036854775807:=by decide
  show _<=_;omega
 have HNN:=h_ hn;have z1:=HB1.out.c 1 rfl
 obtain ⟨NV,hNV⟩:∃N,vl.length=N:=⟨_,rfl⟩
 have HNV:=h_ hNV;rw [hNV];clear h hal hal2 hn hv hvo hvr hS hsz hN hb hnm HTX hNV hE;go_enter Tryz.func43,Tryz.ntmps43;go_upto_region 1 with fail;rw [<-hW1,<-hg1];clear hW1 hg1;go_wp2_with fail;rw [<-hW2,<-hg2];clear hW2 hg2 z1;refine HC.out.mono ?_;rintro e w3 ⟨rfl,h1,h2⟩;have HB3:=h_ (HB2.out.wk h2 HGB.out (by decide))
 obtain ⟨T1,hT1⟩:∃T1,T++ind n (S.data.toList++32::(N0.data.toList++32::[123]))=T1:=⟨_,rfl⟩
 rw [hT1] at h1;have HT1:=h_ hT1;have x2:=h1.c2;have f2:=h1.fr 2
 obtain ⟨W4,hW4⟩:∃W,W=w3.setCell ⟨b,2,none⟩ (.int .i64 (N1:Int)):=⟨_,rfl⟩
 have HW4:Hid (WS w0 W4 b T1 N1 ⟨#[]⟩):=by rw [hW4];exact h1.set2 N1
 have HK4:Hid (Wk w0.heap.size b w W4):=by rw [hW4];exact (HK2.out.trans h2).trans (Wk.set h1.ge 2 _)
 have HB4:Hid (CB W4 g1 27 [.int .i64 k,.string N0,.string I0,.string D0,.slice A1 n1 c1,.slice A2 n2 c2,.slice A3 n3 c3,.slice A4 n4 c4,.int .i64 p]):=by rw [hW4];exact HB3.out.other HGB.out 2 _
 clear h1 h2 HC HB2 HK2 HB3 hT1;go_upto_region 3 with fail
 try (rw [Go.IntWalk.wrap64_in _ (by have:=HNN.out;exact ⟨by omega,by omega⟩)])
 try rw [hc1]
 rw [<-hW4];clear hW4 x2 f2 hc1;go_wp2_with fail
 go_loopw [25] (λ iv wr=>∃i:Nat,i<=NV/\iv=.int .i64 (i:Int)/\Hid (CB wr g1 27 [.int .i64 k,.string N0,.string I0,.string D0,.slice A1 n1 c1,.slice A2 n2 c2,.slice A3 n3 c3,.slice A4 n4 c4,.int .i64 p]/\WS w0 wr b (T1++pvT N1 (vl.take i)) N1 ⟨#[]⟩/\Wk w0.heap.size b w wr)) (λ iv _=>NV-(intOf iv).toNat)
 case atStart=>exact ⟨0,Nat.zero_le _,rfl,HB4.out,by rw [List.take_zero];show WS _ _ _ (T1++[]) _ _;rw [List.append_nil];exact HW4.out,HK4.out⟩
 case round =>
  obtain ⟨i,hi,rfl,HI⟩:=hrel
  by_cases him:i<NV
  ·have him':(i:Int)<NV:=by omega
   have HIM:=h_ him
   obtain ⟨v,hm⟩:∃v,vl[i]?=some v:=⟨_,List.getElem?_eq_getElem (by rw [HNV.out];exact him)⟩
   have hmm:=List.mem_of_getElem? hm;obtain ⟨g,og,c,ys,hv,_,_,hg,hy,_,hyc⟩:=DxAt.elem (f:=dvVar) (k:=3) dvVar_len (by decide) HVX.out hm
   obtain rfl:A0=some ⟨g,og,none⟩:=by injection hv
   obtain rfl:=var_vals' hy;obtain ⟨X,hX⟩:=str_of v.name
   have hXN:X.data.toList=v.name:=by
    have:X=⟨v.name.toArray⟩:=by injection hX with hX;exact hX.symm
    rw [this]
   rw [hX] at hyc
   have kb:∀{p:Addr} {u:Value},w0.cell? p=some u->wr.cell? p=some u:=λ hc=>by rw [World.cell?_of_block (HI.out.2.1.bl.block _ (World.block_lt_of_cell? w0 _ hc))];exact hc
   have u0:wr.cell? ⟨g,og+i*3,none⟩=_:=kb (hyc 0 _ rfl);have u1:=kb (hyc 1 _ rfl);have u2:=kb (hyc 2 _ rfl)
   obtain ⟨W5,hW5⟩:∃W,W=wr.alloc (.cells #[.string X,.int .i64 v.num,.int .i64 v.at_] 73):=⟨_,rfl⟩
   obtain ⟨g5,hg5⟩:∃g,g=wr.heap.size:=⟨_,rfl⟩
   have hal5:Below wr.heap.size wr W5:=by rw [hW5];exact (b_ _ wr).alloc (n_ _) _
   have HQ0:Hid (CB W5 g5 73 [.string X,.int .i64 v.num,.int .i64 v.at_]/\CB W5 g1 27 [.int .i64 k,.string N0,.string I0,.string D0,.slice A1 n1 c1,.slice A2 n2 c2,.slice A3 n3 c3,.slice A4 n4 c4,.int .i64 p]/\WS w0 W5 b (T1++pvT N1 (vl.take i)) N1 ⟨#[]⟩/\Wk w0.heap.size b w W5):=⟨by rw [hW5,hg5];exact CB.new wr _ [.string X,.int .i64 v.num,.int .i64 v.at_],HI.out.1.below hal5,HI.out.2.1.below hal5,HI.out.2.2.trans (Wk.of HI.out.2.1.bl.size hal5)⟩
   have HGB5:Hid (g5≠b):=by have:=HI.out.2.1.lt;rw [hg5];exact λ e=>by omega
   obtain ⟨TX,hTX⟩:∃TX:ByteArray,(⟨(Lib.itoa v.num).toArray⟩:ByteArray)=TX:=⟨_,rfl⟩
   have HTS:Hid (TX.size<=1000000):=by show TX.size<=_;rw [<-hTX];exact (HNT.out v hmm wr HI.out.2.1.bl).2
   have hTL:TX.data.toList=Lib.itoa v.num:=by rw [<-hTX]
   have HXS:Hid (X.size<=1000000):=by
    have h1:X.data.toList.length<=24:=by rw [hXN];exact nm_size (HVO.out v hmm)
    have h2:X.data.toList.length=X.size:=rfl;show X.size<=_;omega
   have HNX:Hid (T1++pvT N1 (vl.take i)++ind N1 (ptT [] (wds [⟨#[118,97,114]⟩,X,⟨#[61]⟩,TX,⟨#[59]⟩]))=T1++pvT N1 (vl.take (i+1))):=by
    show _=_;rw [List.take_add_one,hm];show _=T1++pvT N1 (vl.take i++[v]);rw [pvT_snoc,a_];unfold pvarT;rw [<-pt_var (pw_name (HVO.out v hmm))];simp only [wds,List.map_cons,List.map_nil,hXN,hTL];rfl
   have HTXd:Hid (Calls Tryz.prog 85 #[.int .i64 v.num] W5.drew λ e w'=>e=.returned (.string TX)/\(w'.cell? ⟨g5,0,none⟩=some (.string X)/\w'.cell? ⟨g5,1,none⟩=some (.int .i64 v.num))/\((∀ob:Obj,(w'.alloc ob).cell? ⟨g5,0,none⟩=some (.string X))/\(∀ob:Obj,(w'.alloc ob).cell? ⟨g5,1,none⟩=some (.int .i64 v.num)))/\Hid (CB w' g5 73 [.string X,.int .i64 v.num,.int .i64 v.at_]/\CB w' g1 27 [.int .i64 k,.string N0,.string I0,.string D0,.slice A1 n1 c1,.slice A2 n2 c2,.slice A3 n3 c3,.slice A4 n4 c4,.int .i64 p]/\WS w0 w' b (T1++pvT N1 (vl.take i)) N1 ⟨#[]⟩/\Wk w0.heap.size b w w')):=by
    have hd:Below W5.heap.size W5 W5.drew:=(b_ _ W5).drew;have h3:=(HNT.out v hmm W5.drew (HQ0.out.2.2.1.bl.trans (hd.mono HQ0.out.2.2.1.bl.size))).1;rw [hTX] at h3;refine h3.mono ?_;rintro e w6 ⟨rfl,hb⟩;have hb6:Below W5.heap.size W5 w6:=hd.trans hb;have c:=HQ0.out.1.below hb6;have ca:=λ ob=>c.alloc ob;exact ⟨rfl,⟨c.c 0 rfl,c.c 1 rfl⟩,⟨λ ob=>(ca ob).c 0 rfl,λ ob=>(ca ob).c 1 rfl⟩,c,HQ0.out.2.1.below hb6,HQ0.out.2.2.1.below hb6,HQ0.out.2.2.2.trans (Wk.of HQ0.out.2.2.1.bl.size hb6)⟩
   have HPTd:Hid (∀w6:World,Hid (CB w6 g5 73 [.string X,.int .i64 v.num,.int .i64 v.at_]/\CB w6 g1 27 [.int .i64 k,.string N0,.string I0,.string D0,.slice A1 n1 c1,.slice A2 n2 c2,.slice A3 n3 c3,.slice A4 n4 c4,.int .i64 p]/\WS w0 w6 b (T1++pvT N1 (vl.take i)) N1 ⟨#[]⟩/\Wk w0.heap.size b w w6) ->
     Calls Tryz.prog 84 #[.pointer (some ⟨b,0,none⟩),.slice (some ⟨w6.heap.size,0,none⟩) 5 5] (w6.alloc (.cells #[.string ⟨#[118,97,114]⟩,.string X,.string ⟨#[61]⟩,.string TX,.string ⟨#[59]⟩] 9)) λ e w'=>e=.returned (.tuple #[])/\(w'.cell? ⟨g5,0,none⟩=some (.string X)/\w'.cell? ⟨g5,1,none⟩=some (.int .i64 v.num))/\Hid (CB w' g1 27 [.int .i64 k,.string N0,.string I0,.string D0,.slice A1 n1 c1,.slice A2 n2 c2,.slice A3 n3 c3,.slice A4 n4 c4,.int .i64 p]/\WS w0 w' b (T1++pvT N1 (vl.take (i+1))) N1 ⟨#[]⟩/\Wk w0.heap.size b w w')):=by
    rintro w6 ⟨h1,h0,h2,h3⟩;have hal:Below w6.heap.size w6 (w6.alloc (.cells #[.string ⟨#[118,97,114]⟩,.string X,.string ⟨#[61]⟩,.string TX,.string ⟨#[59]⟩] 9)):=(b_ _ w6).alloc (n_ _) _
    have h9:=pline_any w0 _ b N1 w6.heap.size 5 _ [⟨#[118,97,114]⟩,X,⟨#[61]⟩,TX,⟨#[59]⟩] (h2.below hal) (CB.new w6 _ [.string ⟨#[118,97,114]⟩,.string X,.string ⟨#[61]⟩,.string TX,.string ⟨#[59]⟩]) rfl (by have:=h2.lt;omega) (by
     intro s hs;simp only [List.mem_cons,List.not_mem_nil,or_false] at hs;rcases hs with hs|hs|hs|hs|hs
     ·rw [hs];decide
     ·rw [hs];exact HXS.out
     ·rw [hs];decide
     ·rw [hs];exact HTS.out
     ·rw [hs];decide) (by decide) (by have:=HNN.out;have:=HNS.out;omega)
    rw [HNX.out] at h9;refine h9.mono ?_;rintro e w7 ⟨rfl,h4,h5⟩;have c:=(h1.below hal).wk h5 HGB5.out (by decide);exact ⟨rfl,⟨c.c 0 rfl,c.c 1 rfl⟩,(h0.below hal).wk h5 HGB.out (by decide),h4,h3.trans ((Wk.of h2.bl.size hal).trans h5)⟩
   have z0:=HQ0.out.1.c 0 rfl;have z1:=HQ0.out.1.c 1 rfl;clear hm hmm hv hg hy hyc kb hal5 hX hXN hTX hTL HTS HXS HNX HI HQ0;go_upto_region 6 with fail;rw [<-hW5,<-hg5];clear hW5 hg5 u0 u1 u2
   go_region_held3 (λ W=>W.cell? ⟨g5,0,none⟩=some (.string X)/\W.cell? ⟨g5,1,none⟩=some (.int .i64 v.num)) (go_keep) (first|(go_at_call 85;refine HTXd.out.mono ?_;rintro e w6 ⟨rfl,⟨x1,x2⟩,⟨v1,v2⟩,HQ6⟩)|(go_at_call 84;refine (HPTd.out _ HQ6).mono ?_;rintro e w7 ⟨rfl,⟨x1',x2'⟩,HF7⟩))
   all_goals
    have HF8:=h_ HF7.out;clear x1 x2 v1 v2 x1' x2' HQ6 HF7 HTXd HPTd z0 z1;go_wp2_with fail
    go_roundw
    case rel=>exact ⟨i+1,by have:=HIM.out;omega,by have h1:=HIM.out;have h2:=HMX.out;rw [HNV.out] at h2;rw [Go.IntWalk.wrap64_in _ ⟨by omega,by omega⟩];rfl,HF8⟩
    case measure=>have h1:=HIM.out;have h2:=HMX.out;rw [HNV.out] at h2;rw [Go.IntWalk.wrap64_in _ ⟨by omega,by omega⟩];simp [intOf];omega
  ·have him':¬(i:Int)<NV:=by omega
   have HJ:Hid (CB wr g1 27 [.int .i64 k,.string N0,.string I0,.string D0,.slice A1 n1 c1,.slice A2 n2 c2,.slice A3 n3 c3,.slice A4 n4 c4,.int .i64 p]/\WS w0 wr b (T1++pvT N1 vl) N1 ⟨#[]⟩/\Wk w0.heap.size b w wr):=by
    have:=HI.out;rw [List.take_of_length_le (by rw [HNV.out];omega)] at this;exact this
   clear hi him HI HW4 HK4 HB4;have z0:=HJ.out.1.c 0 rfl;have z1:=HJ.out.1.c 1 rfl;have z2:=HJ.out.1.c 2 rfl;have z3:=HJ.out.1.c 3 rfl;have z4:=HJ.out.1.c 4 rfl;have z5:=HJ.out.1.c 5 rfl;have z6:=HJ.out.1.c 6 rfl;have z7:=HJ.out.1.c 7 rfl;have z8:=HJ.out.1.c 8 rfl;go_wp2_with fail;refine (HBD.out wr _ HJ.out.2.1).mono ?_;rintro e w5 ⟨rfl,h1,h2⟩;have x2:=h1.c2;have f2:=h1.fr 2
   obtain ⟨W6,hW6⟩:∃W,W=w5.setCell ⟨b,2,none⟩ (.int .i64 (n:Int)):=⟨_,rfl⟩
   have HW6:Hid (WS w0 W6 b (T1++pvT N1 vl++BT) n ⟨#[]⟩):=by rw [hW6];exact h1.set2 n
   have HK6:Hid (Wk w0.heap.size b w W6):=by rw [hW6];exact (HJ.out.2.2.trans h2).trans (Wk.set h1.ge 2 _)
   clear h1 h2 HJ z0 z1 z2 z3 z4 z5 z6 z7 z8;go_upto_region 10 with fail
   try (rw [Go.IntWalk.wrap64_in _ (by have:=HNN.out;have:=HNS.out;exact ⟨by omega,by omega⟩)])
   try rw [hc2]
   rw [<-hW6];clear hW6 x2 f2 hc2
   obtain ⟨W7,hW7⟩:∃W,W=W6.alloc (.cells #[.string ⟨#[125]⟩] 9):=⟨_,rfl⟩
   obtain ⟨g7,hg7⟩:∃g,g=W6.heap.size:=⟨_,rfl⟩
   have hal7:Below W6.heap.size W6 W7:=by rw [hW7];exact (b_ _ W6).alloc (n_ _) _
   have HC:=h_ (pline_any w0 W7 b n g7 1 _ [⟨#[125]⟩] (HW6.out.below hal7) (by rw [hW7,hg7];exact CB.new W6 _ [.string ⟨#[125]⟩]) rfl (by have:=HW6.out.lt;omega) (by intro s hs;simp at hs;subst hs;decide) (by decide) (by have:=HNN.out;have:=HNS.out;omega));have HK7:Hid (Wk w0.heap.size b w W7):=HK6.out.trans (Wk.of HW6.out.bl.size hal7);clear hal7 HW6 HK6;go_wp2_with fail;rw [<-hW7,<-hg7];clear hW7 hg7;refine HC.out.mono ?_;rintro e w8 ⟨rfl,h1,h2⟩;have HW8:=h_ h1;have HK8:=h_ (HK7.out.trans h2);clear h1 h2 HC HK7;go_wp2_with fail;go_end0;refine ⟨rfl,?_,HK8.out⟩;have h:=HW8.out;rw [show ptT [] (wds [⟨#[125]⟩])=[125] from pt_shut,<-HT1.out] at h;simp only [a_] at h ⊢;exact h
end Go.Proofs.YtocecpghoncmgaaGreatDoor
