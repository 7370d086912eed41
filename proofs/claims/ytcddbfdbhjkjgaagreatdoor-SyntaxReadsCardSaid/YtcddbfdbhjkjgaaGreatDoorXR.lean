import Derived.Test.YtcddbfdbhjkjgaaGreatDoorQh
import Derived.Test.YtcddbfdbhjkjgaaGreatDoorXB
set_option maxHeartbeats 12800000
set_option maxRecDepth 20000
namespace Go.Proofs.YtcddbfdbhjkjgaaGreatDoor
open Go.RowKit
theorem nat_beq (c:UInt8) (n:Nat) (hn:n<256):(((c.toNat:Int)==(n:Int))=true ↔ c=UInt8.ofNat n):=by
 rw [beq_iff_eq]
 constructor
 ·intro h
  apply UInt8.toNat.inj
  rw [UInt8.toNat_ofNat']
  omega
 ·rintro rfl
  rw [UInt8.toNat_ofNat']
  omega
theorem blK_cons (c:UInt8) (r:List UInt8):blK false (c::r)=if c=47∧r.head?=some 47 then blK true r+1 else if isBl c=true then blK false r+1 else 0:=rfl
theorem lnK_cons (c:UInt8) (r:List UInt8):lnK (c::r)=if c=10 then 0 else lnK r+1:=rfl
theorem head_drop (s:ByteArray) (q:Nat):(s.data.toList.drop q).head?=if h:q<s.size then some s[q] else none:=by
 by_cases h:q<s.size
 ·rw [dif_pos h,drop_cons s q h];rfl
 ·rw [dif_neg h,List.drop_of_length_le (by have e:s.data.toList.length=s.size:=rfl;omega)];rfl
theorem rblanks_any (s:ByteArray) (p:Nat) (w:World) (hs:s.size≤140737488351232) (hp:p≤s.size) :
  Calls Tryz.prog 24 #[.string s,.int .i64 p] w fun e w'=>e=.returned (.int .i64 ((p+blK false (s.data.toList.drop p):Nat):Int))∧w=w':=by
 have hlen:s.data.toList.length=s.size:=rfl
 obtain ⟨E,hE⟩:∃E,p+blK false (s.data.toList.drop p)=E:=⟨_,rfl⟩
 rw [hE]
 have HE:=h_ hE
 clear hE
 go_enter Tryz.func24,Tryz.ntmps24
 go_wp2_with fail
 go_loop [1] (fun i=>∃q:Nat,q≤s.size∧Hid (q+blK false (s.data.toList.drop q)=E)∧i=.int .i64 q) (fun i=>s.size-(intOf i).toNat)
 case atStart=>exact ⟨p,hp,HE,rfl⟩
 case round =>
  obtain ⟨q,hq,HQ,rfl⟩:=hrel
  by_cases hlt:q<s.size
  ·have hlt':(q:Int)<s.size:=by omega
   obtain ⟨r,hr⟩:∃r,q+1=r:=⟨_,rfl⟩
   have hz:(q:Int)+1=(r:Int):=by omega
   have HRQ:=h_ hr
   have hdq:=drop_cons s q hlt
   rw [hr] at hdq
   have HDQ:=h_ hdq
   have hBL:=h_ (blK_cons s[q] (s.data.toList.drop r))
   rw [←HDQ.out,head_drop s r] at hBL
   obtain ⟨b47,h47⟩:∃b,((s[q].toNat:Int)==47)=b:=⟨_,rfl⟩
   obtain ⟨b9,h9⟩:∃b,((s[q].toNat:Int)==9)=b:=⟨_,rfl⟩
   obtain ⟨b10,h10⟩:∃b,((s[q].toNat:Int)==10)=b:=⟨_,rfl⟩
   obtain ⟨b13,h13⟩:∃b,((s[q].toNat:Int)==13)=b:=⟨_,rfl⟩
   obtain ⟨b32,h32⟩:∃b,((s[q].toNat:Int)==32)=b:=⟨_,rfl⟩
   have E47:Hid (s[q]=47 ↔ b47=true):=by rw [←h47];exact (nat_beq s[q] 47 (by decide)).symm
   have EBL:Hid (isBl s[q]=(b9 || b10 || b13 || b32)):=by
    show _=_
    rw [←h9,←h10,←h13,←h32]
    rw [Bool.eq_iff_iff]
    simp only [isBl,Bool.or_eq_true,decide_eq_true_eq]
    rw [show ((s[q].toNat:Int)==9)=true ↔ _ from nat_beq s[q] 9 (by decide),show ((s[q].toNat:Int)==10)=true ↔ _ from nat_beq s[q] 10 (by decide),show ((s[q].toNat:Int)==13)=true ↔ _ from nat_beq s[q] 13 (by decide),show ((s[q].toNat:Int)==32)=true ↔ _ from nat_beq s[q] 32 (by decide)]
    rfl
   clear hr hdq
   cases b47
   ·cases b9
    ·cases b10
     ·cases b13
      ·cases b32
       ·
        have HZ:Hid (blK false (s.data.toList.drop q)=0):=by
         show _=_
         rw [hBL.out,if_neg (fun h=>absurd (E47.out.1 h.1) (by decide)),if_neg (by rw [EBL.out];decide)]
        clear hlen
        have HR2:Hid (q=E):=by
         show _=_
         rw [←HQ.out,HZ.out]
         rfl
        go_wp2_with fail
        go_ret
        exact ⟨by rw [←HR2.out];rfl,rfl⟩
       ·
        have HB:Hid (blK false (s.data.toList.drop q)=1+blK false (s.data.toList.drop r)):=by
         show _=_
         rw [hBL.out,if_neg (fun h=>absurd (E47.out.1 h.1) (by decide)),if_pos (by rw [EBL.out];rfl)]
         omega
        have HQ2:Hid (r+blK false (s.data.toList.drop r)=E):=by
         show _=_
         rw [←HQ.out,HB.out,←HRQ.out]
         omega
        have hrs:r≤s.size:=by omega
        clear hlen
        go_wp2_with fail
        go_round
        case rel=>exact ⟨r,hrs,HQ2,rfl⟩
        case measure=>simp [intOf];omega
      ·
       have HB:Hid (blK false (s.data.toList.drop q)=1+blK false (s.data.toList.drop r)):=by
        show _=_
        rw [hBL.out,if_neg (fun h=>absurd (E47.out.1 h.1) (by decide)),if_pos (by rw [EBL.out];rfl)]
        omega
       have HQ2:Hid (r+blK false (s.data.toList.drop r)=E):=by
        show _=_
        rw [←HQ.out,HB.out,←HRQ.out]
        omega
       have hrs:r≤s.size:=by omega
       clear hlen
       go_wp2_with fail
       go_round
       case rel=>exact ⟨r,hrs,HQ2,rfl⟩
       case measure=>simp [intOf];omega
     ·
      have HB:Hid (blK false (s.data.toList.drop q)=1+blK false (s.data.toList.drop r)):=by
       show _=_
       rw [hBL.out,if_neg (fun h=>absurd (E47.out.1 h.1) (by decide)),if_pos (by rw [EBL.out];rfl)]
       omega
      have HQ2:Hid (r+blK false (s.data.toList.drop r)=E):=by
       show _=_
       rw [←HQ.out,HB.out,←HRQ.out]
       omega
      have hrs:r≤s.size:=by omega
      clear hlen
      go_wp2_with fail
      go_round
      case rel=>exact ⟨r,hrs,HQ2,rfl⟩
      case measure=>simp [intOf];omega
    ·
     have HB:Hid (blK false (s.data.toList.drop q)=1+blK false (s.data.toList.drop r)):=by
      show _=_
      rw [hBL.out,if_neg (fun h=>absurd (E47.out.1 h.1) (by decide)),if_pos (by rw [EBL.out];rfl)]
      omega
     have HQ2:Hid (r+blK false (s.data.toList.drop r)=E):=by
      show _=_
      rw [←HQ.out,HB.out,←HRQ.out]
      omega
     have hrs:r≤s.size:=by omega
     clear hlen
     go_wp2_with fail
     go_round
     case rel=>exact ⟨r,hrs,HQ2,rfl⟩
     case measure=>simp [intOf];omega
   ·have hc:s[q].toNat=47:=by
     have:=(beq_iff_eq.1 h47)
     omega
    have g9:b9=false:=by rw [←h9,hc];rfl
    have g10:b10=false:=by rw [←h10,hc];rfl
    have g13:b13=false:=by rw [←h13,hc];rfl
    have g32:b32=false:=by rw [←h32,hc];rfl
    subst g9 g10 g13 g32
    have HC10:Hid (s[q]≠10):=fun e=>by rw [e] at hc;cases hc
    clear hc
    by_cases hrl:r<s.size
    ·have hrl':(r:Int)<s.size:=by omega
     obtain ⟨b2,h2⟩:∃b,((s[r].toNat:Int)==47)=b:=⟨_,rfl⟩
     have EB2:Hid (s[r]=47 ↔ b2=true):=by rw [←h2];exact (nat_beq s[r] 47 (by decide)).symm
     rw [dif_pos hrl] at hBL
     cases b2
     ·have HZ:Hid (blK false (s.data.toList.drop q)=0):=by
       show _=_
       rw [hBL.out,if_neg (fun h=>absurd (EB2.out.1 (Option.some.inj h.2)) (by decide)),if_neg (by rw [EBL.out];decide)]
      clear hlen
      have HR2:Hid (q=E):=by
       show _=_
       rw [←HQ.out,HZ.out]
       rfl
      go_wp2_with fail
      go_ret
      exact ⟨by rw [←HR2.out];rfl,rfl⟩
     ·have HZ:Hid (blK false (s.data.toList.drop q)=lnK (s.data.toList.drop q)+blK false (s.data.toList.drop (q+lnK (s.data.toList.drop q)))):=by
       show _=_
       have e1:lnK (s.data.toList.drop q)=lnK (s.data.toList.drop r)+1:=by rw [HDQ.out,lnK_cons,if_neg HC10.out]
       rw [e1,hBL.out,if_pos ⟨E47.out.2 rfl,by rw [EB2.out.2 rfl]⟩,blK_note,List.drop_drop,←HRQ.out]
       have e2:q+1+lnK (s.data.toList.drop (q+1))=q+(lnK (s.data.toList.drop (q+1))+1):=by omega
       rw [e2]
       omega
      have HPOS:Hid (0<lnK (s.data.toList.drop q)):=by
       show 0<_
       rw [HDQ.out,lnK_cons,if_neg HC10.out]
       omega
      have HLE:Hid (q+lnK (s.data.toList.drop q)≤s.size):=by
       have:=lnK_le (s.data.toList.drop q)
       rw [List.length_drop,hlen] at this
       show _≤_
       omega
      have HLEN:=h_ hlen
      clear hlen
      go_wp2_with fail
      go_loop [1] (fun i=>∃k:Nat,q≤k∧k≤s.size∧Hid (q+lnK (s.data.toList.drop q)=k+lnK (s.data.toList.drop k))∧i=.int .i64 k) (fun i=>s.size-(intOf i).toNat)
      case atStart=>exact ⟨q,n_ _,hq,rfl,rfl⟩
      case round =>
       obtain ⟨k,hqk,hks,HKL,rfl⟩:=hrel
       by_cases hkl:k<s.size
       ·have hkl':(k:Int)<s.size:=by omega
        have HKC:Hid (lnK (s.data.toList.drop k)=if s[k]=10 then 0 else lnK (s.data.toList.drop (k+1))+1):=by
         show _=_
         rw [drop_cons s k hkl,lnK_cons]
        obtain ⟨b5,h5⟩:∃b,((s[k].toNat:Int)==10)=b:=⟨_,rfl⟩
        have E5:Hid (s[k]=10 ↔ b5=true):=by rw [←h5];exact (nat_beq s[k] 10 (by decide)).symm
        cases b5
        ·have HK2:Hid (q+lnK (s.data.toList.drop q)=(k+1)+lnK (s.data.toList.drop (k+1))):=by
          show _=_
          rw [HKL.out,HKC.out,if_neg (fun e=>absurd (E5.out.1 e) (by decide))]
          omega
         go_wp2_with fail
         go_round
         case rel=>exact ⟨k+1,by omega,hkl,HK2,by go_num⟩
         case measure=>simp [intOf];omega
        ·have HK2:Hid (q+lnK (s.data.toList.drop q)=k):=by
          show _=_
          rw [HKL.out,HKC.out,if_pos (E5.out.2 rfl)]
          rfl
         have HQ3:Hid (k+blK false (s.data.toList.drop k)=E):=by
          show _=_
          rw [←HQ.out,HZ.out,HK2.out,←Nat.add_assoc,HK2.out]
         have hqk2:q<k:=by have:=HK2.out;have:=HPOS.out;omega
         go_wp2_with fail
         go_round
         case rel=>exact ⟨k,hks,HQ3,rfl⟩
         case measure=>simp [intOf];omega
       ·have hkl':¬(k:Int)<s.size:=by omega
        have HK2:Hid (q+lnK (s.data.toList.drop q)=k):=by
         show _=_
         rw [HKL.out,List.drop_of_length_le (i:=k) (by rw [HLEN.out];omega)]
         rfl
        have HQ3:Hid (k+blK false (s.data.toList.drop k)=E):=by
         show _=_
         rw [←HQ.out,HZ.out,HK2.out,←Nat.add_assoc,HK2.out]
        have hqk2:q<k:=by have:=HK2.out;have:=HPOS.out;omega
        go_wp2_with fail
        go_round
        case rel=>exact ⟨k,hks,HQ3,rfl⟩
        case measure=>simp [intOf];omega
    ·have hrl':¬(r:Int)<s.size:=by omega
     rw [dif_neg hrl] at hBL
     have HZ:Hid (blK false (s.data.toList.drop q)=0):=by
      show _=_
      rw [hBL.out,if_neg (fun h=>by cases h.2),if_neg (by rw [EBL.out];decide)]
     clear hlen
     have HR2:Hid (q=E):=by
      show _=_
      rw [←HQ.out,HZ.out]
      rfl
     go_wp2_with fail
     go_ret
     exact ⟨by rw [←HR2.out];rfl,rfl⟩
  ·have hlt':¬(q:Int)<s.size:=by omega
   have HR2:Hid (q=E):=by
    show _=_
    rw [←HQ.out,List.drop_of_length_le (by rw [hlen];omega)]
    rfl
   clear hlen
   go_wp2_with fail
   go_ret
   exact ⟨by rw [←HR2.out];rfl,rfl⟩
theorem two_no {m:List UInt8} (h:∀(j:Nat) (x:List UInt8),j<7→twoS[j]?=some x→x≠m.take 2):twoS.contains (m.take 2)=false:=by
 cases e:twoS.contains (m.take 2) with
 |false=>rfl
 |true =>
  have:m.take 2∈twoS:=by simpa using e
  obtain ⟨i,hi⟩:=List.getElem?_of_mem this
  exact absurd rfl (h i _ (by have:=(List.getElem?_eq_some_iff.1 hi).1;exact this) hi)
theorem two_size {j:Nat} {x:List UInt8} (h:twoS[j]?=some x):x.length=2:=by
 have:=List.mem_of_getElem? h
 simp only [twoS,List.mem_cons,List.not_mem_nil,or_false] at this
 rcases this with rfl|rfl|rfl|rfl|rfl|rfl|rfl <;> rfl
theorem sgn_two' {m:List UInt8} (h:twoS.contains (m.take 2)=true):sgn m=2:=by unfold sgn;rw [if_pos h]
theorem sgn_one' {c:UInt8} {r:List UInt8} (h:twoS.contains ((c::r).take 2)=false):sgn (c::r)=if oneS.contains c=true then 1 else 0:=by
 unfold sgn
 rw [if_neg (by rw [h];decide)]
theorem one_no {c:UInt8} (h:∀(j:Nat) (x:UInt8),j<17→oneS[j]?=some x→x≠c):oneS.contains c=false:=by
 cases e:oneS.contains c with
 |false=>rfl
 |true =>
  have:c∈oneS:=by simpa using e
  obtain ⟨i,hi⟩:=List.getElem?_of_mem this
  exact absurd rfl (h i _ (by have:=(List.getElem?_eq_some_iff.1 hi).1;exact this) hi)
theorem extract_two (s:ByteArray) (p r:Nat) (hr:p+2=r):(s.extract p r).data.toList=(s.data.toList.drop p).take 2:=by
 rw [ByteArray.data_extract,Array.toList_extract,List.extract_eq_take_drop]
 congr 1
 omega
theorem rsign_any (s:ByteArray) (p:Nat) (w:World) (hs:s.size≤140737488351232) (hp:p<s.size) :
  Calls Tryz.prog 58 #[.string s,.int .i64 p] w fun e w'=>e=.returned (.int .i64 (sgn (s.data.toList.drop p):Nat))∧Below w.heap.size w w':=by
 have hlen:s.data.toList.length=s.size:=rfl
 have hdc:=drop_cons s p hp
 obtain ⟨m,hm⟩:∃m,s.data.toList.drop p=m:=⟨_,rfl⟩
 obtain ⟨r,hr⟩:∃r,p+2=r:=⟨_,rfl⟩
 have HX:=h_ (extract_two s p r hr)
 have hml:m.length+p=s.size:=by rw [←hm,List.length_drop,hlen];omega
 rw [hm] at hdc HX ⊢
 have hz:(p:Int)+2=(r:Int):=by omega
 have HRP:=h_ hr
 have HML:=h_ hml
 have HDC:=h_ hdc
 obtain ⟨g,hg⟩:∃g,g=w.heap.size:=⟨_,rfl⟩
 obtain ⟨W0,hW0⟩:∃W0,W0=w.alloc (.cells #[.string ⟨#[45,62]⟩,.string ⟨#[60,61]⟩,.string ⟨#[62,61]⟩,.string ⟨#[61,61]⟩,.string ⟨#[33,61]⟩,.string ⟨#[38,38]⟩,.string ⟨#[124,124]⟩] 9):=⟨_,rfl⟩
 have hW0':W0=w.alloc (.cells (twoS.map txV).toArray 9):=hW0
 have HC0:Hid (∀(j:Nat) (x:List UInt8),twoS[j]?=some x→W0.cell? ⟨g,j,none⟩=some (txV x)):=by
  intro j x hx
  rw [hW0',hg,cell_of_row _ _ _ _ _ _ (heap_alloc_new w _)]
  simp [hx]
 have HB0:Hid (Below w.heap.size w W0):=by rw [hW0];exact (b_ _ w).alloc (n_ _) _
 clear hm hr hlen hdc hW0' hml
 go_enter Tryz.func58,Tryz.ntmps58
 go_upto_region 2 with fail
 rw [←hW0,←hg]
 clear hW0 hg
 go_wp2_with fail
 go_loopw [6] (fun i wr=>∃k:Nat,k≤7∧Hid (∀(j:Nat) (x:List UInt8),j<k→twoS[j]?=some x→x≠m.take 2)∧i=.int .i64 k∧Hid (∀(j:Nat) (x:List UInt8),twoS[j]?=some x→wr.cell? ⟨g,j,none⟩=some (txV x))∧Hid (Below w.heap.size w wr)) (fun i _=>7-(intOf i).toNat)
 case atStart=>exact ⟨0,Nat.zero_le _,fun j x h=>absurd h (Nat.not_lt_zero _),rfl,HC0,HB0⟩
 case round =>
  obtain ⟨k,hk,HNO,rfl,HC,HB⟩:=hrel
  by_cases hlt:k<7
  ·have hlt':(k:Int)<7:=by omega
   obtain ⟨x,hx⟩:∃x,twoS[k]?=some x:=⟨_,List.getElem?_eq_getElem hlt⟩
   have hc:=HC.out k x hx
   obtain ⟨X,hX⟩:∃X:ByteArray,X=⟨x.toArray⟩:=⟨_,rfl⟩
   have hXl:X.data.toList=x:=by rw [hX]
   have hXv:txV x=.string X:=by rw [hX];rfl
   rw [hXv] at hc
   have HXX:=h_ hx
   clear hX hXv
   by_cases hr2:r≤s.size
   ·have hr2':(r:Int)≤s.size:=by omega
    by_cases he:x=m.take 2
    ·have hb:((s.extract p r).toList==X.toList)=true:=by
      rw [Lib.toList_data,Lib.toList_data,hXl,HX.out,he]
      exact beq_self_eq_true _
     have HR:Hid (sgn m=2):=sgn_two' (by rw [←he];simpa using List.mem_of_getElem? HXX.out)
     clear he hXl hx
     go_wp2_with fail
     go_quiet (fail)
     go_wp2_with fail
     go_ret
     exact ⟨by rw [HR.out];rfl,HB.out.trans ((drewN_below wr _).mono HB.out.size)⟩
    ·have hb:((s.extract p r).toList==X.toList)=false:=by
      rw [Lib.toList_data,Lib.toList_data,hXl,HX.out]
      exact beq_eq_false_iff_ne.2 (fun e=>he e.symm)
     have HR:Hid (∀(j:Nat) (y:List UInt8),j<k+1→twoS[j]?=some y→y≠m.take 2):=fun j y hj hy=>by
      rcases Nat.lt_succ_iff_lt_or_eq.1 hj with h|rfl
      ·exact HNO.out j y h hy
      ·rw [HXX.out] at hy
       injection hy with hy
       rw [←hy]
       exact he
     clear he hXl hx
     go_wp2_with fail
     go_quiet (fail)
     go_wp2_with fail
     go_roundw
     case rel=>exact ⟨k+1,by omega,HR,by go_num,HC,HB.out.trans ((drewN_below wr _).mono HB.out.size)⟩
     case measure=>simp [intOf];omega
   ·have hr2':decide ((r:Int)≤s.size)=false:=decide_eq_false (by omega)
    have HR:Hid (∀(j:Nat) (y:List UInt8),j<k+1→twoS[j]?=some y→y≠m.take 2):=fun j y hj hy e=>by
     have:=two_size hy
     rw [e,List.length_take] at this
     have:=HRP.out
     have:=HML.out
     omega
    clear hXl hx
    go_wp2_with fail
    go_quiet (fail)
    go_wp2_with fail
    go_roundw
    case rel=>exact ⟨k+1,by omega,HR,by go_num,HC,HB.out.trans ((drewN_below wr _).mono HB.out.size)⟩
    case measure=>simp [intOf];omega
  ·have hlt':¬(k:Int)<7:=by omega
   obtain rfl:k=7:=by omega
   have HNT:=h_ (two_no HNO.out)
   have HSG:Hid (sgn m=if oneS.contains s[p]=true then 1 else 0):=by
    show _=_
    have:=HNT.out
    rw [HDC.out] at this ⊢
    exact sgn_one' this
   obtain ⟨S,hS⟩:∃S:ByteArray,S=⟨#[123,125,40,41,91,93,59,44,61,43,45,42,47,37,60,62,33]⟩:=⟨_,rfl⟩
   have hS1:S.size=17:=by rw [hS];rfl
   have HS2:Hid (S.data.toList=oneS):=by rw [hS];rfl
   go_upto_region 7 with fail
   go_cut [7] (fun sv wx=>sv=.string S∧wx=wr)
   case first =>
    go_wp2_with fail
    go_meet
    exact ⟨by rw [hS],rfl⟩
   obtain ⟨rfl,rfl⟩:=hcut
   clear hS
   go_wp2_with fail
   go_loopw [8] (fun i wx=>∃k:Nat,k≤17∧Hid (∀(j:Nat) (x:UInt8),j<k→oneS[j]?=some x→x≠s[p])∧i=.int .i64 k∧Hid (Below w.heap.size w wx)) (fun i _=>17-(intOf i).toNat)
   case atStart=>exact ⟨0,Nat.zero_le _,fun j x h=>absurd h (Nat.not_lt_zero _),rfl,HB⟩
   case round =>
    obtain ⟨k,hk,HNO1,rfl,HBX⟩:=hrel
    by_cases hl2:k<17
    ·have hl2':(k:Int)<17:=by omega
     obtain ⟨x,hx⟩:∃x,oneS[k]?=some x:=⟨_,List.getElem?_eq_getElem hl2⟩
     have hkS:k<S.size:=by omega
     have hx2:S[k]=x:=by
      have e:=get_list S k hkS
      rw [←e]
      have e2:S.data.toList[k]?=some x:=by rw [HS2.out];exact hx
      rw [List.getElem?_eq_getElem (by simpa using hkS)] at e2
      exact Option.some.inj e2
     have HXX:=h_ hx
     by_cases he:x=s[p]
     ·have hb:((s[p].toNat:Int)==(S[k].toNat:Int))=true:=by rw [hx2,he];exact beq_self_eq_true _
      have HR:Hid (sgn m=1):=by
       show _=_
       rw [HSG.out,if_pos (by rw [←he];simpa using List.mem_of_getElem? HXX.out)]
      clear he hx2 hx
      go_wp2_with fail
      go_quiet (fail)
      go_wp2_with fail
      go_ret
      exact ⟨by rw [HR.out];rfl,HBX.out.trans ((drewN_below _ _).mono HBX.out.size)⟩
     ·have hb:((s[p].toNat:Int)==(S[k].toNat:Int))=false:=by
       rw [hx2,beq_eq_false_iff_ne]
       intro e
       exact he (UInt8.toNat.inj (by omega))
      have HR:Hid (∀(j:Nat) (y:UInt8),j<k+1→oneS[j]?=some y→y≠s[p]):=fun j y hj hy=>by
       rcases Nat.lt_succ_iff_lt_or_eq.1 hj with h|rfl
       ·exact HNO1.out j y h hy
       ·rw [HXX.out] at hy
        injection hy with hy
        rw [←hy]
        exact he
      clear he hx2 hx
      go_wp2_with fail
      go_quiet (fail)
      go_wp2_with fail
      go_roundw
      case rel=>exact ⟨k+1,by omega,HR,by go_num,HBX.out.trans ((drewN_below _ _).mono HBX.out.size)⟩
      case measure=>simp [intOf];omega
    ·have hl2':¬(k:Int)<17:=by omega
     obtain rfl:k=17:=by omega
     have HR:Hid (sgn m=0):=by
      show _=_
      rw [HSG.out,if_neg (by rw [one_no HNO1.out];decide)]
     go_wp2_with fail
     go_ret
     exact ⟨by rw [HR.out];rfl,HBX.out⟩
def rtokR (m:List UInt8) (p:Nat):Value:=.tuple #[if tkE m=0 then tkV (tkT m p) else tkV noTk,.int .i64 (if tkE m=0 then (tkS m:Int) else 0),.int .i64 (tkE m)]
theorem extract_text (s:ByteArray) (p n r:Nat) (hr:p+n=r):(s.extract p r).data.toList=(s.data.toList.drop p).take n:=by
 rw [ByteArray.data_extract,Array.toList_extract,List.extract_eq_take_drop]
 congr 1
 omega
theorem txV_of {X:ByteArray} {l:List UInt8} (h:X.data.toList=l):Value.string X=txV l:=by
 unfold txV
 congr 1
 exact ByteArray.ext (Array.toList_inj.1 (by rw [h]))
theorem rtoken_word (s:ByteArray) (p:Nat) (w:World) (hs:s.size≤140737488351232) (hp:p<s.size) (hlt:isLt s[p]=true) :
  Calls Tryz.prog 25 #[.string s,.int .i64 p] w fun e w'=>e=.returned (rtokR (s.data.toList.drop p) p)∧Below w.heap.size w w':=by
 have hlen:s.data.toList.length=s.size:=rfl
 have hdc:=drop_cons s p hp
 have HRW:=h_ (fun W=>rrow_any s p W hs (by omega))
 have HLE:=h_ (fun W=>rletter_any s[p] W)
 have HDI:=h_ (fun W=>rdigit_any s[p] W)
 rw [hlt] at HLE
 rw [lt_not_dg hlt] at HDI
 obtain ⟨m,hm⟩:∃m,s.data.toList.drop p=m:=⟨_,rfl⟩
 obtain ⟨n,hn⟩:∃n,wdK m=n:=⟨_,rfl⟩
 obtain ⟨r,hr⟩:∃r,p+n=r:=⟨_,rfl⟩
 have HX:=h_ (extract_text s p n r hr)
 rw [hm] at hdc HRW HX ⊢
 rw [hn] at HRW
 have hml:m.length+p=s.size:=by rw [←hm,List.length_drop,hlen];omega
 have hnm:n≤m.length:=by rw [←hn];exact wdK_le m
 have hrs:r≤s.size:=by omega
 have hpr:p≤r:=by omega
 have hz:(p:Int)+n=(r:Int):=by omega
 have HE:Hid (tkE m=if 24<n then 2 else 0):=by show _=_;rw [←hn,hdc,tkE_cons,if_pos hlt]
 have HSZ:Hid (tkS m=n):=by show _=_;rw [←hn,hdc,tkS_cons,if_pos hlt]
 have HTT:Hid (tkT m p=⟨if isKw (m.take n)=true then 2 else 1,m.take n,0,p⟩):=by show _=_;rw [←hn,hdc,tkT_cons,if_pos hlt]
 have HKW:=h_ (fun W=>rword_any (s.extract p r) W)
 rw [HX.out] at HKW
 have HXV:=h_ (txV_of HX.out)
 obtain ⟨d,hd⟩:∃d,isKw (m.take n)=d:=⟨_,rfl⟩
 rw [hd] at HKW HTT
 generalize hXX:s.extract p r=X at *
 have HXE:=h_ hXX
 clear hlt hdc hm hn hr hml hnm hlen hd hXX
 obtain ⟨g1,hg1⟩:∃g1,g1=w.heap.size:=⟨_,rfl⟩
 obtain ⟨W0,hW0⟩:∃W0,W0=w.alloc (.cells #[.int .i64 0,.string ⟨#[]⟩,.int .i64 0,.int .i64 0] 45):=⟨_,rfl⟩
 have HT0:Hid (TkB W0 g1 (.int .i64 0) (.string ⟨#[]⟩) (.int .i64 0) (.int .i64 0)):=by rw [hW0,hg1];exact TkB.new _ _ _ _ _
 have HB0:Hid (Below w.heap.size w W0):=by rw [hW0];exact (b_ _ w).alloc (n_ _) _
 have hgw:w.heap.size≤g1:=by omega
 go_enter Tryz.func25,Tryz.ntmps25
 go_upto_region 1 with fail
 rw [←hW0,←hg1]
 clear hW0 hg1
 go_wp2_with fail
 refine (HLE.out W0).mono ?_
 rintro e w1 ⟨rfl,rfl⟩
 go_wp2_with fail
 refine (HDI.out W0).mono ?_
 rintro e w1 ⟨rfl,rfl⟩
 go_wp2_with fail
 refine (HRW.out W0).mono ?_
 rintro e w1 ⟨rfl,rfl⟩
 go_wp2_with fail
 rw [HXE.out]
 obtain ⟨g2,hg2⟩:∃g2,g2=W0.heap.size:=⟨_,rfl⟩
 obtain ⟨W1,hW1⟩:∃W1,W1=W0.alloc (.cells #[.int .i64 1,.string X,.int .i64 0,.int .i64 (p:Int)] 45):=⟨_,rfl⟩
 rw [←hW1,←hg2]
 have HT1:Hid (TkB W1 g1 (.int .i64 0) (.string ⟨#[]⟩) (.int .i64 0) (.int .i64 0)):=by rw [hW1];exact HT0.out.alloc _
 have HG1:Hid (TkB W1 g2 (.int .i64 1) (.string X) (.int .i64 0) (.int .i64 (p:Int))):=by rw [hW1,hg2];exact TkB.new _ _ _ _ _
 have HB1:Hid (Below w.heap.size w W1):=by rw [hW1];exact HB0.out.alloc HB0.out.size _
 have hne:¬g1=g2:=by have:=HT0.out.lt;omega
 have hne2:¬g2=g1:=fun e=>hne e.symm
 have hgw2:w.heap.size≤g2:=by have:=HT0.out.lt;omega
 clear hW1 hg2 HT0 HB0
 refine (HKW.out W1).mono ?_
 rintro e w2 ⟨rfl,hb⟩
 have HT2:=h_ (HT1.out.below hb)
 have HG2:=h_ (HG1.out.below hb)
 have HB2:Hid (Below w.heap.size w w2):=HB1.out.trans (hb.mono HB1.out.size)
 clear hb HT1 HG1 HB1
 have c0:=HT2.out.c0
 have c1:=HT2.out.c1
 have c2:=HT2.out.c2
 have c3:=HT2.out.c3
 have f0:=HT2.out.fr 0
 have f1:=HT2.out.fr 1
 have f2:=HT2.out.fr 2
 have f3:=HT2.out.fr 3
 have d0:=HG2.out.c0
 have d1:=HG2.out.c1
 have d2:=HG2.out.c2
 have d3:=HG2.out.c3
 have e0:=HG2.out.fr 0
 by_cases hl:24<n
 ·have hl':(24:Int)<n:=by omega
  have HH:=h_ hl
  cases d
  ·go_wp2_with fail
   refine bodyPost_ret (TkB.res3 rfl _ rfl (HT2.out.all _ _ _ _)) rfl ?_
   refine ⟨?_,below_all HB2.out hgw _ _ _ _⟩
   rw [rtokR,HE.out,if_pos HH.out,if_neg (by decide),if_neg (by decide)]
   rfl
  ·go_wp2_with fail
   refine bodyPost_ret (TkB.res3 rfl _ rfl ((show TkB _ g1 _ _ _ _ from (Below.heap_setCell w2 ⟨g2,0,none⟩ _ g1 hne).trans HT2.out).all _ _ _ _)) rfl ?_
   refine ⟨?_,below_all (HB2.out.setCell (p:=⟨g2,0,none⟩) hgw2 _) hgw _ _ _ _⟩
   rw [rtokR,HE.out,if_pos HH.out,if_neg (by decide),if_neg (by decide)]
   rfl
 ·have hl':¬(24:Int)<n:=by omega
  have HH:=h_ hl
  cases d
  ·go_wp2_with fail
   refine bodyPost_ret (TkB.res3 rfl _ rfl (HT2.out.all _ _ _ _)) rfl ?_
   refine ⟨?_,below_all HB2.out hgw _ _ _ _⟩
   rw [rtokR,HE.out,if_neg HH.out,if_pos rfl,if_pos rfl,HSZ.out,HTT.out,tkV,←HXV.out]
   rfl
  ·go_wp2_with fail
   refine bodyPost_ret (TkB.res3 rfl _ rfl ((show TkB _ g1 _ _ _ _ from (Below.heap_setCell w2 ⟨g2,0,none⟩ _ g1 hne).trans HT2.out).all _ _ _ _)) rfl ?_
   refine ⟨?_,below_all (HB2.out.setCell (p:=⟨g2,0,none⟩) hgw2 _) hgw _ _ _ _⟩
   rw [rtokR,HE.out,if_neg HH.out,if_pos rfl,if_pos rfl,HSZ.out,HTT.out,tkV,←HXV.out]
   rfl
theorem rtoken_sign (s:ByteArray) (p:Nat) (w:World) (hs:s.size≤140737488351232) (hp:p<s.size) (h1:isLt s[p]=false) (h2:isDg s[p]=false) :
  Calls Tryz.prog 25 #[.string s,.int .i64 p] w fun e w'=>e=.returned (rtokR (s.data.toList.drop p) p)∧Below w.heap.size w w':=by
 have hlen:s.data.toList.length=s.size:=rfl
 have hdc:=drop_cons s p hp
 have HSG:=h_ (fun W=>rsign_any s p W hs hp)
 have HLE:=h_ (fun W=>rletter_any s[p] W)
 have HDI:=h_ (fun W=>rdigit_any s[p] W)
 rw [h1] at HLE
 rw [h2] at HDI
 obtain ⟨m,hm⟩:∃m,s.data.toList.drop p=m:=⟨_,rfl⟩
 obtain ⟨n,hn⟩:∃n,sgn m=n:=⟨_,rfl⟩
 obtain ⟨r,hr⟩:∃r,p+n=r:=⟨_,rfl⟩
 have HX:=h_ (extract_text s p n r hr)
 rw [hm] at hdc HSG HX ⊢
 rw [hn] at HSG
 have hml:m.length+p=s.size:=by rw [←hm,List.length_drop,hlen];omega
 have hnm:n≤m.length:=by rw [←hn];exact sgn_le m
 have hrs:r≤s.size:=by omega
 have hpr:p≤r:=by omega
 have hz:(p:Int)+n=(r:Int):=by omega
 have e2:¬isLt s[p]=true:=by rw [h1];decide
 have e3:¬isDg s[p]=true:=by rw [h2];decide
 have HE:Hid (tkE m=if n=0 then 4 else 0):=by show _=_;rw [←hn,hdc,tkE_cons,if_neg e2,if_neg e3]
 have HSZ:Hid (tkS m=n):=by show _=_;rw [←hn,hdc,tkS_cons,if_neg e2,if_neg e3]
 have HTT:Hid (tkT m p=⟨4,m.take n,0,p⟩):=by show _=_;rw [←hn,hdc,tkT_cons,if_neg e2,if_neg e3]
 have HXV:=h_ (txV_of HX.out)
 have HXE:Hid (∀X,s.extract p r=X→Value.string X=txV (m.take n)):=fun X h=>by rw [←h];exact HXV.out
 clear h1 h2 hdc hm hn hr hml hnm hlen e2 e3 HX HXV
 obtain ⟨g1,hg1⟩:∃g1,g1=w.heap.size:=⟨_,rfl⟩
 obtain ⟨W0,hW0⟩:∃W0,W0=w.alloc (.cells #[.int .i64 0,.string ⟨#[]⟩,.int .i64 0,.int .i64 0] 45):=⟨_,rfl⟩
 have HT0:Hid (TkB W0 g1 (.int .i64 0) (.string ⟨#[]⟩) (.int .i64 0) (.int .i64 0)):=by rw [hW0,hg1];exact TkB.new _ _ _ _ _
 have HB0:Hid (Below w.heap.size w W0):=by rw [hW0];exact (b_ _ w).alloc (n_ _) _
 have hgw:w.heap.size≤g1:=by omega
 go_enter Tryz.func25,Tryz.ntmps25
 go_upto_region 1 with fail
 rw [←hW0,←hg1]
 clear hW0 hg1
 go_wp2_with fail
 refine (HLE.out W0).mono ?_
 rintro e w1 ⟨rfl,rfl⟩
 go_wp2_with fail
 refine (HDI.out W0).mono ?_
 rintro e w1 ⟨rfl,rfl⟩
 go_wp2_with fail
 refine (HSG.out W0).mono ?_
 rintro e w2 ⟨rfl,hb⟩
 have HT2:=h_ (HT0.out.below hb)
 have HB2:Hid (Below w.heap.size w w2):=HB0.out.trans (hb.mono HB0.out.size)
 clear hb
 have c0:=HT2.out.c0
 have c1:=HT2.out.c1
 have c2:=HT2.out.c2
 have c3:=HT2.out.c3
 have f0:=HT2.out.fr 0
 have f1:=HT2.out.fr 1
 have f2:=HT2.out.fr 2
 have f3:=HT2.out.fr 3
 by_cases hn0:n=0
 ·have hn1:((n:Int)==0)=true:=by rw [hn0];rfl
  have HH:=h_ hn0
  clear hn0
  go_wp2_with fail
  refine bodyPost_ret (TkB.res3 rfl _ rfl (HT2.out.all _ _ _ _)) rfl ?_
  refine ⟨?_,below_all HB2.out hgw _ _ _ _⟩
  rw [rtokR,HE.out,if_pos HH.out,if_neg (by decide),if_neg (by decide)]
  rfl
 ·have hn1:((n:Int)==0)=false:=by rw [beq_eq_false_iff_ne];omega
  have HH:=h_ hn0
  clear hn0
  go_wp2_with fail
  refine bodyPost_ret (TkB.res3 rfl _ rfl (HT2.out.all _ _ _ _)) rfl ?_
  refine ⟨?_,below_all HB2.out hgw _ _ _ _⟩
  rw [rtokR,HE.out,if_neg HH.out,if_pos rfl,if_pos rfl,HSZ.out,HTT.out,tkV,←HXE.out _ rfl]
  rfl
theorem rtoken_int (s:ByteArray) (p:Nat) (w:World) (hs:s.size≤140737488351232) (hp:p<s.size) (h1:isLt s[p]=false) (h2:isDg s[p]=true) :
  Calls Tryz.prog 25 #[.string s,.int .i64 p] w fun e w'=>e=.returned (rtokR (s.data.toList.drop p) p)∧Below w.heap.size w w':=by
 have hlen:s.data.toList.length=s.size:=rfl
 have hdc:=drop_cons s p hp
 have hp':(p:Int)≤s.size:=by omega
 have HPA:=h_ (fun W=>rparse_any (s.extract p s.size) W (by rw [ByteArray.size_extract];omega))
 rw [extract_drop] at HPA
 have HRW:=h_ (fun W=>rrow_any s p W hs (by omega))
 have HLE:=h_ (fun W=>rletter_any s[p] W)
 have HDI:=h_ (fun W=>rdigit_any s[p] W)
 rw [h1] at HLE
 rw [h2] at HDI
 obtain ⟨m,hm⟩:∃m,s.data.toList.drop p=m:=⟨_,rfl⟩
 rw [hm] at hdc HPA HRW ⊢
 obtain ⟨x,hx⟩:∃x,pE m=x:=⟨_,rfl⟩
 obtain ⟨v,hv⟩:∃v,pV m=v:=⟨_,rfl⟩
 obtain ⟨pn,hpn⟩:∃pn,pN m=pn:=⟨_,rfl⟩
 obtain ⟨n,hn⟩:∃n,dgK m=n:=⟨_,rfl⟩
 obtain ⟨z,hz⟩:∃z,wdK m=z:=⟨_,rfl⟩
 have HPN:=h_ (pN_ok (m:=m))
 rw [hx,hv,hpn] at HPA
 rw [hx,hpn,hn] at HPN
 rw [hz] at HRW
 have e2:¬isLt s[p]=true:=by rw [h1];decide
 have HE:Hid (tkE m=if x=0 then (if n<z then 4 else 0) else x):=by show _=_;rw [←hx,←hn,←hz,hdc,tkE_cons,if_neg e2,if_pos h2]
 have HSZ:Hid (tkS m=n):=by show _=_;rw [←hn,hdc,tkS_cons,if_neg e2,if_pos h2]
 have HTT:Hid (tkT m p=⟨3,[],v,p⟩):=by show _=_;rw [←hv,hdc,tkT_cons,if_neg e2,if_pos h2]
 clear h1 h2 hdc hm hn hlen e2 hx hv hpn hz
 obtain ⟨g1,hg1⟩:∃g1,g1=w.heap.size:=⟨_,rfl⟩
 obtain ⟨W0,hW0⟩:∃W0,W0=w.alloc (.cells #[.int .i64 0,.string ⟨#[]⟩,.int .i64 0,.int .i64 0] 45):=⟨_,rfl⟩
 have HT0:Hid (TkB W0 g1 (.int .i64 0) (.string ⟨#[]⟩) (.int .i64 0) (.int .i64 0)):=by rw [hW0,hg1];exact TkB.new _ _ _ _ _
 have HB0:Hid (Below w.heap.size w W0):=by rw [hW0];exact (b_ _ w).alloc (n_ _) _
 have hgw:w.heap.size≤g1:=by omega
 go_enter Tryz.func25,Tryz.ntmps25
 go_upto_region 1 with fail
 rw [←hW0,←hg1]
 clear hW0 hg1
 have c0:=HT0.out.c0
 have c1:=HT0.out.c1
 have c2:=HT0.out.c2
 have c3:=HT0.out.c3
 have f0:=HT0.out.fr 0
 have f1:=HT0.out.fr 1
 have f2:=HT0.out.fr 2
 have f3:=HT0.out.fr 3
 go_wp2_with fail
 refine (HLE.out W0).mono ?_
 rintro e w1 ⟨rfl,rfl⟩
 go_wp2_with fail
 refine (HDI.out W0).mono ?_
 rintro e w1 ⟨rfl,rfl⟩
 go_wp2_with fail
 refine (HPA.out W0).mono ?_
 rintro e w2 ⟨rfl,rfl⟩
 by_cases hx0:x=0
 ·subst hx0
  obtain rfl:pn=(n:Int):=HPN.out rfl
  by_cases hnz:n<z
  ·have hnz':(n:Int)<z:=by omega
   have HH:=h_ hnz
   go_wp2_with fail
   refine (HRW.out W0).mono ?_
   rintro e w2 ⟨rfl,rfl⟩
   go_wp2_with fail
   refine bodyPost_ret (TkB.res3 rfl _ rfl (HT0.out.all _ _ _ _)) rfl ?_
   refine ⟨?_,below_all HB0.out hgw _ _ _ _⟩
   rw [rtokR,HE.out,if_pos trivial,if_pos HH.out,if_neg (by decide),if_neg (by decide)]
   rfl
  ·have hnz':¬(n:Int)<z:=by omega
   have HH:=h_ hnz
   go_wp2_with fail
   refine (HRW.out W0).mono ?_
   rintro e w2 ⟨rfl,rfl⟩
   go_wp2_with fail
   refine bodyPost_ret (TkB.res3 rfl _ rfl (HT0.out.all _ _ _ _)) rfl ?_
   refine ⟨?_,below_all HB0.out hgw _ _ _ _⟩
   rw [rtokR,HE.out,if_pos trivial,if_neg HH.out,if_pos rfl,if_pos rfl,HSZ.out,HTT.out]
   rfl
 ·have hx1:(x==0)=false:=by simpa using hx0
  have HH:=h_ hx0
  clear hx0
  go_wp2_with fail
  refine bodyPost_ret (TkB.res3 rfl _ rfl (HT0.out.all _ _ _ _)) rfl ?_
  refine ⟨?_,below_all HB0.out hgw _ _ _ _⟩
  rw [rtokR,HE.out,if_neg HH.out,if_neg HH.out,if_neg HH.out]
  rfl
theorem rtoken_any (s:ByteArray) (p:Nat) (w:World) (hs:s.size≤140737488351232) (hp:p<s.size) :
  Calls Tryz.prog 25 #[.string s,.int .i64 p] w fun e w'=>e=.returned (rtokR (s.data.toList.drop p) p)∧Below w.heap.size w w':=by
 cases h1:isLt s[p] with
 |true=>exact rtoken_word s p w hs hp h1
 |false =>
  cases h2:isDg s[p] with
  |true=>exact rtoken_int s p w hs hp h1 h2
  |false=>exact rtoken_sign s p w hs hp h1 h2
theorem scA_skip (f p:Nat) (acc:List Tk) (l:List UInt8):scA (f+1) p acc l=scA (f+1) (p+blK false l) acc (l.drop (blK false l)):=by
 have h:=blK_rest false l
 rw [scA,scA]
 simp only [h,List.drop_zero,Nat.add_zero]
theorem rtokR_form (m:List UInt8) (q:Nat):∃t:Tk,rtokR m q=.tuple #[.agg #[.int .i64 t.kind,txV t.text,.int .i64 t.num,.int .i64 t.at_],.int .i64 (if tkE m=0 then (tkS m:Int) else 0),.int .i64 (tkE m)]∧t=if tkE m=0 then tkT m q else noTk:=by
 refine ⟨_,?_,rfl⟩
 rw [rtokR]
 by_cases h:tkE m=0
 ·rw [if_pos h,if_pos h,if_pos h];rfl
 ·rw [if_neg h,if_neg h,if_neg h];rfl
theorem tkS_pos2 {m:List UInt8} (h0:m≠[]) (h:tkE m=0):0<tkS m:=by
 cases m with
 |nil=>exact absurd rfl h0
 |cons c r=>exact tkS_pos h
theorem rtokens_any (w:World) (s:ByteArray) :
  Calls Tryz.prog 12 #[.string s] w fun e w'=>∃v,e=.returned (.tuple #[v,.agg #[.int .i64 (scF s.data.toList).2.1,.int .i64 (scF s.data.toList).2.2]])∧TkRow w' w.heap.size v (scF s.data.toList).1∧Below w.heap.size w w':=by
 have hlen:s.data.toList.length=s.size:=rfl
 obtain ⟨R,hR⟩:∃R,scF s.data.toList=R:=⟨_,rfl⟩
 rw [hR]
 have HR:=h_ hR
 clear hR
 obtain ⟨g0,hg0⟩:∃g0,g0=w.heap.size:=⟨_,rfl⟩
 obtain ⟨W0,hW0⟩:∃W0,W0=w.alloc (.cells #[.int .i64 0,.int .i64 0] 33):=⟨_,rfl⟩
 have HF0:Hid (FtB W0 g0 (.int .i64 0) (.int .i64 0)):=by rw [hW0,hg0];exact FtB.new _ _ _
 have HB0:Hid (Below w.heap.size w W0):=by rw [hW0];exact (b_ _ w).alloc (n_ _) _
 have hgw:w.heap.size≤g0:=by omega
 by_cases hl:16384<s.size
 ·have hl':(16384:Int)<s.size:=by omega
  have HRR:Hid (R=([],2,-1)):=by
   show _=_
   rw [←HR.out,scF,if_pos (by rw [hlen];exact hl)]
  clear hlen HR
  go_enter Tryz.func12,Tryz.ntmps12
  go_upto_region 1 with fail
  rw [←hW0,←hg0]
  clear hW0 hg0
  have c0:=HF0.out.c0
  have c1:=HF0.out.c1
  have f0:=HF0.out.fr 0
  have f1:=HF0.out.fr 1
  go_wp2_with fail
  refine bodyPost_ret (FtB.res rfl _ rfl (HF0.out.all _ _)) rfl ?_
  refine ⟨.slice none 0 0,?_,?_,below_two HB0.out hgw _ _⟩
  ·rw [HRR.out];rfl
  ·rw [HRR.out];exact TkRow.nil _ _
 ·have hl':¬(16384:Int)<s.size:=by omega
  have HBL:=h_ (fun q W hq=>rblanks_any s q W (by omega) hq)
  have HTO:=h_ (fun q W hq=>rtoken_any s q W (by omega) hq)
  obtain ⟨q0,hq0⟩:∃q0,q0=blK false s.data.toList:=⟨_,rfl⟩
  have hq0s:q0≤s.size:=by rw [hq0,←hlen];exact blK_le _ _
  have HRR:Hid (scA (s.size+1) q0 [] (s.data.toList.drop q0)=R):=by
   show _=_
   rw [←HR.out,scF,if_neg (by rw [hlen];exact hl),hlen,scA_skip s.size 0,←hq0,Nat.zero_add]
  have HZ0:Hid (blK false (s.data.toList.drop q0)=0):=by show _=_;rw [hq0];exact blK_rest _ _
  have HL0:Hid ((s.data.toList.drop q0).length<s.size+1):=by
   show _<_
   rw [List.length_drop,hlen]
   omega
  have HB00:=h_ (HBL.out 0 W0 (Nat.zero_le _))
  rw [List.drop_zero,←hq0,Nat.zero_add] at HB00
  clear HR hq0
  go_enter Tryz.func12,Tryz.ntmps12
  go_upto_region 1 with fail
  rw [←hW0,←hg0]
  clear hW0 hg0
  go_wp2_with fail
  refine HB00.out.mono ?_
  rintro e w1 ⟨rfl,rfl⟩
  go_wp2_with fail
  go_loopw [4,5] (fun lv av wr=>∃(q f:Nat) (xs:List Tk),q≤s.size∧xs.length≤q∧av=.int .i64 q∧Hid (blK false (s.data.toList.drop q)=0)∧Hid (TkRow wr w.heap.size lv xs)∧Hid (FtB wr g0 (.int .i64 0) (.int .i64 0))∧Hid (scA f q xs (s.data.toList.drop q)=R)∧Hid ((s.data.toList.drop q).length<f)∧Hid (Below w.heap.size w wr)) (fun _ av _=>s.size-(intOf av).toNat)
  case atStart=>exact ⟨q0,s.size+1,[],hq0s,Nat.zero_le _,rfl,HZ0,TkRow.nil _ _,HF0,HRR,HL0,HB0⟩
  case round =>
   obtain ⟨q,f,xs,hq,hxq,rfl,HZ,HT,HF,HA,HL,HB⟩:=hrel
   obtain ⟨m,hm⟩:∃m,m=s.data.toList.drop q:=⟨_,rfl⟩
   have hdm:Hid ((s.data.toList.drop q).drop (blK false (s.data.toList.drop q))=m):=by
    show _=_
    rw [HZ.out,List.drop_zero,hm]
   obtain ⟨f,rfl⟩:∃f',f=f' + 1:=⟨f-1,by have:=HL.out;omega⟩
   have HGE:=h_ (HF.out.lt)
   by_cases hqs:q<s.size
   ·have hqs':(q:Int)<s.size:=by omega
    have hm0:m≠[]:=by rw [hm,drop_cons s q hqs];simp
    have hts:q+tkS m≤s.size:=by
     have:=tkS_le m
     rw [hm,List.length_drop,hlen,←hm] at this
     omega
    have HTAKE:=h_ (HTO.out q wr hqs)
    rw [←hm] at HTAKE
    obtain ⟨t,ht,ht2⟩:=rtokR_form m q
    obtain ⟨X,hX⟩:∃X,txV t.text=.string X:=⟨_,rfl⟩
    have HX:=h_ hX
    rw [ht,hX] at HTAKE
    have HTT:=h_ ht2
    have HM0:=h_ hm0
    have HMQ:=h_ hm
    obtain ⟨c,hc⟩:∃c,tkE m=c:=⟨_,rfl⟩
    obtain ⟨n,hn⟩:∃n,(if tkE m=0 then (tkS m:Int) else 0)=n:=⟨_,rfl⟩
    rw [hn,hc] at HTAKE
    have HN:=h_ hn
    clear ht ht2 hX hm hm0 hn
    go_wp2_with fail
    refine HTAKE.out.mono ?_
    rintro e w1 ⟨rfl,hb⟩
    have HT2:=h_ (HT.out.below hb)
    have HF2:=h_ (HF.out.below hb)
    have HB2:Hid (Below w.heap.size w w1):=HB.out.trans (hb.mono HB.out.size)
    clear hb HTAKE
    obtain ⟨W2,hW2⟩:∃W2,W2=w1.alloc (.cells #[.int .i64 t.kind,.string X,.int .i64 t.num,.int .i64 t.at_] 45):=⟨_,rfl⟩
    obtain ⟨g6,hg6⟩:∃g6,g6=w1.heap.size:=⟨_,rfl⟩
    have HG6:Hid (TkB W2 g6 (.int .i64 t.kind) (.string X) (.int .i64 t.num) (.int .i64 t.at_)):=by rw [hW2,hg6];exact TkB.new _ _ _ _ _
    have HT3:Hid (TkRow W2 w.heap.size u4 xs):=by rw [hW2];exact HT2.out.alloc _
    have HF3:Hid (FtB W2 g0 (.int .i64 0) (.int .i64 0)):=by rw [hW2];exact HF2.out.alloc _
    have HB3:Hid (Below w.heap.size w W2):=by rw [hW2];exact HB2.out.alloc HB2.out.size _
    go_upto_region 7 with fail
    rw [←hW2,←hg6]
    have HG0n:Hid (some g0≠u4.ownBlock):=fun e=>HT3.out.ne HF3.out (by decide) e.symm
    clear hW2 hg6
    by_cases hc0:c=0
    ·subst hc0
     have HNN:Hid (n=(tkS m:Int)):=by show _=_;rw [←HN.out,hc,if_pos rfl]
     obtain rfl:n=(tkS m:Int):=HNN.out
     have HTM:Hid (t=tkT m q):=by show _=_;rw [HTT.out,hc,if_pos rfl]
     have HCC:=h_ hc
     have d0:=HG6.out.c0
     have d1:=HG6.out.c1
     have d2:=HG6.out.c2
     have d3:=HG6.out.c3
     have hpos:0<tkS m:=tkS_pos2 HM0.out HCC.out
     obtain ⟨r,hr⟩:∃r,q+tkS m=r:=⟨_,rfl⟩
     have hz:(q:Int)+(tkS m:Int)=(r:Int):=by omega
     have hrs:r≤s.size:=by omega
     have hqr:q<r:=by omega
     obtain ⟨r2,hr2⟩:∃r2,r2=r+blK false (s.data.toList.drop r):=⟨_,rfl⟩
     have hr2s:r2≤s.size:=by
      have:=blK_le false (s.data.toList.drop r)
      rw [List.length_drop,hlen] at this
      omega
     have HBR:=h_ (fun W=>HBL.out r W hrs)
     rw [←hr2] at HBR
     have HA4:Hid (scA f r2 (xs++[t]) (s.data.toList.drop r2)=R):=by
      show _=_
      obtain ⟨f',rfl⟩:∃f',f=f' + 1:=⟨f-1,by have:=HL.out;rw [List.length_drop,hlen] at this;omega⟩
      rw [←HA.out,scA_step hdm.out HM0.out HCC.out,HTM.out,HZ.out,HMQ.out,List.drop_drop]
      simp only [Nat.add_zero]
      rw [←HMQ.out,hr,scA_skip f' r,←hr2,List.drop_drop,←hr2]
     have HL4:Hid ((s.data.toList.drop r2).length<f):=by
      show _<_
      have:=HL.out
      rw [List.length_drop,hlen] at this ⊢
      omega
     have HZ4:Hid (blK false (s.data.toList.drop r2)=0):=by
      show _=_
      rw [hr2,←List.drop_drop]
      exact blK_rest _ _
     have hqr2:r≤r2:=by omega
     clear hc hr hr2
     go_wp2_with (at_builtin;refine wpl_append_tk rfl (.tmp 31) (.tmp 33) rfl w.heap.size _ xs rfl HT3.out t X HX.out rfl (by omega) HB3.out.size ?_)
     intro v' w3 hrow hgr
     have HR3:=h_ hrow
     have hgr2:W2.grownBy w3 u4.ownBlock:=(World.grownBy_alloc W2 _ _).trans hgr
     have HF4:=h_ (HF3.out.grown hgr2 HG0n.out)
     have HB4:Hid (Below w.heap.size w w3):=HB3.out.grown hgr2 HB3.out.size (fun k hk=>(HT3.out.lt k hk).1)
     clear hrow hgr hgr2 d0 d1 d2 d3
     go_wp2_with fail
     refine (HBR.out w3).mono ?_
     rintro e w4 ⟨rfl,rfl⟩
     have hxs:(xs++[t]).length≤r2:=by rw [List.length_append];simp;omega
     go_wp2_with fail
     go_roundw
     case rel=>exact ⟨r2,f,xs++[t],hr2s,hxs,rfl,HZ4,HR3,HF4,HA4,HL4,HB4⟩
     case measure=>simp [intOf];omega
    ·have hc1:(c==0)=false:=by simpa using hc0
     have HRR2:Hid (R=([],c,(q:Int))):=by
      show _=_
      rw [←HA.out,scA_bad hdm.out HM0.out (by rw [hc];exact hc0),hc,HZ.out]
      rfl
     have c0:=HF3.out.c0
     have c1:=HF3.out.c1
     have f0:=HF3.out.fr 0
     have f1:=HF3.out.fr 1
     clear hc hc0
     go_wp2_with fail
     refine bodyPost_ret (FtB.res rfl _ rfl (HF3.out.all _ _)) rfl ?_
     refine ⟨.slice none 0 0,?_,?_,below_two HB3.out hgw _ _⟩
     ·rw [HRR2.out];rfl
     ·rw [HRR2.out];exact TkRow.nil _ _
   ·have hqs':¬(q:Int)<s.size:=by omega
    have hm0:m=[]:=by rw [hm];exact List.drop_of_length_le (by rw [hlen];omega)
    have HRR2:Hid (R=(xs++[⟨5,[],0,(s.size:Int)⟩],0,0)):=by
     show _=_
     have e:q=s.size:=by omega
     rw [←HA.out,scA_end (by rw [hdm.out];exact hm0),HZ.out,e]
     rfl
    have HG0n:Hid (some g0≠u4.ownBlock):=fun e=>HT.out.ne HF.out (by decide) e.symm
    clear hm hm0
    go_wp2_with (at_builtin;refine wpl_append_tk rfl (.tmp 40) (.tmp 44) rfl w.heap.size _ xs rfl HT.out ⟨5,[],0,(s.size:Int)⟩ ⟨#[]⟩ rfl rfl (by omega) HB.out.size ?_)
    intro v' w3 hrow hgr
    have HR3:=h_ hrow
    have hgr2:wr.grownBy w3 u4.ownBlock:=(World.grownBy_alloc wr _ _).trans hgr
    have HF4:=h_ (HF.out.grown hgr2 HG0n.out)
    have HB4:Hid (Below w.heap.size w w3):=HB.out.grown hgr2 HB.out.size (fun k hk=>(HT.out.lt k hk).1)
    clear hrow hgr hgr2
    have c0:=HF4.out.c0
    have c1:=HF4.out.c1
    have f0:=HF4.out.fr 0
    have f1:=HF4.out.fr 1
    go_wp2_with fail
    refine bodyPost_ret (FtB.res rfl _ rfl (HF4.out.all _ _)) rfl ?_
    refine ⟨v',?_,?_,below_two HB4.out hgw _ _⟩
    ·rw [HRR2.out];rfl
    ·rw [HRR2.out]
     exact HR3.out.grown (((Mv.refl g0 w3).set 0 _).set 1 _) (.inr (HR3.out.ne HF4.out (by decide)))
end Go.Proofs.YtcddbfdbhjkjgaaGreatDoor
