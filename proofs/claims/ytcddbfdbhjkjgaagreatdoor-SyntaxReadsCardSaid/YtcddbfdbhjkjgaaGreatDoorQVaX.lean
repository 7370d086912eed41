import Derived.Test.YtcddbfdbhjkjgaaGreatDoorQh
import Derived.Test.YtcddbfdbhjkjgaaGreatDoorRows
import Derived.WalkKit
import Derived.WalkSpells
import Derived.Lib.Hide
import Derived.WalkLawsBesides
import Derived.Deep.Light
import Derived.Test.YtcddbfdbhjkjgaaGreatDoorShelf
import Derived.Lib.LaidTab
import Derived.Stop.LaidErr
import Derived.Deep.DeepCutAuto
import Derived.Deep.RegionHeld3
import Derived.Lib.ItoaNum
import Derived.Laws.IdiomStrings
import Derived.LaidLaws
import Derived.Lib.AtoiAll
import Derived.Shelf.Strconv.ErrVarAll
import Derived.Deep.CutBlock
import Derived.Below
set_option maxHeartbeats 12800000
set_option maxRecDepth 20000
namespace Go.Proofs.YtcddbfdbhjkjgaaGreatDoor
open Go.RowKit Go.ChangeShapes
def PowTab (w:World):Prop:=∃t fr,w.heap[5]?=some (.cells (Lib.pow10Tab.map fun z=>Value.int .u64 z).toArray t fr)
theorem PowTab.below {w w':World} (h:PowTab w) (hb:Below w.heap.size w w'):PowTab w':=by
 obtain ⟨t,fr,h⟩:=h
 refine ⟨t,fr,?_⟩
 rw [hb.block _ ?_]
 ·exact h
 ·rcases Nat.lt_or_ge 5 w.heap.size with h'|h'
  ·exact h'
  ·rw [Array.getElem?_eq_none h'] at h;cases h
def ErrAt (w:World):Prop:=∃tp p,w.cell? ⟨3,0,none⟩=some (.iface tp p)
def OneByte (g:Nat) (d:Int) (W:World):Prop:=W.cell? ⟨g,0,none⟩=some (.int .u8 d)
def dgB (u:Nat):UInt8:=UInt8.ofNat (48+u % 10)
theorem dgB_nat (u:Nat):((dgB u).toNat:Int)=((48+u % 10:Nat):Int):=by
 unfold dgB
 rw [UInt8.toNat_ofNat']
 omega
theorem OneByte.conv {g:Nat} {u:Nat} {W:World} (h:OneByte g ((48+u % 10:Nat):Int) W) :
  (convert 126 9 (.slice (some ⟨g,0,none⟩) 1 1)).run Tryz.prog W=.ok (.string ⟨#[dgB u]⟩) W:=by
 have:=run_convert_bytes_back (P:=Tryz.prog) W 126 9 5 ⟨g,0,none⟩ 1 [dgB u] Tryz.underlying126 Tryz.underlying5 Tryz.underlying9 (fun j hj=>by
  obtain rfl:j=0:=by simpa using hj
  simp only [List.getElem_cons_zero]
  rw [dgB_nat]
  exact h)
 simpa using this
theorem errAt_of {n nm:String} {d:DataW Unit} {rest:List (String×DataW Unit)} {W:World} (hg:Tryz.prog.globalNamed n=some 3)
  (h:laidMet Tryz.prog ((n,.iface nm d)::rest) W):ErrAt W:=by
 obtain ⟨ps,⟨g0,t0,cs0,f0,p0,q0,hg0,ht0,hv0,hd0,_,e0⟩,_,_⟩:=h
 obtain rfl:=Option.some.inj (hg.symm.trans hg0)
 obtain rfl:=Option.some.inj ((show (Tryz.prog.globals[3]?).map (·.type)=some 148 by kernel_rfl).symm.trans ht0)
 obtain ⟨f1,u,v,hcs,_,_⟩:=iface_of_trod Tryz.underlying148 hd0
 have:=World.var?_cell hg hv0 0
 obtain ⟨l0⟩:=cs0
 simp only at hcs
 subst hcs
 exact ⟨u,v,by simpa using this⟩
def isDg (c:UInt8):Bool:=decide (48≤c.toNat)&&decide (c.toNat≤57)
theorem isDg_iff {c:UInt8}:isDg c=true ↔ 48≤c.toNat∧c.toNat≤57:=by simp [isDg]
def dgK:List UInt8→Nat
 |[]=>0
 |c::r=>if isDg c=true then dgK r+1 else 0
theorem dgK_le:∀l:List UInt8,dgK l≤l.length
 |[]=>n_ _
 |c::r=>by
  have:=dgK_le r
  unfold dgK
  split <;> simp <;> omega
theorem dgK_yes:∀(l:List UInt8) (k:Nat) (hk:k<l.length),k≤dgK l→isDg l[k]=true→k+1≤dgK l
 |c::r,0,_,_,hd=>by
  have hd:isDg c=true:=hd
  unfold dgK
  rw [if_pos hd]
  omega
 |c::r,k+1,hk,h,hd=>by
  unfold dgK at h ⊢
  split at h
  ·rw [if_pos (by assumption)]
   have:=dgK_yes r k (by simpa using hk) (by omega) (by simpa using hd)
   omega
  ·omega
theorem dgK_no:∀(l:List UInt8) (k:Nat) (hk:k<l.length),k≤dgK l→isDg l[k]=false→k=dgK l
 |c::r,0,_,_,hd=>by
  have hd:isDg c=false:=hd
  unfold dgK
  rw [hd,if_neg (by decide)]
 |c::r,k+1,hk,h,hd=>by
  unfold dgK at h ⊢
  split at h
  ·rw [if_pos (by assumption)]
   have:=dgK_no r k (by simpa using hk) (by omega) (by simpa using hd)
   omega
  ·omega
theorem dgK_digit:∀(l:List UInt8) (k:Nat) (hk:k<l.length),k<dgK l→isDg l[k]=true
 |c::r,0,_,h=>by
  unfold dgK at h
  split at h
  ·simpa
  ·omega
 |c::r,k+1,hk,h=>by
  unfold dgK at h
  split at h
  ·simpa using dgK_digit r k (by simpa using hk) (by omega)
  ·omega
theorem dgK_take (l:List UInt8):∀c∈l.take (dgK l),isDg c=true:=by
 intro c hc
 obtain ⟨i,hi,rfl⟩:=List.getElem_of_mem hc
 simp only [List.length_take] at hi
 rw [List.getElem_take]
 exact dgK_digit l i (by omega) (by omega)
theorem dgK_append_all:∀(d t:List UInt8),(∀c∈d,isDg c=true)→(∀c r,t=c::r→isDg c=false)→dgK (d++t)=d.length
 |[],t,_,ht=>by
  cases t with
  |nil=>rfl
  |cons c r=>simp [dgK,ht c r rfl]
 |c::d,t,hd,ht=>by
  have h1:=hd c (by simp)
  have:=dgK_append_all d t (fun c hc=>hd c (by simp [hc])) ht
  simp [dgK,h1,this]
def dvalF (n:Nat) (l:List UInt8):Nat:=l.foldl (fun n c=>10*n+(c.toNat-48)) n
def dval (l:List UInt8):Nat:=dvalF 0 l
theorem dvalF_ge (l:List UInt8):∀n,n≤dvalF n l:=by
 induction l with
 |nil=>intro n;exact n_ _
 |cons c r ih=>intro n;have:=ih (10*n+(c.toNat-48));simp only [dvalF,List.foldl_cons] at this ⊢;omega
theorem dvalF_append (n:Nat) (a b:List UInt8):dvalF n (a++b)=dvalF (dvalF n a) b:=by
 simp [dvalF,List.foldl_append]
theorem dval_snoc (l:List UInt8) (c:UInt8):dval (l++[c])=10*dval l+(c.toNat-48):=by
 simp [dval,dvalF,List.foldl_append]
theorem dval_mono (l:List UInt8) (i j:Nat) (h:i≤j):dval (l.take i)≤dval (l.take j):=by
 have e:l.take j=l.take i++(l.drop i).take (j-i):=by
  rw [←List.take_add]
  congr 1
  omega
 rw [e]
 unfold dval
 rw [dvalF_append]
 exact dvalF_ge _ _
theorem parse_digits:∀(l:List UInt8) (n:Nat),(∀c∈l,isDg c=true)→n<18446744073709551616 →
  Lib.parseUint10 n l=if dvalF n l<18446744073709551616 then .ok (dvalF n l) else .range
 |[],n,_,hn=>by
  simp [Lib.parseUint10,dvalF,hn]
 |c::r,n,h,hn=>by
  have hc:=isDg_iff.1 (h c (by simp))
  have e:dvalF n (c::r)=dvalF (n*10+(c.toNat-48)) r:=by simp [dvalF,Nat.mul_comm]
  have hge:=dvalF_ge r (n*10+(c.toNat-48))
  rw [e]
  unfold Lib.parseUint10
  rw [if_pos hc]
  by_cases h1:1844674407370955162≤n
  ·rw [if_pos h1,if_neg (by omega)]
  ·rw [if_neg h1]
   by_cases h2:18446744073709551616≤n*10+(c.toNat-48)
   ·rw [if_pos h2,if_neg (by omega)]
   ·rw [if_neg h2]
    exact parse_digits r _ (fun c hc=>h c (by simp [hc])) (by omega)
theorem atoi_digits (l:List UInt8) (h:∀c∈l,isDg c=true) (hl:l≠[]) :
  Lib.atoiAll l=if dval l≤9223372036854775807 then .ok (dval l:Int) else .range:=by
 cases l with
 |nil=>exact absurd rfl hl
 |cons c r =>
  have hc:=isDg_iff.1 (h c (by simp))
  unfold Lib.atoiAll
  simp only [if_neg (show ¬(c.toNat=43∨c.toNat=45) by omega)]
  unfold Lib.parseMag
  rw [if_neg hl,parse_digits _ 0 h (by decide)]
  show _=if dvalF 0 (c::r)≤_ then Lib.NumEnd.ok (dvalF 0 (c::r):Int) else .range
  by_cases h1:dvalF 0 (c::r)<18446744073709551616
  ·rw [if_pos h1]
   simp only [if_neg (show ¬c.toNat=45 by omega)]
   by_cases h2:dvalF 0 (c::r)≤9223372036854775807
   ·rw [if_pos h2,if_neg (by omega),if_neg (by omega)]
   ·rw [if_neg h2,if_pos (by omega)]
  ·rw [if_neg h1,if_neg (by omega)]
def pE (l:List UInt8):Int :=
 if l=[] then 3 else if dgK l=0∨(1<dgK l∧l.head?=some 48) then 4 else if dval (l.take (dgK l))≤9223372036854775807 then 0 else 20
def pV (l:List UInt8):Int:=if pE l=0 then (dval (l.take (dgK l)):Int) else 0
def pN (l:List UInt8):Int:=if pE l=0 then (dgK l:Int) else 0
theorem pE_nil:pE []=3∧pV []=0∧pN []=0:=⟨rfl,rfl,rfl⟩
theorem p_form {l:List UInt8} (h0:l≠[]) (h:dgK l=0∨(1<dgK l∧l.head?=some 48)):pE l=4∧pV l=0∧pN l=0:=by
 have e:pE l=4:=by unfold pE;rw [if_neg h0,if_pos h]
 refine ⟨e,?_,?_⟩
 ·unfold pV;rw [e];rfl
 ·unfold pN;rw [e];rfl
theorem p_ok {l:List UInt8} (h0:l≠[]) (h:¬(dgK l=0∨(1<dgK l∧l.head?=some 48))) (hv:dval (l.take (dgK l))≤9223372036854775807):pE l=0∧pV l=dval (l.take (dgK l))∧pN l=dgK l:=by
 have e:pE l=0:=by unfold pE;rw [if_neg h0,if_neg h,if_pos hv]
 refine ⟨e,?_,?_⟩
 ·unfold pV;rw [if_pos e]
 ·unfold pN;rw [if_pos e]
theorem p_num {l:List UInt8} (h0:l≠[]) (h:¬(dgK l=0∨(1<dgK l∧l.head?=some 48))) (hv:9223372036854775807<dval (l.take (dgK l))):pE l=20∧pV l=0∧pN l=0:=by
 have e:pE l=20:=by unfold pE;rw [if_neg h0,if_neg h,if_neg (by omega)]
 refine ⟨e,?_,?_⟩
 ·unfold pV;rw [e];rfl
 ·unfold pN;rw [e];rfl
theorem dec_one {u:Nat} (h:u<10):Lib.decDigits u=[UInt8.ofNat (48+u)]:=by rw [Lib.decDigits,dif_pos h]
theorem dec_more {u:Nat} (h:¬u<10):Lib.decDigits u=Lib.decDigits (u / 10)++[UInt8.ofNat (48+u % 10)]:=by rw [Lib.decDigits,dif_neg h]
theorem dig_byte_nat {d:Nat} (h:d<10):(UInt8.ofNat (48+d)).toNat=48+d:=by
 rw [UInt8.toNat_ofNat']
 omega
theorem dec_digits (u:Nat):∀c∈Lib.decDigits u,isDg c=true:=by
 induction u using Nat.strongRecOn with
 |ind u ih =>
  intro c hc
  by_cases h:u<10
  ·rw [dec_one h] at hc
   obtain rfl:=List.mem_singleton.1 hc
   exact isDg_iff.2 (by rw [dig_byte_nat h];omega)
  ·rw [dec_more h] at hc
   rcases List.mem_append.1 hc with hc|hc
   ·exact ih (u / 10) (by omega) c hc
   ·obtain rfl:=List.mem_singleton.1 hc
    have:=dig_byte_nat (d:=u % 10) (by omega)
    exact isDg_iff.2 (by omega)
theorem dec_val (u:Nat):dval (Lib.decDigits u)=u:=by
 induction u using Nat.strongRecOn with
 |ind u ih =>
  by_cases h:u<10
  ·rw [dec_one h]
   show 10*0+((UInt8.ofNat (48+u)).toNat-48)=u
   rw [dig_byte_nat h]
   omega
  ·rw [dec_more h,dval_snoc,ih (u / 10) (by omega)]
   have:=dig_byte_nat (d:=u % 10) (by omega)
   omega
theorem dec_pos (u:Nat):0<(Lib.decDigits u).length:=by
 by_cases h:u<10
 ·rw [dec_one h];simp
 ·rw [dec_more h];simp
theorem dec_len {u:Nat} (k:Nat) (h:u<10 ^ (k+1)):(Lib.decDigits u).length≤k+1:=by
 induction k generalizing u with
 |zero=>rw [dec_one (by simpa using h)];simp
 |succ k ih =>
  by_cases h1:u<10
  ·rw [dec_one h1];simp
  ·rw [dec_more h1]
   have:=ih (u:=u / 10) (by rw [Nat.pow_succ] at h;omega)
   simp
   omega
theorem head_app (l r:List UInt8) (h:l≠[]):(l++r).head?=l.head?:=by cases l with
 |nil=>exact absurd rfl h
 |cons a b=>rfl
theorem dec_head (u:Nat) (hu:0<u):(Lib.decDigits u).head?≠some 48:=by
 induction u using Nat.strongRecOn with
 |ind u ih =>
  by_cases h:u<10
  ·rw [dec_one h]
   intro e
   have e2:(UInt8.ofNat (48+u)).toNat=48:=by
    simp only [List.head?_cons,j_] at e
    rw [e];rfl
   rw [dig_byte_nat h] at e2
   omega
  ·rw [dec_more h]
   have hp:=dec_pos (u / 10)
   rw [head_app _ _ (List.ne_nil_of_length_pos hp)]
   exact ih (u / 10) (by omega) (by omega)
theorem dec_parse (u:Nat) (t:List UInt8) (hu:u≤9223372036854775807) (ht:∀c r,t=c::r→isDg c=false) :
  pE (Lib.decDigits u++t)=0∧pV (Lib.decDigits u++t)=u∧pN (Lib.decDigits u++t)=(Lib.decDigits u).length:=by
 have hk:=dgK_append_all (Lib.decDigits u) t (dec_digits u) ht
 have hp:=dec_pos u
 have hne:Lib.decDigits u++t≠[]:=by
  intro e
  have:=congrArg List.length e
  rw [List.length_append] at this
  simp only [List.length_nil] at this
  omega
 have htk:(Lib.decDigits u++t).take (dgK (Lib.decDigits u++t))=Lib.decDigits u:=by rw [hk,List.take_left]
 have hv:=dec_val u
 have:=p_ok hne (by
  rw [hk]
  rintro (h|⟨h1,h2⟩)
  ·omega
  ·rw [head_app _ _ (List.ne_nil_of_length_pos hp)] at h2
   rcases Nat.eq_zero_or_pos u with rfl|hu
   ·rw [dec_one (by decide)] at h1
    simp at h1
   ·exact dec_head u hu h2) (by rw [htk,hv];exact hu)
 rw [htk,hv,hk] at this
 exact this
theorem isDg_of {c:UInt8} (h1:48≤(c.toNat:Int)) (h2:(c.toNat:Int)≤57):isDg c=true:=isDg_iff.2 ⟨by omega,by omega⟩
theorem isDg_not {c:UInt8} (h:¬(48≤(c.toNat:Int)∧(c.toNat:Int)≤57)):isDg c=false:=by
 cases e:isDg c with
 |false=>rfl
 |true=>exact absurd (isDg_iff.1 e) (by omega)
theorem cdigits_any (s:ByteArray) (w:World) (hs:s.size≤140737488351232) :
  Calls Tryz.prog 115 #[.string s] w fun e w'=>e=.returned (.int .i64 (dgK s.data.toList))∧w=w':=by
 have HL:Hid (dgK s.data.toList≤s.size):=h_ (by simpa using dgK_le s.data.toList)
 go_enter Tryz.func115,Tryz.ntmps115
 go_wp2
 go_loop [3] (fun i=>∃k:Nat,k≤dgK s.data.toList∧i=.int .i64 k) (fun i=>s.size-(intOf i).toNat)
 case atStart=>exact ⟨0,Nat.zero_le _,rfl⟩
 case round =>
  obtain ⟨k,hk,rfl⟩:=hrel
  have hks:k≤s.size:=by have:=HL.out;omega
  by_cases hlt:k<s.size
  ·have hy:=h_ (dgK_yes s.data.toList k (by simpa using hlt) hk)
   have hn:=h_ (dgK_no s.data.toList k (by simpa using hlt) hk)
   have HK:=h_ hk
   clear hk
   go_wp2
   ·go_round
    case rel=>exact ⟨k+1,hy.out (isDg_of (by assumption) (by assumption)),by go_num⟩
    case measure=>simp [intOf];omega
   all_goals
    go_ret
    have he:=hn.out (isDg_not (by simp only [Array.getElem_toList];show ¬(48≤(s[k].toNat:Int)∧(s[k].toNat:Int)≤57);omega))
    exact ⟨by rw [←he];rfl,rfl⟩
  ·have he:k=dgK s.data.toList:=by have:=HL.out;omega
   have HE:=h_ he
   clear he
   go_wp2
   go_ret
   exact ⟨by rw [←HE.out];rfl,rfl⟩
theorem head_some {s:ByteArray} (h:0<s.size):s.data.toList.head?=some s[0]:=by
 rw [List.head?_eq_getElem?,List.getElem?_eq_getElem (by simpa using h)]
 rfl
theorem take_more (s:ByteArray) (k:Nat) (h:k<s.size):s.data.toList.take (k+1)=s.data.toList.take k++[s[k]]:=by
 rw [List.take_succ_eq_append_getElem (by simpa using h)]
 rfl
theorem rparse_any (s:ByteArray) (w:World) (hs:s.size≤140737488351232) :
  Calls Tryz.prog 57 #[.string s] w fun e w'=>e=.returned (.tuple #[.int .i64 (pV s.data.toList),.int .i64 (pN s.data.toList),.int .i64 (pE s.data.toList)])∧w=w':=by
 by_cases hl0:s.size=0
 ·have hn:s.data.toList=[]:=List.eq_nil_of_length_eq_zero (by simpa using hl0)
  have hl0':(s.size:Int)=0:=by omega
  rw [hn,pE_nil.1,pE_nil.2.1,pE_nil.2.2]
  clear hn hl0
  go_enter Tryz.func57,Tryz.ntmps57
  go_wp2_with fail
  go_ret3
  exact ⟨rfl,rfl⟩
 have hl0':((s.size:Int)==0)=false:=by simp only [beq_eq_false_iff_ne];omega
 have hne:s.data.toList≠[]:=by
  intro e
  have:=congrArg List.length e
  exact hl0 (show s.data.toList.length=0 from this)
 have HNE:=h_ hne
 have HL:Hid (dgK s.data.toList≤s.size):=h_ (by simpa using dgK_le s.data.toList)
 clear hne
 go_enter Tryz.func57,Tryz.ntmps57
 go_upto_block 0 with fail
 go_cut [5] (fun v wx=>v=.int .i64 (dgK s.data.toList)∧wx=w)
 case first =>
  go_wp2_with fail
  go_loop [5] (fun i=>∃k:Nat,k≤dgK s.data.toList∧i=.int .i64 k) (fun i=>s.size-(intOf i).toNat)
  case atStart=>exact ⟨0,Nat.zero_le _,rfl⟩
  case round =>
   obtain ⟨k,hk,rfl⟩:=hrel
   have hks:k≤s.size:=by have:=HL.out;omega
   by_cases hlt:k<s.size
   ·have hy:=h_ (dgK_yes s.data.toList k (by simpa using hlt) hk)
    have hn:=h_ (dgK_no s.data.toList k (by simpa using hlt) hk)
    have HK:=h_ hk
    clear hk
    go_wp2
    ·go_round
     case rel=>exact ⟨k+1,hy.out (isDg_of (by assumption) (by assumption)),by go_num⟩
     case measure=>simp [intOf];omega
    all_goals
     have he:=h_ (hn.out (isDg_not (by simp only [Array.getElem_toList];show ¬(48≤(s[k].toNat:Int)∧(s[k].toNat:Int)≤57);omega)))
     go_meet
     exact (by rw [←he.out];exact ⟨rfl,rfl⟩)
   ·have he:k=dgK s.data.toList:=by have:=HL.out;omega
    have HE:=h_ he
    clear he
    go_wp2
    go_meet
    exact (by rw [←HE.out];exact ⟨rfl,rfl⟩)
 case rest =>
  obtain ⟨rfl,rfl⟩:=hcut
  have hpos:0<s.size:=by omega
  have HH:=h_ (head_some hpos)
  have HV0:=h_ (Nat.lt_irrefl 0)
  obtain ⟨K,hK⟩:∃K,dgK s.data.toList=K:=⟨_,rfl⟩
  rw [hK]
  have HK:=h_ hK
  have hKs:K≤s.size:=by rw [←hK];exact HL.out
  clear hK
  by_cases hbad:K=0∨(1<K∧s[0]=48)
  ·have HP:=h_ (p_form HNE.out (by rw [HK.out,HH.out];simpa using hbad))
   rcases hbad with rfl|⟨h1,h2⟩
   ·have e:(((0:Nat):Int)==0)=true:=rfl
    go_wp2_with fail
    go_ret3
    exact ⟨by rw [HP.out.1,HP.out.2.1,HP.out.2.2];rfl,rfl⟩
   ·have e:((K:Int)==0)=false:=by simp only [beq_eq_false_iff_ne];omega
    have e1:(1:Int)<K:=by omega
    have e2:((s[0].toNat:Int)==48)=true:=by rw [h2];rfl
    go_wp2_with fail
    go_ret3
    exact ⟨by rw [HP.out.1,HP.out.2.1,HP.out.2.2];rfl,rfl⟩
  ·have HB:=h_ hbad
   have hp:0<K:=by omega
   have e:((K:Int)==0)=false:=by simp only [beq_eq_false_iff_ne];omega
   have hcase:(¬(1:Int)<K)∨((1:Int)<K∧((s[0].toNat:Int)==48)=false):=by
    by_cases h1:1<K
    ·refine .inr ⟨by omega,?_⟩
     have h2:¬s[0]=48:=fun h2=>hbad (.inr ⟨h1,h2⟩)
     rw [beq_eq_false_iff_ne]
     intro e
     exact h2 (UInt8.toNat.inj (by rw [show (48:UInt8).toNat=48 from rfl];omega))
    ·exact .inl (by omega)
   clear hbad
   go_upto_region 6 with fail
   go_cut [40] (fun v wx=>v=.bool false∧wx=wc)
   case first =>
    rcases hcase with h1|⟨h1,h2⟩
    ·go_wp2_with fail
     go_meet
     exact ⟨rfl,rfl⟩
    ·go_wp2_with fail
     go_meet
     exact ⟨rfl,rfl⟩
   case rest =>
    obtain ⟨rfl,rfl⟩:=hcut
    go_wp2_with fail
    go_loop [6,7] (fun v i=>∃j n:Nat,j≤K∧i=.int .i64 j∧v=.int .i64 n∧Hid (n=dval (s.data.toList.take j))∧Hid (n≤9223372036854775807)) (fun _ i=>K-(intOf i).toNat)
    case atStart=>exact ⟨0,0,Nat.zero_le _,rfl,rfl,rfl,Nat.zero_le _⟩
    case round =>
     obtain ⟨j,n,hj,rfl,rfl,hn,hm⟩:=hrel
     by_cases hlt:j<K
     ·have hjs:j<s.size:=by omega
      have hdg:=isDg_iff.1 (dgK_digit s.data.toList j (by simpa using hjs) (by rw [HK.out];exact hlt))
      simp only [Array.getElem_toList] at hdg
      have hd0:48≤(s[j].toNat:Int):=by have:=hdg.1;show (48:Int)≤((s.data[j].toNat:Nat):Int);omega
      have hd1:(s[j].toNat:Int)≤57:=by have:=hdg.2;show ((s.data[j].toNat:Nat):Int)≤57;omega
      clear hdg
      have hlt':(j:Int)<K:=by omega
      have HS:=h_ (show dval (s.data.toList.take (j+1))=10*n+(s[j].toNat-48) by rw [take_more s j hjs,dval_snoc,←hn.out])
      go_wp2_with fail
      ·have hgt:9223372036854775807<dval (s.data.toList.take (dgK s.data.toList)):=by
        have h1:=dval_mono s.data.toList (j+1) K (by omega)
        rw [HK.out]
        rw [HS.out] at h1
        omega
       have HP:=h_ (p_num HNE.out (by rw [HK.out,HH.out];simpa using HB.out) hgt)
       go_ret3
       exact ⟨by rw [HP.out.1,HP.out.2.1,HP.out.2.2];rfl,rfl⟩
      ·go_round
       case rel =>
        refine ⟨j+1,10*n+(s[j].toNat-48),by omega,by go_num,?_,HS.out.symm,?_⟩
        ·congr 1
         omega
        ·show _≤_
         omega
       case measure=>simp [intOf];omega
     ·have hlt':¬(j:Int)<K:=by omega
      have hjK:j=K:=by omega
      subst hjK
      have HP:=h_ (p_ok HNE.out (by rw [HK.out,HH.out];simpa using HB.out) (by rw [HK.out,←hn.out];exact hm.out))
      go_wp2_with fail
      go_ret3
      exact ⟨by rw [HP.out.1,HP.out.2.1,HP.out.2.2,HK.out,←hn.out];rfl,rfl⟩
theorem extract_list (s:ByteArray) (K:Nat):(s.extract 0 K).data.toList=s.data.toList.take K:=by
 simp
theorem atoi_ok (s:ByteArray) (n:Nat) (w:World) (hs:s.size≤140737488351232) (h:Lib.atoiAll s.data.toList=.ok (n:Int)) :
  Calls Tryz.prog 116 #[.string s] w fun e w'=>e=.returned (.tuple #[.int .i64 n,.nilIface])∧Below w.heap.size w w':=by
 refine (Any.strconv_Atoi_ok Tryz.laysC172 s (by omega) n h w).mono ?_
 rintro e w' ⟨rfl,rfl|⟨t,rfl⟩⟩
 ·exact ⟨rfl,b_ _ _⟩
 ·exact ⟨rfl,Lib.bytesWorld_below _ _ _⟩
theorem atoi_range (s:ByteArray) (w:World) (hs:s.size≤140737488351232) (h:Lib.atoiAll s.data.toList=.range) (hE:ErrAt w) :
  Calls Tryz.prog 116 #[.string s] w fun e w'=>∃n tp p,e=.returned (.tuple #[.int .i64 n,.iface tp p])∧Below w.heap.size w w':=by
 obtain ⟨tp,p,hv⟩:=hE
 refine (Any.strconv_Atoi_range Tryz.laysC172 s (by omega) h (.iface tp p) w hv (.inr ⟨tp,p,rfl⟩)).mono ?_
 rintro e w' ⟨N,rfl,_,_,hb⟩
 exact ⟨_,_,_,rfl,hb⟩
theorem parse_any (s:ByteArray) (w:World) (hs:s.size≤140737488351232) (hE:ErrAt w) :
  Calls Tryz.prog 102 #[.string s] w fun e w'=>e=.returned (.tuple #[.int .i64 (pV s.data.toList),.int .i64 (pN s.data.toList),.int .i64 (pE s.data.toList)])∧Below w.heap.size w w':=by
 by_cases hl0:s.size=0
 ·have hn:s.data.toList=[]:=List.eq_nil_of_length_eq_zero (by simpa using hl0)
  have hs0:s=⟨#[]⟩:=ByteArray.ext (Array.toList_inj.1 hn)
  subst hs0
  rw [pE_nil.1,pE_nil.2.1,pE_nil.2.2]
  clear hl0 hn
  go_enter Tryz.func102,Tryz.ntmps102
  go_wp2_with fail
  go_ret3
  exact ⟨rfl,b_ _ _⟩
 have hne:s.data.toList≠[]:=by
  intro e
  have:=congrArg List.length e
  exact hl0 (show s.data.toList.length=0 from this)
 have HNE:=h_ hne
 have HL:Hid (dgK s.data.toList≤s.size):=h_ (by simpa using dgK_le s.data.toList)
 have hpos:0<s.size:=by omega
 have hse:s.toList.isEmpty=false:=by
  rw [Lib.toList_data]
  cases h:s.data.toList with
  |nil=>exact absurd h hne
  |cons a b=>rfl
 have HH:=h_ (head_some hpos)
 have HD:=h_ (cdigits_any s w hs)
 have HER:=h_ hE
 clear hne hE
 obtain ⟨K,hK⟩:∃K,dgK s.data.toList=K:=⟨_,rfl⟩
 rw [hK] at HD
 have HK:=h_ hK
 have hKs:K≤s.size:=by rw [←hK];exact HL.out
 clear hK
 go_enter Tryz.func102,Tryz.ntmps102
 go_wp2_with fail
 refine HD.out.mono ?_
 rintro e w1 ⟨rfl,rfl⟩
 by_cases hbad:K=0∨(1<K∧s[0]=48)
 ·have HP:=h_ (p_form HNE.out (by rw [HK.out,HH.out];simpa using hbad))
  rcases hbad with rfl|⟨h1,h2⟩
  ·have e:(((0:Nat):Int)==0)=true:=rfl
   go_wp2_with fail
   go_ret3
   exact ⟨by rw [HP.out.1,HP.out.2.1,HP.out.2.2];rfl,b_ _ _⟩
  ·have e:((K:Int)==0)=false:=by simp only [beq_eq_false_iff_ne];omega
   have e1:(1:Int)<K:=by omega
   have e2:((s[0].toNat:Int)==48)=true:=by rw [h2];rfl
   go_wp2_with fail
   go_ret3
   exact ⟨by rw [HP.out.1,HP.out.2.1,HP.out.2.2];rfl,b_ _ _⟩
 ·have HB:=h_ hbad
  have hp:0<K:=by omega
  have e:((K:Int)==0)=false:=by simp only [beq_eq_false_iff_ne];omega
  have hcase:(¬(1:Int)<K)∨((1:Int)<K∧((s[0].toNat:Int)==48)=false):=by
   by_cases h1:1<K
   ·refine .inr ⟨by omega,?_⟩
    have h2:¬s[0]=48:=fun h2=>hbad (.inr ⟨h1,h2⟩)
    rw [beq_eq_false_iff_ne]
    intro e
    exact h2 (UInt8.toNat.inj (by rw [show (48:UInt8).toNat=48 from rfl];omega))
   ·exact .inl (by omega)
  clear hbad
  go_upto_region 4 with fail
  go_cut [22] (fun v wx=>v=.bool false∧wx=w)
  case first =>
   rcases hcase with h1|⟨h1,h2⟩
   ·go_wp2_with fail
    go_meet
    exact ⟨rfl,rfl⟩
   ·go_wp2_with fail
    go_meet
    exact ⟨rfl,rfl⟩
  case rest =>
   obtain ⟨rfl,rfl⟩:=hcut
   clear e
   have hxs:(s.extract 0 K).size≤140737488351232:=by rw [ByteArray.size_extract];omega
   have hxl:=extract_list s K
   have hat:Lib.atoiAll (s.extract 0 K).data.toList=if dval (s.data.toList.take K)≤9223372036854775807 then .ok (dval (s.data.toList.take K):Int) else .range:=by
    rw [hxl]
    have ht:=dgK_take s.data.toList
    rw [HK.out] at ht
    refine atoi_digits _ ht ?_
    intro e
    have:=congrArg List.length e
    have e2:s.data.toList.length=s.size:=rfl
    rw [List.length_take,e2,List.length_nil] at this
    omega
   clear hxl
   by_cases hv:dval (s.data.toList.take K)≤9223372036854775807
   ·rw [if_pos hv] at hat
    have HP:=h_ (p_ok HNE.out (by rw [HK.out,HH.out];simpa using HB.out) (by rw [HK.out];exact hv))
    have HA:=h_ (atoi_ok _ _ wc hxs hat)
    clear hat hxs hv
    go_wp2_with fail
    refine HA.out.mono ?_
    rintro e w1 ⟨rfl,hb⟩
    go_wp2_with fail
    go_ret3
    exact ⟨by rw [HP.out.1,HP.out.2.1,HP.out.2.2,HK.out];rfl,hb⟩
   ·rw [if_neg hv] at hat
    have HP:=h_ (p_num HNE.out (by rw [HK.out,HH.out];simpa using HB.out) (by rw [HK.out];omega))
    have HA:=h_ (atoi_range _ wc hxs hat HER.out)
    clear hat hxs hv
    go_wp2_with fail
    refine HA.out.mono ?_
    rintro e w1 ⟨n,tp,p,rfl,hb⟩
    go_wp2_with fail
    go_ret3
    exact ⟨by rw [HP.out.1,HP.out.2.1,HP.out.2.2];rfl,hb⟩
end Go.Proofs.YtcddbfdbhjkjgaaGreatDoor
namespace Go.Proofs.YtcddbfdbhjkjgaaGreatDoor
open Go.RowKit
section
variable {P:Program} {ops:Array Oper} {Q:Exit→Act→World→Prop}
def updV (vals:Nat→Option Value) (i:Nat) (v:Value):Nat→Option Value:=fun j=>if j=i then some v else vals j
theorem updV_same (vals:Nat→Option Value) (i:Nat) (v:Value):updV vals i v i=some v:=if_pos rfl
theorem updV_ne (vals:Nat→Option Value) {i j:Nat} (v:Value) (h:j≠i):updV vals i v j=vals j:=if_neg h
def put1 (ops:Array Oper) (vals:Nat→Option Value) (a:Act) (i:Nat):Act :=
 match vals i,ops[i]? with
 |some v,some o=>a.put o.dst v
 |_,_=>a
def puts (ops:Array Oper) (vals:Nat→Option Value) (L:List Nat) (a:Act):Act:=L.foldl (put1 ops vals) a
theorem put_comm {a:Act} {d e:Option Tmp} {u v:Value} (h:d=none∨e=none∨d≠e):(a.put d u).put e v=(a.put e v).put d u:=by
 cases d with
 |none=>rfl
 |some d =>
  cases e with
  |none=>rfl
  |some e =>
   have hne:d≠e:=by
    rcases h with h|h|h
    ·cases h
    ·cases h
    ·exact fun hh=>h (by rw [hh])
   show ({ a with tmps:=(a.tmps.setIfInBounds d u).setIfInBounds e v }:Act)={ a with tmps:=(a.tmps.setIfInBounds e v).setIfInBounds d u }
   rw [Array.setIfInBounds_comm _ _ hne]
theorem puts_put {vals:Nat→Option Value} {d:Option Tmp} {v:Value}:∀(L:List Nat) (a:Act),(∀j∈L,∀o,ops[j]?=some o→o.dst=none∨d=none∨o.dst≠d)→(puts ops vals L a).put d v=puts ops vals L (a.put d v)
 |[],a,_=>rfl
 |j::L,a,h=>by
  show (puts ops vals L (put1 ops vals a j)).put d v=puts ops vals L (put1 ops vals (a.put d v) j)
  rw [puts_put L _ (fun k hk=>h k (by simp [hk]))]
  congr 1
  unfold put1
  split
  ·rename_i u o hu ho
   exact put_comm (h j (by simp) o ho)
  ·rfl
theorem puts_upd {vals:Nat→Option Value} {i:Nat} {v:Value}:∀(L:List Nat) (a:Act),i∉L→puts ops (updV vals i v) L a=puts ops vals L a
 |[],a,_=>rfl
 |j::L,a,h=>by
  have hj:j≠i:=fun e=>h (by rw [e];simp)
  show puts ops (updV vals i v) L (put1 ops (updV vals i v) a j)=puts ops vals L (put1 ops vals a j)
  rw [puts_upd L _ (fun e=>h (by simp [e]))]
  congr 1
  unfold put1
  rw [updV_ne vals v hj]
theorem puts_set {vals:Nat→Option Value} {i:Nat} {o:Oper} {v:Value} (ho:ops[i]?=some o) (hv:vals i=none):∀(L:List Nat) (a:Act),L.Nodup→i∈L→(∀j∈L,j≠i→∀p,ops[j]?=some p→p.dst=none∨o.dst=none∨p.dst≠o.dst) →
  puts ops (updV vals i v) L a=(puts ops vals L a).put o.dst v
 |[],a,_,hi,_=>by simp at hi
 |j::L,a,hn,hi,hd=>by
  rw [List.nodup_cons] at hn
  by_cases hj:j=i
  ·subst hj
   show puts ops (updV vals j v) L (put1 ops (updV vals j v) a j)=(puts ops vals L (put1 ops vals a j)).put o.dst v
   rw [puts_upd L _ hn.1,puts_put L _ (fun k hk p hp=>hd k (by simp [hk]) (fun e=>hn.1 (e ▸ hk)) p hp)]
   congr 1
   unfold put1
   rw [updV_same,ho,hv]
  ·show puts ops (updV vals i v) L (put1 ops (updV vals i v) a j)=(puts ops vals L (put1 ops vals a j)).put o.dst v
   have hiL:i∈L:=by
    rcases List.mem_cons.1 hi with h|h
    ·exact absurd h.symm hj
    ·exact h
   rw [puts_set ho hv L _ hn.2 hiL (fun k hk=>hd k (by simp [hk]))]
   congr 2
   unfold put1
   rw [updV_ne vals v hj]
def freeB (ops:Array Oper):Bool :=
 ((List.range ops.size).all fun i=>(List.range ops.size).all fun j=>i==j || (match ops[i]?,ops[j]? with|some o,some p=>o.dst.isNone || p.dst.isNone || o.dst != p.dst|_,_=>true)) &&
 ((List.range ops.size).all fun i=>match ops[i]? with|some o=>o.guard.isNone&&o.after.all (fun e=>!Region.binds .any e || decide (e.on<i))|none=>true)
theorem freeB_dst (h:freeB ops=true) {i j:Nat} {o p:Oper} (hi:ops[i]?=some o) (hj:ops[j]?=some p) (hne:j≠i):p.dst=none∨o.dst=none∨p.dst≠o.dst:=by
 unfold freeB at h
 rw [Bool.and_eq_true] at h
 have h1:=List.all_eq_true.1 (List.all_eq_true.1 h.1 j (List.mem_range.2 (Array.getElem?_eq_some_iff.1 hj).1)) i (List.mem_range.2 (Array.getElem?_eq_some_iff.1 hi).1)
 simp only [hi,hj,Bool.or_eq_true,beq_iff_eq,Option.isNone_iff_eq_none,bne_iff_ne] at h1
 rcases h1 with h1|(h1|h1)|h1
 ·exact absurd h1 hne
 ·exact .inl h1
 ·exact .inr (.inl h1)
 ·exact .inr (.inr h1)
theorem freeB_op (h:freeB ops=true) {i:Nat} {o:Oper} (hi:ops[i]?=some o):o.guard=none∧∀e∈o.after,Region.binds .any e=true→e.on<i:=by
 unfold freeB at h
 rw [Bool.and_eq_true] at h
 have h1:=List.all_eq_true.1 h.2 i (List.mem_range.2 (Array.getElem?_eq_some_iff.1 hi).1)
 simp only [hi,Bool.and_eq_true,Option.isNone_iff_eq_none,Array.all_eq_true_iff_forall_mem,Bool.or_eq_true,Bool.not_eq_true',decide_eq_true_eq] at h1
 refine ⟨h1.1,fun e he hb=>?_⟩
 rcases h1.2 e he with h2|h2
 ·rw [h2] at hb;cases hb
 ·exact h2
theorem all_come (h:freeB ops=true) {listed:Array Bool} (hr:Region.ready .any ops listed=[]):∀i,i<ops.size→listed.getD i true=true:=by
 intro i
 induction i using Nat.strongRecOn with
 |_ i ih =>
  intro hi
  by_cases c:listed.getD i true=true
  ·exact c
  ·have c':listed.getD i true=false:=by simpa using c
   have hm:i∈Region.ready .any ops listed:=by
    refine mem_ready.2 ⟨c',ops[i],Array.getElem?_eq_getElem hi,fun e he hb=>?_⟩
    have h1:=(freeB_op h (Array.getElem?_eq_getElem hi)).2 e he hb
    have h2:=ih e.on h1 (by omega)
    rw [Array.getD_eq_getD_getElem?] at h2 ⊢
    cases hh:listed[e.on]? with
    |some b=>rw [hh] at h2;exact h2
    |none =>
     exfalso
     have h3:=Array.getElem?_eq_none_iff.1 hh
     rw [Array.getD_eq_getD_getElem?,Array.getElem?_eq_none (by omega)] at c'
     cases c'
   rw [hr] at hm
   cases hm
theorem wpAny_free (base:Act) (hB:freeB ops=true) (I:(Nat→Option Value)→World→Prop)
  (hstep:∀vals w i o,I vals w→ops[i]?=some o→vals i=none→(∀e∈o.after,Region.binds .any e=true→(vals e.on).isSome=true) →
   o.wp P (puts ops vals (List.range ops.size) base) w (fun a' w'=>∃v,a'=(puts ops vals (List.range ops.size) base).put o.dst v∧I (updV vals i v) w') Q)
  (hdone:∀vals w,I vals w→(∀i,i<ops.size→(vals i).isSome=true)→Q .normal (puts ops vals (List.range ops.size) base) w) :
  ∀(fuel:Nat) (listed:Array Bool) (vals:Nat→Option Value) (w:World) (S:List Nat),listed.size=ops.size→(∀i,i<ops.size→listed.getD i true=(vals i).isSome)→S.length≤fuel→(∀i,i<ops.size→vals i=none→i∈S)→I vals w →
   wpAny P .any ops Q fuel listed (puts ops vals (List.range ops.size) base) w
 |0,listed,vals,w,S,hs,hl,hf,hS,hI=>by
  have hall:∀i,i<ops.size→(vals i).isSome=true:=fun i hi=>by
   cases hv:vals i with
   |some v=>rfl
   |none =>
    have:=hS i hi hv
    rw [List.eq_nil_of_length_eq_zero (Nat.le_zero.1 hf)] at this
    cases this
  refine ⟨?_,hdone vals w hI hall⟩
  refine List.eq_nil_iff_forall_not_mem.2 fun i hi=>?_
  obtain ⟨h1,o,ho,_⟩:=mem_ready.1 hi
  have hlt:=(Array.getElem?_eq_some_iff.1 ho).1
  rw [hl i hlt,hall i hlt] at h1
  cases h1
 |fuel+1,listed,vals,w,S,hs,hl,hf,hS,hI=>by
  refine ⟨fun hr=>hdone vals w hI (fun i hi=>by rw [←hl i hi];exact all_come hB hr i hi),fun i hi=>?_⟩
  obtain ⟨h1,o,ho,hdep⟩:=mem_ready.1 hi
  have hlt:=(Array.getElem?_eq_some_iff.1 ho).1
  have hv:vals i=none:=by
   rw [hl i hlt] at h1
   simpa using h1
  have hst:=hstep vals w i o hI ho hv (fun e he hb=>by
   have h2:=hdep e he hb
   have hlt2:e.on<ops.size:=by have:=(freeB_op hB ho).2 e he hb;omega
   rw [←hl e.on hlt2]
   rw [Array.getD_eq_getD_getElem?] at h2 ⊢
   cases hh:listed[e.on]? with
   |some b=>rw [hh] at h2;exact h2
   |none=>rfl)
  have hg:=(freeB_op hB ho).1
  unfold wpOp
  rw [ho]
  simp only
  rw [if_pos (by simp [Region.wanted,hg])]
  left
  refine Oper.wp_mono (fun a' w' hh=>?_) hst
  obtain ⟨v,rfl,hI'⟩:=hh
  rw [←puts_set ho hv (List.range ops.size) base List.nodup_range (List.mem_range.2 hlt) (fun j hj hne p hp=>freeB_dst hB ho hp hne)]
  refine wpAny_free base hB I hstep hdone fuel _ (updV vals i v) w' (S.erase i) (by simpa using hs) (fun j hj=>?_) ?_ (fun j hj hn=>?_) hI'
  ·by_cases c:j=i
   ·subst c
    rw [updV_same,Array.getD_eq_getD_getElem?,Array.getElem?_setIfInBounds_self_of_lt (by omega)]
    rfl
   ·rw [updV_ne vals v c,←hl j hj,Array.getD_eq_getD_getElem?,Array.getD_eq_getD_getElem?,Array.getElem?_setIfInBounds_ne (fun e=>c e.symm)]
  ·have:=List.length_erase_of_mem (hS i hlt hv)
   omega
  ·by_cases c:j=i
   ·subst c
    rw [updV_same] at hn
    cases hn
   ·rw [updV_ne vals v c] at hn
    exact (List.mem_erase_of_ne c).2 (hS j hj hn)
def slotOf (ops:Array Oper) (j:Nat):Nat:=((ops[j]?).bind (·.dst)).getD 0
theorem puts_other (vals:Nat→Option Value) (k:Nat):∀(L:List Nat) (a:Act),(∀j∈L,∀o,ops[j]?=some o→o.dst≠some k)→(puts ops vals L a).tmps[k]?=a.tmps[k]?
 |[],a,_=>rfl
 |j::L,a,h=>by
  show (puts ops vals L (put1 ops vals a j)).tmps[k]?=_
  rw [puts_other vals k L _ (fun i hi=>h i (by simp [hi]))]
  unfold put1
  split
  ·rename_i v o hv ho
   have:=h j (by simp) o ho
   unfold Act.put
   split
   ·rename_i d hd
    rw [hd] at this
    exact Array.getElem?_setIfInBounds_ne (fun e=>this (by rw [e]))
   ·rfl
  ·rfl
theorem puts_at {vals:Nat→Option Value} {i:Nat} {o:Oper} {v:Value} {d:Tmp} (ho:ops[i]?=some o) (hd:o.dst=some d) (hv:vals i=some v):∀(L:List Nat) (a:Act),L.Nodup→i∈L→d<a.tmps.size→(∀j∈L,j≠i→∀p,ops[j]?=some p→p.dst=none∨o.dst=none∨p.dst≠o.dst)→(puts ops vals L a).tmps[d]?=some v
 |[],a,_,hi,_,_=>by simp at hi
 |j::L,a,hn,hi,hsz,hdd=>by
  rw [List.nodup_cons] at hn
  by_cases hj:j=i
  ·subst hj
   show (puts ops vals L (put1 ops vals a j)).tmps[d]?=_
   rw [puts_other vals d L _ (fun k hk p hp e=>by
    rcases hdd k (by simp [hk]) (fun e=>hn.1 (e ▸ hk)) p hp with h|h|h
    ·rw [h] at e;cases e
    ·rw [h] at hd;cases hd
    ·exact h (by rw [e,hd]))]
   unfold put1
   rw [hv,ho]
   simp only [Act.put,hd]
   exact Array.getElem?_setIfInBounds_self_of_lt hsz
  ·show (puts ops vals L (put1 ops vals a j)).tmps[d]?=_
   have hiL:i∈L:=by
    rcases List.mem_cons.1 hi with h|h
    ·exact absurd h.symm hj
    ·exact h
   refine puts_at ho hd hv L _ hn.2 hiL ?_ (fun k hk=>hdd k (by simp [hk]))
   unfold put1
   split
   ·unfold Act.put
    split <;> simp [hsz]
   ·exact hsz
def depsB (ops:Array Oper) (D:Nat→List Nat):Bool :=
 (List.range ops.size).all fun i=>match ops[i]? with
  |some o=>(D i).all fun j=>decide (j<i)&&o.after.any (fun e=>e.on==j&&Region.binds .any e)&&(match ops[j]? with|some p=>p.dst.isSome|none=>false)
  |none=>true
def outB (ops:Array Oper) (k:Nat):Bool:=ops.all fun o=>o.dst != some k
def inB (ops:Array Oper) (n:Nat):Bool:=ops.all fun o=>match o.dst with|some d=>decide (d<n)|none=>true
def coverB (ops:Array Oper) (last:Nat):Bool :=
 (List.range last).all fun i=>(List.range (last+1)).any fun k=>decide (i<k)&&(match ops[k]? with|some o=>o.after.any (fun e=>e.on==i&&Region.binds .any e)|none=>false)
theorem cover_all {last:Nat} (hc:coverB ops last=true) {p:Nat→Prop} (hp:∀k o,k≤last→ops[k]?=some o→(k=last∨p k)→∀e∈o.after,Region.binds .any e=true→p e.on):∀i,i<last→p i:=by
 have main:∀d i,i<last→last-i≤d→p i:=by
  intro d
  induction d with
  |zero=>intro i hi hd;omega
  |succ d ih =>
   intro i hi hd
   unfold coverB at hc
   obtain ⟨k,hk,hh⟩:=List.any_eq_true.1 (List.all_eq_true.1 hc i (List.mem_range.2 hi))
   rw [Bool.and_eq_true,decide_eq_true_eq] at hh
   have hkl:=List.mem_range.1 hk
   obtain ⟨h1,h2⟩:=hh
   cases ho:ops[k]? with
   |none=>rw [ho] at h2;cases h2
   |some o =>
    rw [ho] at h2
    simp only at h2
    rw [←Array.any_toList] at h2
    obtain ⟨e,he0,h3⟩:=List.any_eq_true.1 h2
    have he:e∈o.after:=Array.mem_toList_iff.1 he0
    rw [Bool.and_eq_true,beq_iff_eq] at h3
    have:=hp k o (by omega) ho (by
     by_cases c:k=last
     ·exact .inl c
     ·exact .inr (ih k (by omega) (by omega))) e he h3.2
    rw [h3.1] at this
    exact this
 exact fun i hi=>main (last-i) i hi (n_ _)
theorem region_free (base:Act) (id:Nat) (w0:World) (hm:P.follows .mixedOrders=true) (last:Nat) (hlast:ops.size=last+1) (hB:freeB ops=true) (hc:coverB ops last=true) (D:Nat→List Nat) (hD:depsB ops D=true) (hin:inB ops base.tmps.size=true)
  (F:Nat→Value→World→Prop) (G:World→Prop) (Fin:(Nat→Option Value)→World→Prop)
  (hmono:∀j v w w',F j v w→Below w.heap.size w w'→F j v w') (h0:G w0.drew)
  (hstep:∀i o,i<last→ops[i]?=some o→∀(a:Act) (w:World),G w→(∀k,outB ops k=true→a.eval (.tmp k)=base.eval (.tmp k))→(∀j∈D i,F j (a.eval (.tmp (slotOf ops j))) w) →
   o.wp P a w (fun a' w'=>∃v,a'=a.put o.dst v∧F i v w'∧G w'∧Below w.heap.size w w') Q)
  (hfin:∀o,ops[last]?=some o→∀(a:Act) (vals:Nat→Option Value) (w:World),G w→(∀k,outB ops k=true→a.eval (.tmp k)=base.eval (.tmp k))→(∀j∈D last,F j (a.eval (.tmp (slotOf ops j))) w∧vals j=some (a.eval (.tmp (slotOf ops j)))) →
   o.wp P a w (fun a' w'=>∃v,a'=a.put o.dst v∧∀vals':Nat→Option Value,(∀j,j<last→vals' j=vals j)→Fin vals' w') Q)
  (hdone:∀vals w,Fin vals w→(∀i,i<last+1→(vals i).isSome=true)→Q .normal (puts ops vals (List.range (last+1)) base) w) :
  (Code.region id ops true).wp P Q base w0:=by
 have hout:∀(vals:Nat→Option Value) (k:Nat),outB ops k=true→(puts ops vals (List.range ops.size) base).eval (.tmp k)=base.eval (.tmp k):=fun vals k hk=>by
  show (puts ops vals (List.range ops.size) base).tmps.getD k undef=base.tmps.getD k undef
  rw [Array.getD_eq_getD_getElem?,Array.getD_eq_getD_getElem?,puts_other vals k _ _ (fun j _ o ho e=>by
   unfold outB at hk
   have:=(Array.all_eq_true_iff_forall_mem.1 hk) o (Array.mem_of_getElem? ho)
   rw [e] at this
   simp at this)]
 have hget:∀(vals:Nat→Option Value) (i:Nat) (o:Oper),ops[i]?=some o→(∀e∈o.after,Region.binds .any e=true→(vals e.on).isSome=true)→∀j∈D i,j<i∧vals j=some ((puts ops vals (List.range ops.size) base).eval (.tmp (slotOf ops j))):=fun vals i o ho hdep j hj=>by
  have hlt:=(Array.getElem?_eq_some_iff.1 ho).1
  unfold depsB at hD
  have h1:=List.all_eq_true.1 hD i (List.mem_range.2 hlt)
  rw [ho] at h1
  have h2:=List.all_eq_true.1 h1 j hj
  simp only [Bool.and_eq_true,decide_eq_true_eq] at h2
  obtain ⟨⟨h3,h4⟩,h5⟩:=h2
  rw [←Array.any_toList] at h4
  obtain ⟨e,he0,h6⟩:=List.any_eq_true.1 h4
  have he:e∈o.after:=Array.mem_toList_iff.1 he0
  rw [Bool.and_eq_true,beq_iff_eq] at h6
  have h7:=hdep e he h6.2
  rw [h6.1] at h7
  obtain ⟨v,hv⟩:=x_ h7
  refine ⟨h3,?_⟩
  cases hp:ops[j]? with
  |none=>rw [hp] at h5;cases h5
  |some p =>
   rw [hp] at h5
   obtain ⟨d,hd⟩:=x_ h5
   have hs:slotOf ops j=d:=by unfold slotOf;rw [hp];show (p.dst).getD 0=d;rw [hd];rfl
   have hdi:d<base.tmps.size:=by
    unfold inB at hin
    have:=(Array.all_eq_true_iff_forall_mem.1 hin) p (Array.mem_of_getElem? hp)
    rw [hd] at this
    simpa using this
   rw [hs,hv]
   show some v=some ((puts ops vals (List.range ops.size) base).tmps.getD d undef)
   rw [Array.getD_eq_getD_getElem?,puts_at hp hd hv (List.range ops.size) base List.nodup_range (List.mem_range.2 (by omega)) hdi (fun k hk hne q hq=>freeB_dst hB hp hq hne)]
   rfl
 refine wp_region_any hm ?_
 have hb0:base=puts ops (fun _=>none) (List.range ops.size) base:=by
  have:∀(L:List Nat) (a:Act),puts ops (fun _=>none) L a=a:=fun L=>by
   induction L with
   |nil=>intro a;rfl
   |cons j L ih=>intro a;exact ih a
  rw [this]
 have main:=wpAny_free (P:=P) (Q:=Q) base hB
  (fun vals w=>(vals last=none→G w∧∀j v,vals j=some v→F j v w)∧(vals last≠none→Fin vals w∧∀j,j<last+1→(vals j).isSome=true)∧(∀j p,vals j≠none→ops[j]?=some p→∀e∈p.after,Region.binds .any e=true→(vals e.on).isSome=true))
  (fun vals w i o hI ho hv hdep=>?_) (fun vals w hI hall=>?_) ops.size (Array.replicate ops.size false) (fun _=>none) w0.drew (List.range ops.size) (by simp) (fun i hi=>?_) (by simp) (fun i hi _=>List.mem_range.2 hi) ⟨fun _=>⟨h0,fun j v h=>by cases h⟩,fun h=>absurd rfl h,fun j p h=>absurd rfl h⟩
 ·rw [←hb0] at main
  exact main
 ·have hlt:=(Array.getElem?_eq_some_iff.1 ho).1
  have hln:vals last=none:=by
   cases hl:vals last with
   |none=>rfl
   |some v =>
    have:=(hI.2.1 (by rw [hl];simp)).2 i (by omega)
    rw [hv] at this
    cases this
  obtain ⟨hG,hF⟩:=hI.1 hln
  have hg2:=hget vals i o ho hdep
  have hcl:∀v,∀j p,updV vals i v j≠none→ops[j]?=some p→∀e∈p.after,Region.binds .any e=true→(updV vals i v e.on).isSome=true:=fun v j p hj hp e he hb=>by
   by_cases c:e.on=i
   ·rw [c,updV_same];rfl
   ·rw [updV_ne vals v c]
    by_cases d:j=i
    ·subst d
     rw [ho] at hp
     injection hp with hp
     subst hp
     exact hdep e he hb
    ·rw [updV_ne vals v d] at hj
     exact hI.2.2 j p hj hp e he hb
  by_cases c:i=last
  ·subst c
   refine Oper.wp_mono (fun a' w' hh=>?_) (hfin o ho _ vals w hG (hout vals) (fun j hj=>⟨hF j _ (hg2 j hj).2,(hg2 j hj).2⟩))
   obtain ⟨v,rfl,hf⟩:=hh
   refine ⟨v,rfl,fun h=>?_,fun _=>⟨hf _ (fun j hj=>updV_ne vals v (by omega)),fun j hj=>?_⟩,hcl v⟩
   ·rw [updV_same] at h;cases h
   ·by_cases d:j=i
    ·rw [d,updV_same];rfl
    ·rw [updV_ne vals v d]
     refine cover_all hc (p:=fun j=>(vals j).isSome=true) (fun k q hk hq hkk e he hb=>?_) j (by omega)
     rcases hkk with rfl|hkk
     ·rw [ho] at hq
      injection hq with hq
      subst hq
      exact hdep e he hb
     ·exact hI.2.2 k q (fun hn=>by rw [hn] at hkk;cases hkk) hq e he hb
  ·refine Oper.wp_mono (fun a' w' hh=>?_) (hstep i o (by omega) ho _ w hG (hout vals) (fun j hj=>hF j _ (hg2 j hj).2))
   obtain ⟨v,rfl,hf,hG',hb⟩:=hh
   have hl':updV vals i v last=none:=by rw [updV_ne vals v (fun e=>c e.symm)];exact hln
   refine ⟨v,rfl,fun _=>⟨hG',fun j u hu=>?_⟩,fun h=>absurd hl' h,hcl v⟩
   by_cases d:j=i
   ·subst d
    rw [updV_same] at hu
    injection hu with hu
    rw [←hu]
    exact hf
   ·rw [updV_ne vals v d] at hu
    exact hmono j u w w' (hF j u hu) hb
 ·have hls:vals last≠none:=fun h=>by
   have:=hall last (by omega)
   rw [h] at this
   cases this
  obtain ⟨h1,h2⟩:=hI.2.1 hls
  rw [hlast]
  exact hdone vals w h1 h2
 ·rw [Array.getD_eq_getD_getElem?,Array.getElem?_replicate,if_pos hi]
  rfl
end
end Go.Proofs.YtcddbfdbhjkjgaaGreatDoor
