import Derived.Test.YtocecpghoncmgaaGreatDoorQh
import Derived.Test.YtocecpghoncmgaaGreatDoorRows
import Derived.WalkKit
import Derived.WalkSpells
import Derived.Lib.Hide
import Derived.WalkLawsBesides
import Derived.Deep.Light
import Derived.Test.YtocecpghoncmgaaGreatDoorShelf
import Derived.Lib.LaidTab
import Derived.Stop.LaidErr
import Derived.Deep.DeepCutAuto
import Derived.Deep.RegionHeld3
import Derived.Lib.ItoaNum
import Derived.Laws.IdiomStrings
import Derived.LaidLaws
import Derived.Lib.AtoiAll
import Derived.Shelf.Strconv.ErrVarAll
import Derived.Deep.CutBlock
import Derived.Laws.Rows
import Derived.Deep.QuietTactic
import Derived.BigQuiet
import Derived.Shelf.Strings.Prefix
import Derived.Shelf.Small.Strs
import Derived.Shelf.Strconv.Clone
import Derived.RegionTactic
set_option maxHeartbeats 12800000
set_option maxRecDepth 20000
namespace Go.Proofs.YtocecpghoncmgaaGreatDoor
open Go.RowKit Go.ChangeShapes
def PowTab (w:World):Prop:=∃t fr,w.heap[2]?=some (.cells (Lib.pow10Tab.map λ z=>Value.int .u64 z).toArray t fr)
theorem PowTab.below {w w':World} (h:PowTab w) (hb:Below w.heap.size w w'):PowTab w':=by
 obtain ⟨t,fr,h⟩:=h;refine ⟨t,fr,?_⟩;rw [hb.block _ ?_]
 ·exact h
 ·rcases Nat.lt_or_ge 2 w.heap.size with h'|h'
  ·exact h'
  ·rw [Array.getElem?_eq_none h'] at h;cases h
theorem grow_below (w:World) (k:Nat) (os:Array Obj):Below w.heap.size w (Sort.grow (w.drewN k) os) where
 os:=by induction k with|zero=>rfl|succ k ih=>exact ih
 tape:=by induction k with|zero=>rfl|succ k ih=>exact ih
 output:=by induction k with|zero=>rfl|succ k ih=>exact ih
 size:=by simp
 block:=λ k hk=>by
  rw [Sort.heap_grow_old _ _ (by simpa using hk)];simp
theorem itoa_any (n:Int) (w:World) (h0:-9223372036854775808<=n) (h1:n<=9223372036854775807) (hT:PowTab w) :
  Calls Tryz.prog 143 #[.int .i64 n] w λ e w'=>e=.returned (.string ⟨(Lib.itoa n).toArray⟩)/\Below w.heap.size w w':=by
 refine (Any.strconv_Itoa Tryz.laysM171 n h0 h1 w ?_).mono ?_
 ·obtain ⟨t,fr,h⟩:=hT;unfold Lib.TabIs World.var?;rw [show Program.globalNamed Tryz.prog _=some 2 from by kernel_rfl];simp only [Option.bind_some,h]
 ·rintro e w' ⟨rfl,k,os,rfl⟩;exact ⟨rfl,grow_below w k os⟩
def ErrAt (w:World):Prop:=∃tp p,w.cell? ⟨7,0,none⟩=some (.iface tp p)
theorem rsize_any (n:Int) (w:World) (h0:-9223372036854775808<=n) (h1:n<=9223372036854775807) :
  Calls Tryz.prog 157 #[.int .i64 n] w λ e w'=>e=.returned (.int .u64 (n.natAbs:Int))/\w=w':=by
 by_cases h:n<0
 all_goals
  go_enter Tryz.func157,Tryz.ntmps157
  go_wp2
  go_ret;refine ⟨?_,rfl⟩;simp;omega
theorem text_any (n:Int) (w:World) (h0:-9223372036854775808<=n) (h1:n<=9223372036854775807) (hT:PowTab w) :
  Calls Tryz.prog 85 #[.int .i64 n] w λ e w'=>e=.returned (.string ⟨(Lib.itoa n).toArray⟩)/\Below w.heap.size w w':=by
 have HT:=h_ hT;clear hT;go_enter Tryz.func85,Tryz.ntmps85;go_wp2_with fail;refine (itoa_any n _ h0 h1 HT.out).mono ?_;rintro e w1 ⟨rfl,hb⟩;go_wp2_with fail;go_ret;exact ⟨rfl,hb⟩
theorem powTab_of {n:String} {rest:List (String×DataW Unit)} {W:World} (hg:Tryz.prog.globalNamed n=some 2)
  (h:laidMet Tryz.prog ((n,Rows.laid_internal_strconv_uint64pow10)::rest) W):PowTab W:=by
 have e:(Rows.laid_internal_strconv_uint64pow10:DataW Unit)=Lib.tabData .u64 Lib.pow10Tab:=by kernel_rfl
 rw [e] at h;have ht:=Lib.tabIs_of_head hg (t:=317) (e:=209) (n:=20) (by kernel_rfl) Tryz.underlying317 Tryz.underlying209 (by kernel_rfl) (by kernel_rfl) h;unfold Lib.TabIs World.var? at ht;rw [hg] at ht;simp only [Option.bind_some] at ht
 split at ht
 ·rename_i cs t fr hh;injection ht with ht;exact ⟨t,fr,by rw [hh,ht]⟩
 ·cases ht
theorem errAt_of {n nm:String} {d:DataW Unit} {rest:List (String×DataW Unit)} {W:World} (hg:Tryz.prog.globalNamed n=some 7)
  (h:laidMet Tryz.prog ((n,.iface nm d)::rest) W):ErrAt W:=by
 obtain ⟨ps,⟨g0,t0,cs0,f0,p0,q0,hg0,ht0,hv0,hd0,_,e0⟩,_,_⟩:=h;obtain rfl:=Option.some.inj (hg.symm.trans hg0);obtain rfl:=Option.some.inj ((show (Tryz.prog.globals[7]?).map (·.type)=some 268 by kernel_rfl).symm.trans ht0);obtain ⟨f1,u,v,hcs,_,_⟩:=iface_of_trod Tryz.underlying268 hd0;have:=World.var?_cell hg hv0 0;obtain ⟨l0⟩:=cs0;simp only at hcs;subst hcs;exact ⟨u,v,by simpa using this⟩
def isDg (c:UInt8):Bool:=decide (48<=c.toNat)&&decide (c.toNat<=57)
theorem isDg_iff {c:UInt8}:isDg c=true ↔ 48<=c.toNat/\c.toNat<=57:=by simp [isDg]
def dgK:List UInt8->Nat
 |[]=>0
 |c::r=>if isDg c=true then dgK r+1 else 0
theorem dgK_le:∀l:List UInt8,dgK l<=l.length
 |[]=>n_ _
 |c::r=>by
  have:=dgK_le r;unfold dgK
  split <;> simp <;> omega
theorem dgK_yes:∀(l:List UInt8) (k:Nat) (hk:k<l.length),k<=dgK l->isDg l[k]=true->k+1<=dgK l
 |c::r,0,_,_,hd=>by
  have hd:isDg c=true:=hd;unfold dgK;rw [if_pos hd];omega
 |c::r,k+1,hk,h,hd=>by
  unfold dgK at h ⊢
  split at h
  ·rw [if_pos (by assumption)];have:=dgK_yes r k (by simpa using hk) (by omega) (by simpa using hd);omega
  ·omega
theorem dgK_no:∀(l:List UInt8) (k:Nat) (hk:k<l.length),k<=dgK l->isDg l[k]=false->k=dgK l
 |c::r,0,_,_,hd=>by
  have hd:isDg c=false:=hd;unfold dgK;rw [hd,if_neg (by decide)]
 |c::r,k+1,hk,h,hd=>by
  unfold dgK at h ⊢
  split at h
  ·rw [if_pos (by assumption)];have:=dgK_no r k (by simpa using hk) (by omega) (by simpa using hd);omega
  ·omega
theorem dgK_digit:∀(l:List UInt8) (k:Nat) (hk:k<l.length),k<dgK l->isDg l[k]=true
 |c::r,0,_,h=>by
  unfold dgK at h
  split at h
  ·simpa
  ·omega
 |c::r,k+1,hk,h=>by
  unfold dgK at h
  split at h
  ·simpa using dgK_digit r k (by simpa using hk) (by omega)
  ·omega
theorem dgK_take (l:List UInt8):∀c∈l.take (dgK l),isDg c=true:=by
 intro c hc;obtain ⟨i,hi,rfl⟩:=List.getElem_of_mem hc;simp only [List.length_take] at hi;rw [List.getElem_take];exact dgK_digit l i (by omega) (by omega)
def dvalF (n:Nat) (l:List UInt8):Nat:=l.foldl (λ n c=>10*n+(c.toNat-48)) n
def dval (l:List UInt8):Nat:=dvalF 0 l
theorem dvalF_ge (l:List UInt8):∀n,n<=dvalF n l:=by
 induction l with
 |nil=>intro n;exact n_ _
 |cons c r ih=>intro n;have:=ih (10*n+(c.toNat-48));simp only [dvalF,List.foldl_cons] at this ⊢;omega
theorem dvalF_append (n:Nat) (a b:List UInt8):dvalF n (a++b)=dvalF (dvalF n a) b:=by
 simp [dvalF,List.foldl_append]
theorem dval_snoc (l:List UInt8) (c:UInt8):dval (l++[c])=10*dval l+(c.toNat-48):=by
 simp [dval,dvalF,List.foldl_append]
theorem dval_mono (l:List UInt8) (i j:Nat) (h:i<=j):dval (l.take i)<=dval (l.take j):=by
 have e:l.take j=l.take i++(l.drop i).take (j-i):=by
  rw [<-List.take_add]
  congr 1
  omega
 rw [e];unfold dval;rw [dvalF_append];exact dvalF_ge _ _
theorem parse_digits:∀(l:List UInt8) (n:Nat),(∀c∈l,isDg c=true)->n<18446744073709551616 ->
  Lib.parseUint10 n l=if dvalF n l<18446744073709551616 then .ok (dvalF n l) else .range
 |[],n,_,hn=>by
  simp [Lib.parseUint10,dvalF,hn]
 |c::r,n,h,hn=>by
  have hc:=isDg_iff.1 (h c (by simp))
  have e:dvalF n (c::r)=dvalF (n*10+(c.toNat-48)) r:=by simp [dvalF,Nat.mul_comm]
  have hge:=dvalF_ge r (n*10+(c.toNat-48));rw [e];unfold Lib.parseUint10;rw [if_pos hc]
  by_cases h1:1844674407370955162<=n
  ·rw [if_pos h1,if_neg (by omega)]
  ·rw [if_neg h1]
   by_cases h2:18446744073709551616<=n*10+(c.toNat-48)
   ·rw [if_pos h2,if_neg (by omega)]
   ·rw [if_neg h2];exact parse_digits r _ (λ c hc=>h c (by simp [hc])) (by omega)
theorem atoi_digits (l:List UInt8) (h:∀c∈l,isDg c=true) (hl:l≠[]) :
  Lib.atoiAll l=if dval l<=9223372036854775807 then .ok (dval l:Int) else .range:=by
 cases l with
 |nil=>exact absurd rfl hl
 |cons c r =>
  have hc:=isDg_iff.1 (h c (by simp));unfold Lib.atoiAll;simp only [if_neg (show ¬(c.toNat=43∨c.toNat=45) by omega)];unfold Lib.parseMag;rw [if_neg hl,parse_digits _ 0 h (by decide)]
  show _=if dvalF 0 (c::r)<=_ then Lib.NumEnd.ok (dvalF 0 (c::r):Int) else .range
  by_cases h1:dvalF 0 (c::r)<18446744073709551616
  ·rw [if_pos h1];simp only [if_neg (show ¬c.toNat=45 by omega)]
   by_cases h2:dvalF 0 (c::r)<=9223372036854775807
   ·rw [if_pos h2,if_neg (by omega),if_neg (by omega)]
   ·rw [if_neg h2,if_pos (by omega)]
  ·rw [if_neg h1,if_neg (by omega)]
def pE (l:List UInt8):Int :=
 if l=[] then 3 else if dgK l=0∨(1<dgK l/\l.head?=some 48) then 4 else if dval (l.take (dgK l))<=9223372036854775807 then 0 else 20
def pV (l:List UInt8):Int:=if pE l=0 then (dval (l.take (dgK l)):Int) else 0
def pN (l:List UInt8):Int:=if pE l=0 then (dgK l:Int) else 0
theorem pE_nil:pE []=3/\pV []=0/\pN []=0:=⟨rfl,rfl,rfl⟩
theorem p_form {l:List UInt8} (h0:l≠[]) (h:dgK l=0∨(1<dgK l/\l.head?=some 48)):pE l=4/\pV l=0/\pN l=0:=by
 have e:pE l=4:=by unfold pE;rw [if_neg h0,if_pos h]
 refine ⟨e,?_,?_⟩
 ·unfold pV;rw [e];rfl
 ·unfold pN;rw [e];rfl
theorem p_ok {l:List UInt8} (h0:l≠[]) (h:¬(dgK l=0∨(1<dgK l/\l.head?=some 48))) (hv:dval (l.take (dgK l))<=9223372036854775807):pE l=0/\pV l=dval (l.take (dgK l))/\pN l=dgK l:=by
 have e:pE l=0:=by unfold pE;rw [if_neg h0,if_neg h,if_pos hv]
 refine ⟨e,?_,?_⟩
 ·unfold pV;rw [if_pos e]
 ·unfold pN;rw [if_pos e]
theorem p_num {l:List UInt8} (h0:l≠[]) (h:¬(dgK l=0∨(1<dgK l/\l.head?=some 48))) (hv:9223372036854775807<dval (l.take (dgK l))):pE l=20/\pV l=0/\pN l=0:=by
 have e:pE l=20:=by unfold pE;rw [if_neg h0,if_neg h,if_neg (by omega)]
 refine ⟨e,?_,?_⟩
 ·unfold pV;rw [e];rfl
 ·unfold pN;rw [e];rfl
theorem dec_one {u:Nat} (h:u<10):Lib.decDigits u=[UInt8.ofNat (48+u)]:=by rw [Lib.decDigits,dif_pos h]
theorem dec_more {u:Nat} (h:¬u<10):Lib.decDigits u=Lib.decDigits (u / 10)++[UInt8.ofNat (48+u % 10)]:=by rw [Lib.decDigits,dif_neg h]
theorem dig_byte_nat {d:Nat} (h:d<10):(UInt8.ofNat (48+d)).toNat=48+d:=by
 rw [UInt8.toNat_ofNat'];omega
theorem dec_digits (u:Nat):∀c∈Lib.decDigits u,isDg c=true:=by
 induction u using Nat.strongRecOn with
 |ind u ih =>
  intro c hc
  by_cases h:u<10
  ·rw [dec_one h] at hc;obtain rfl:=List.mem_singleton.1 hc;exact isDg_iff.2 (by rw [dig_byte_nat h];omega)
  ·rw [dec_more h] at hc;rcases List.mem_append.1 hc with hc|hc
   ·exact ih (u / 10) (by omega) c hc
   ·obtain rfl:=List.mem_singleton.1 hc;have:=dig_byte_nat (d:=u % 10) (by omega);exact isDg_iff.2 (by omega)
theorem dec_pos (u:Nat):0<(Lib.decDigits u).length:=by
 by_cases h:u<10
 ·rw [dec_one h];simp
 ·rw [dec_more h];simp
theorem dec_len {u:Nat} (k:Nat) (h:u<10 ^ (k+1)):(Lib.decDigits u).length<=k+1:=by
 induction k generalizing u with
 |zero=>rw [dec_one (by simpa using h)];simp
 |succ k ih =>
  by_cases h1:u<10
  ·rw [dec_one h1];simp
  ·rw [dec_more h1];have:=ih (u:=u / 10) (by rw [Nat.pow_succ] at h;omega);simp;omega
theorem head_app (l r:List UInt8) (h:l≠[]):(l++r).head?=l.head?:=by cases l with
 |nil=>exact absurd rfl h
 |cons a b=>rfl
theorem isDg_of {c:UInt8} (h1:48<=(c.toNat:Int)) (h2:(c.toNat:Int)<=57):isDg c=true:=isDg_iff.2 ⟨by omega,by omega⟩
theorem isDg_not {c:UInt8} (h:¬(48<=(c.toNat:Int)/\(c.toNat:Int)<=57)):isDg c=false:=by
 cases e:isDg c with
 |false=>rfl
 |true=>exact absurd (isDg_iff.1 e) (by omega)
theorem cdigits_any (s:ByteArray) (w:World) (hs:s.size<=140737488351232) :
  Calls Tryz.prog 303 #[.string s] w λ e w'=>e=.returned (.int .i64 (dgK s.data.toList))/\w=w':=by
 have HL:Hid (dgK s.data.toList<=s.size):=h_ (by simpa using dgK_le s.data.toList);go_enter Tryz.func303,Tryz.ntmps303
 go_wp2
 go_loop [3] (λ i=>∃k:Nat,k<=dgK s.data.toList/\i=.int .i64 k) (λ i=>s.size-(intOf i).toNat)
 case atStart=>exact ⟨0,Nat.zero_le _,rfl⟩
 case round =>
  obtain ⟨k,hk,rfl⟩:=hrel
  have hks:k<=s.size:=by have:=HL.out;omega
  by_cases hlt:k<s.size
  ·have hy:=h_ (dgK_yes s.data.toList k (by simpa using hlt) hk);have hn:=h_ (dgK_no s.data.toList k (by simpa using hlt) hk);have HK:=h_ hk;clear hk
   go_wp2
   ·go_round
    case rel=>exact ⟨k+1,hy.out (isDg_of (by assumption) (by assumption)),by go_num⟩
    case measure=>simp [intOf];omega
   all_goals
    go_ret;have he:=hn.out (isDg_not (by simp only [Array.getElem_toList];show ¬(48<=(s[k].toNat:Int)/\(s[k].toNat:Int)<=57);omega));exact ⟨by rw [<-he];rfl,rfl⟩
  ·have he:k=dgK s.data.toList:=by have:=HL.out;omega
   have HE:=h_ he;clear he
   go_wp2
   go_ret;exact ⟨by rw [<-HE.out];rfl,rfl⟩
theorem head_some {s:ByteArray} (h:0<s.size):s.data.toList.head?=some s[0]:=by
 rw [List.head?_eq_getElem?,List.getElem?_eq_getElem (by simpa using h)];rfl
theorem take_more (s:ByteArray) (k:Nat) (h:k<s.size):s.data.toList.take (k+1)=s.data.toList.take k++[s[k]]:=by
 rw [List.take_succ_eq_append_getElem (by simpa using h)];rfl
theorem rparse_any (s:ByteArray) (w:World) (hs:s.size<=140737488351232) :
  Calls Tryz.prog 182 #[.string s] w λ e w'=>e=.returned (.tuple #[.int .i64 (pV s.data.toList),.int .i64 (pN s.data.toList),.int .i64 (pE s.data.toList)])/\w=w':=by
 by_cases hl0:s.size=0
 ·have hn:s.data.toList=[]:=List.eq_nil_of_length_eq_zero (by simpa using hl0)
  have hl0':(s.size:Int)=0:=by omega
  rw [hn,pE_nil.1,pE_nil.2.1,pE_nil.2.2];clear hn hl0;go_enter Tryz.func182,Tryz.ntmps182;go_wp2_with fail;go_ret3;exact ⟨rfl,rfl⟩
 have hl0':((s.size:Int)==0)=false:=by simp only [beq_eq_false_iff_ne];omega
 have hne:s.data.toList≠[]:=by
  intro e;have:=congrArg List.length e;exact hl0 (show s.data.toList.length=0 from this)
 have HNE:=h_ hne;have HL:Hid (dgK s.data.toList<=s.size):=h_ (by simpa using dgK_le s.data.toList);clear hne;go_enter Tryz.func182,Tryz.ntmps182;go_upto_block 0 with fail
 go_cut [5] (λ v wx=>v=.int .i64 (dgK s.data.toList)/\wx=w)
 case first =>
  go_wp2_with fail
  go_loop [5] (λ i=>∃k:Nat,k<=dgK s.data.toList/\i=.int .i64 k) (λ i=>s.size-(intOf i).toNat)
  case atStart=>exact ⟨0,Nat.zero_le _,rfl⟩
  case round =>
   obtain ⟨k,hk,rfl⟩:=hrel
   have hks:k<=s.size:=by have:=HL.out;omega
   by_cases hlt:k<s.size
   ·have hy:=h_ (dgK_yes s.data.toList k (by simpa using hlt) hk);have hn:=h_ (dgK_no s.data.toList k (by simpa using hlt) hk);have HK:=h_ hk;clear hk
    go_wp2
    ·go_round
     case rel=>exact ⟨k+1,hy.out (isDg_of (by assumption) (by assumption)),by go_num⟩
     case measure=>simp [intOf];omega
    all_goals
     have he:=h_ (hn.out (isDg_not (by simp only [Array.getElem_toList];show ¬(48<=(s[k].toNat:Int)/\(s[k].toNat:Int)<=57);omega)))
     go_meet
     exact (by rw [<-he.out];exact ⟨rfl,rfl⟩)
   ·have he:k=dgK s.data.toList:=by have:=HL.out;omega
    have HE:=h_ he;clear he
    go_wp2
    go_meet
    exact (by rw [<-HE.out];exact ⟨rfl,rfl⟩)
 case rest =>
  obtain ⟨rfl,rfl⟩:=hcut
  have hpos:0<s.size:=by omega
  have HH:=h_ (head_some hpos);have HV0:=h_ (Nat.lt_irrefl 0)
  obtain ⟨K,hK⟩:∃K,dgK s.data.toList=K:=⟨_,rfl⟩
  rw [hK];have HK:=h_ hK
  have hKs:K<=s.size:=by rw [<-hK];exact HL.out
  clear hK
  by_cases hbad:K=0∨(1<K/\s[0]=48)
  ·have HP:=h_ (p_form HNE.out (by rw [HK.out,HH.out];simpa using hbad));rcases hbad with rfl|⟨h1,h2⟩
   ·have e:(((0:Nat):Int)==0)=true:=rfl;go_wp2_with fail;go_ret3;exact ⟨by rw [HP.out.1,HP.out.2.1,HP.out.2.2];rfl,rfl⟩
   ·have e:((K:Int)==0)=false:=by simp only [beq_eq_false_iff_ne];omega
    have e1:(1:Int)<K:=by omega
    have e2:((s[0].toNat:Int)==48)=true:=by rw [h2];rfl
    go_wp2_with fail;go_ret3;exact ⟨by rw [HP.out.1,HP.out.2.1,HP.out.2.2];rfl,rfl⟩
  ·have HB:=h_ hbad
   have hp:0<K:=by omega
   have e:((K:Int)==0)=false:=by simp only [beq_eq_false_iff_ne];omega
   have hcase:(¬(1:Int)<K)∨((1:Int)<K/\((s[0].toNat:Int)==48)=false):=by
    by_cases h1:1<K
    ·refine .inr ⟨by omega,?_⟩;have h2:¬s[0]=48:=λ h2=>hbad (.inr ⟨h1,h2⟩);rw [beq_eq_false_iff_ne];intro e;exact h2 (UInt8.toNat.inj (by rw [show (48:UInt8).toNat=48 from rfl];omega))
    ·exact .inl (by omega)
   clear hbad;go_upto_region 6 with fail
   go_cut [40] (λ v wx=>v=.bool false/\wx=wc)
   case first =>
    rcases hcase with h1|⟨h1,h2⟩
    ·go_wp2_with fail
     go_meet
     exact ⟨rfl,rfl⟩
    ·go_wp2_with fail
     go_meet
     exact ⟨rfl,rfl⟩
   case rest =>
    obtain ⟨rfl,rfl⟩:=hcut;go_wp2_with fail
    go_loop [6,7] (λ v i=>∃j n:Nat,j<=K/\i=.int .i64 j/\v=.int .i64 n/\Hid (n=dval (s.data.toList.take j))/\Hid (n<=9223372036854775807)) (λ _ i=>K-(intOf i).toNat)
    case atStart=>exact ⟨0,0,Nat.zero_le _,rfl,rfl,rfl,Nat.zero_le _⟩
    case round =>
     obtain ⟨j,n,hj,rfl,rfl,hn,hm⟩:=hrel
     by_cases hlt:j<K
     ·have hjs:j<s.size:=by omega
      have hdg:=isDg_iff.1 (dgK_digit s.data.toList j (by simpa using hjs) (by rw [HK.out];exact hlt));simp only [Array.getElem_toList] at hdg
      have hd0:48<=(s[j].toNat:Int):=by have:=hdg.1;show (48:Int)<=((s.data[j].toNat:Nat):Int);omega
      have hd1:(s[j].toNat:Int)<=57:=by have:=hdg.2;show ((s.data[j].toNat:Nat):Int)<=57;omega
      clear hdg
      have hlt':(j:Int)<K:=by omega
      have HS:=h_ (show dval (s.data.toList.take (j+1))=10*n+(s[j].toNat-48) by rw [take_more s j hjs,dval_snoc,<-hn.out]);go_wp2_with fail
      ·have hgt:9223372036854775807<dval (s.data.toList.take (dgK s.data.toList)):=by
        have h1:=dval_mono s.data.toList (j+1) K (by omega);rw [HK.out];rw [HS.out] at h1;omega
       have HP:=h_ (p_num HNE.out (by rw [HK.out,HH.out];simpa using HB.out) hgt);go_ret3;exact ⟨by rw [HP.out.1,HP.out.2.1,HP.out.2.2];rfl,rfl⟩
      ·go_round
       case rel =>
        refine ⟨j+1,10*n+(s[j].toNat-48),by omega,by go_num,?_,HS.out.symm,?_⟩
        ·congr 1
         omega
        ·show _<=_;omega
       case measure=>simp [intOf];omega
     ·have hlt':¬(j:Int)<K:=by omega
      have hjK:j=K:=by omega
      subst hjK;have HP:=h_ (p_ok HNE.out (by rw [HK.out,HH.out];simpa using HB.out) (by rw [HK.out,<-hn.out];exact hm.out));go_wp2_with fail;go_ret3;exact ⟨by rw [HP.out.1,HP.out.2.1,HP.out.2.2,HK.out,<-hn.out];rfl,rfl⟩
theorem extract_list (s:ByteArray) (K:Nat):(s.extract 0 K).data.toList=s.data.toList.take K:=by
 simp
theorem atoi_ok (s:ByteArray) (n:Nat) (w:World) (hs:s.size<=140737488351232) (h:Lib.atoiAll s.data.toList=.ok (n:Int)) :
  Calls Tryz.prog 304 #[.string s] w λ e w'=>e=.returned (.tuple #[.int .i64 n,.nilIface])/\Below w.heap.size w w':=by
 refine (Any.strconv_Atoi_ok Tryz.laysC172 s (by omega) n h w).mono ?_;rintro e w' ⟨rfl,rfl|⟨t,rfl⟩⟩
 ·exact ⟨rfl,b_ _ _⟩
 ·exact ⟨rfl,Lib.bytesWorld_below _ _ _⟩
theorem atoi_range (s:ByteArray) (w:World) (hs:s.size<=140737488351232) (h:Lib.atoiAll s.data.toList=.range) (hE:ErrAt w) :
  Calls Tryz.prog 304 #[.string s] w λ e w'=>∃n tp p,e=.returned (.tuple #[.int .i64 n,.iface tp p])/\Below w.heap.size w w':=by
 obtain ⟨tp,p,hv⟩:=hE;refine (Any.strconv_Atoi_range Tryz.laysC172 s (by omega) h (.iface tp p) w hv (.inr ⟨tp,p,rfl⟩)).mono ?_;rintro e w' ⟨N,rfl,_,_,hb⟩;exact ⟨_,_,_,rfl,hb⟩
theorem parse_any (s:ByteArray) (w:World) (hs:s.size<=140737488351232) (hE:ErrAt w) :
  Calls Tryz.prog 260 #[.string s] w λ e w'=>e=.returned (.tuple #[.int .i64 (pV s.data.toList),.int .i64 (pN s.data.toList),.int .i64 (pE s.data.toList)])/\Below w.heap.size w w':=by
 by_cases hl0:s.size=0
 ·have hn:s.data.toList=[]:=List.eq_nil_of_length_eq_zero (by simpa using hl0);have hs0:s=⟨#[]⟩:=ByteArray.ext (Array.toList_inj.1 hn);subst hs0;rw [pE_nil.1,pE_nil.2.1,pE_nil.2.2];clear hl0 hn;go_enter Tryz.func260,Tryz.ntmps260;go_wp2_with fail;go_ret3;exact ⟨rfl,b_ _ _⟩
 have hne:s.data.toList≠[]:=by
  intro e;have:=congrArg List.length e;exact hl0 (show s.data.toList.length=0 from this)
 have HNE:=h_ hne;have HL:Hid (dgK s.data.toList<=s.size):=h_ (by simpa using dgK_le s.data.toList)
 have hpos:0<s.size:=by omega
 have hse:s.toList.isEmpty=false:=by
  rw [Lib.toList_data]
  cases h:s.data.toList with
  |nil=>exact absurd h hne
  |cons a b=>rfl
 have HH:=h_ (head_some hpos);have HD:=h_ (cdigits_any s w hs);have HER:=h_ hE;clear hne hE
 obtain ⟨K,hK⟩:∃K,dgK s.data.toList=K:=⟨_,rfl⟩
 rw [hK] at HD;have HK:=h_ hK
 have hKs:K<=s.size:=by rw [<-hK];exact HL.out
 clear hK;go_enter Tryz.func260,Tryz.ntmps260;go_wp2_with fail;refine HD.out.mono ?_;rintro e w1 ⟨rfl,rfl⟩
 by_cases hbad:K=0∨(1<K/\s[0]=48)
 ·have HP:=h_ (p_form HNE.out (by rw [HK.out,HH.out];simpa using hbad));rcases hbad with rfl|⟨h1,h2⟩
  ·have e:(((0:Nat):Int)==0)=true:=rfl;go_wp2_with fail;go_ret3;exact ⟨by rw [HP.out.1,HP.out.2.1,HP.out.2.2];rfl,b_ _ _⟩
  ·have e:((K:Int)==0)=false:=by simp only [beq_eq_false_iff_ne];omega
   have e1:(1:Int)<K:=by omega
   have e2:((s[0].toNat:Int)==48)=true:=by rw [h2];rfl
   go_wp2_with fail;go_ret3;exact ⟨by rw [HP.out.1,HP.out.2.1,HP.out.2.2];rfl,b_ _ _⟩
 ·have HB:=h_ hbad
  have hp:0<K:=by omega
  have e:((K:Int)==0)=false:=by simp only [beq_eq_false_iff_ne];omega
  have hcase:(¬(1:Int)<K)∨((1:Int)<K/\((s[0].toNat:Int)==48)=false):=by
   by_cases h1:1<K
   ·refine .inr ⟨by omega,?_⟩;have h2:¬s[0]=48:=λ h2=>hbad (.inr ⟨h1,h2⟩);rw [beq_eq_false_iff_ne];intro e;exact h2 (UInt8.toNat.inj (by rw [show (48:UInt8).toNat=48 from rfl];omega))
   ·exact .inl (by omega)
  clear hbad;go_upto_region 4 with fail
  go_cut [22] (λ v wx=>v=.bool false/\wx=w)
  case first =>
   rcases hcase with h1|⟨h1,h2⟩
   ·go_wp2_with fail
    go_meet
    exact ⟨rfl,rfl⟩
   ·go_wp2_with fail
    go_meet
    exact ⟨rfl,rfl⟩
  case rest =>
   obtain ⟨rfl,rfl⟩:=hcut;clear e
   have hxs:(s.extract 0 K).size<=140737488351232:=by rw [ByteArray.size_extract];omega
   have hxl:=extract_list s K
   have hat:Lib.atoiAll (s.extract 0 K).data.toList=if dval (s.data.toList.take K)<=9223372036854775807 then .ok (dval (s.data.toList.take K):Int) else .range:=by
    rw [hxl];have ht:=dgK_take s.data.toList;rw [HK.out] at ht;refine atoi_digits _ ht ?_;intro e;have:=congrArg List.length e;have e2:s.data.toList.length=s.size:=rfl;rw [List.length_take,e2,List.length_nil] at this;omega
   clear hxl
   by_cases hv:dval (s.data.toList.take K)<=9223372036854775807
   ·rw [if_pos hv] at hat;have HP:=h_ (p_ok HNE.out (by rw [HK.out,HH.out];simpa using HB.out) (by rw [HK.out];exact hv));have HA:=h_ (atoi_ok _ _ wc hxs hat);clear hat hxs hv;go_wp2_with fail;refine HA.out.mono ?_;rintro e w1 ⟨rfl,hb⟩;go_wp2_with fail;go_ret3;exact ⟨by rw [HP.out.1,HP.out.2.1,HP.out.2.2,HK.out];rfl,hb⟩
   ·rw [if_neg hv] at hat;have HP:=h_ (p_num HNE.out (by rw [HK.out,HH.out];simpa using HB.out) (by rw [HK.out];omega));have HA:=h_ (atoi_range _ wc hxs hat HER.out);clear hat hxs hv;go_wp2_with fail;refine HA.out.mono ?_;rintro e w1 ⟨n,tp,p,rfl,hb⟩;go_wp2_with fail;go_ret3;exact ⟨by rw [HP.out.1,HP.out.2.1,HP.out.2.2];rfl,hb⟩
end Go.Proofs.YtocecpghoncmgaaGreatDoor
namespace Go.Proofs.YtocecpghoncmgaaGreatDoor
open Go.RowKit Go.ChangeShapes
def isLt (c:UInt8):Bool:=decide (65<=c.toNat/\c.toNat<=90) || decide (97<=c.toNat/\c.toNat<=122) || decide (c.toNat=95)
def isWd (c:UInt8):Bool:=isLt c || isDg c
theorem isLt_iff {c:UInt8}:isLt c=true ↔ (65<=c.toNat/\c.toNat<=90)∨(97<=c.toNat/\c.toNat<=122)∨c.toNat=95:=by simp [isLt,or_assoc]
def wdK:List UInt8->Nat
 |[]=>0
 |c::r=>if isWd c=true then wdK r+1 else 0
theorem wdK_le:∀l:List UInt8,wdK l<=l.length
 |[]=>n_ _
 |c::r=>by
  have:=wdK_le r;unfold wdK
  split <;> simp <;> omega
theorem wdK_yes:∀(l:List UInt8) (k:Nat) (hk:k<l.length),k<=wdK l->isWd l[k]=true->k+1<=wdK l
 |c::r,0,_,_,hd=>by
  have hd:isWd c=true:=hd;unfold wdK;rw [if_pos hd];omega
 |c::r,k+1,hk,h,hd=>by
  unfold wdK at h ⊢
  split at h
  ·rw [if_pos (by assumption)];have:=wdK_yes r k (by simpa using hk) (by omega) (by simpa using hd);omega
  ·omega
theorem wdK_no:∀(l:List UInt8) (k:Nat) (hk:k<l.length),k<=wdK l->isWd l[k]=false->k=wdK l
 |c::r,0,_,_,hd=>by
  have hd:isWd c=false:=hd;unfold wdK;rw [hd,if_neg (by decide)]
 |c::r,k+1,hk,h,hd=>by
  unfold wdK at h ⊢
  split at h
  ·rw [if_pos (by assumption)];have:=wdK_no r k (by simpa using hk) (by omega) (by simpa using hd);omega
  ·omega
theorem wdK_pos {c:UInt8} {r:List UInt8} (h:isWd c=true):0<wdK (c::r):=by unfold wdK;rw [if_pos h];omega
theorem dgK_pos {c:UInt8} {r:List UInt8} (h:isDg c=true):0<dgK (c::r):=by unfold dgK;rw [if_pos h];omega
def wsz:List UInt8->Nat
 |[]=>0
 |c::r=>if isLt c=true then wdK (c::r) else 0
theorem wsz_cons (c:UInt8) (r:List UInt8):wsz (c::r)=if isLt c=true then wdK (c::r) else 0:=rfl
theorem wsz_le (l:List UInt8):wsz l<=l.length:=by
 cases l with
 |nil=>exact n_ _
 |cons c r =>
  rw [wsz_cons]
  split
  ·exact wdK_le _
  ·exact Nat.zero_le _
theorem wsz_yes {l:List UInt8} {k:Nat} (hk:k<l.length) (h:k<=wsz l) (hd:isLt l[k]=true∨(0<k/\isDg l[k]=true)):k+1<=wsz l:=by
 cases l with
 |nil=>simp at hk
 |cons c r =>
  rw [wsz_cons] at h ⊢
  by_cases hc:isLt c=true
  ·rw [if_pos hc] at h ⊢;refine wdK_yes _ k hk h ?_;rcases hd with hd|hd
   ·simp [isWd,hd]
   ·simp [isWd,hd.2]
  ·rw [if_neg hc] at h
   obtain rfl:k=0:=by omega
   rcases hd with hd|hd
   ·exact absurd hd hc
   ·omega
theorem wsz_no {l:List UInt8} {k:Nat} (hk:k<l.length) (h:k<=wsz l) (h1:isLt l[k]=false) (h2:k=0∨isDg l[k]=false):k=wsz l:=by
 cases l with
 |nil=>simp at hk
 |cons c r =>
  rw [wsz_cons] at h ⊢
  by_cases hc:isLt c=true
  ·rw [if_pos hc] at h ⊢;rcases h2 with rfl|h2
   ·have h1:isLt c=false:=h1;rw [h1] at hc;cases hc
   ·exact wdK_no _ k hk h (by simp [isWd,h1,h2])
  ·rw [if_neg hc] at h ⊢;omega
def kws:List (List UInt8):=[[97,102,116,101,114],[97,108,119,97,121,115],[99,104,97,114,116],[100,101,101,112],[101,109,105,116],[101,110,116,101,114],[104,105,115,116,111,114,121],[105,110],[105,110,105,116,105,97,108],[108,101,97,118,101],[111,110],[112,97,114,97,108,108,101,108],[114,97,105,115,101],[115,101,116],[115,116,97,116,101],[118,97,114]]
def isKw (l:List UInt8):Bool:=kws.contains l
def kwVals:List Value:=kws.map λ k=>Value.string ⟨k.toArray⟩
theorem kw_yes {l k:List UInt8} (i:Nat) (h:kws[i]?=some k) (e:k=l):isKw l=true:=by
 subst e;simpa [isKw] using List.mem_of_getElem? h
theorem kw_no {l:List UInt8} (h:∀(i:Nat) (k:List UInt8),kws[i]?=some k->k≠l):isKw l=false:=by
 cases e:isKw l with
 |false=>rfl
 |true =>
  have:l∈kws:=by simpa [isKw] using e
  obtain ⟨i,hi⟩:=List.getElem?_of_mem this;exact absurd rfl (h i l hi)
def twoS:List (List UInt8):=[[45,62],[60,61],[62,61],[61,61],[33,61],[38,38],[124,124]]
def oneS:List UInt8:=[123,125,40,41,91,93,59,44,61,43,45,42,47,37,60,62,33]
def sgn (l:List UInt8):Nat:=if (twoS.contains (l.take 2))=true then 2 else match l with
 |[]=>0
 |c::_=>if oneS.contains c=true then 1 else 0
theorem two_len {l:List UInt8} (h:twoS.contains (l.take 2)=true):2<=l.length:=by
 match l with
 |[]=>exact absurd h (by decide)
 |[a] =>
  have:[a]∈twoS:=by simpa using h
  simp [twoS] at this
 |a::b::r=>simp
theorem sgn_le (l:List UInt8):sgn l<=l.length:=by
 unfold sgn
 split
 ·rename_i h;exact two_len h
 ·split
  ·omega
  ·split <;> simp
def isBl (c:UInt8):Bool:=decide (c=9) || decide (c=10) || decide (c=13) || decide (c=32)
def lnK:List UInt8->Nat
 |[]=>0
 |c::r=>if c=10 then 0 else lnK r+1
theorem lnK_le:∀l:List UInt8,lnK l<=l.length
 |[]=>n_ _
 |c::r=>by
  have:=lnK_le r;unfold lnK
  split <;> simp <;> omega
def blK:Bool->List UInt8->Nat
 |_,[]=>0
 |true,c::r=>if c=10 then blK false r+1 else blK true r+1
 |false,c::r=>if c=47/\r.head?=some 47 then blK true r+1 else if isBl c=true then blK false r+1 else 0
theorem blK_le:∀(b:Bool) (l:List UInt8),blK b l<=l.length
 |true,[]=>n_ _
 |false,[]=>n_ _
 |true,c::r=>by
  have h1:=blK_le true r;have h2:=blK_le false r;unfold blK
  split <;> simp <;> omega
 |false,c::r=>by
  have h1:=blK_le true r;have h2:=blK_le false r;unfold blK
  split
  ·simp;omega
  ·split <;> simp <;> omega
theorem blK_note:∀l:List UInt8,blK true l=lnK l+blK false (l.drop (lnK l))
 |[]=>rfl
 |c::r=>by
  unfold lnK
  by_cases h:c=10
  ·subst h;rw [if_pos rfl,List.drop_zero];simp [blK,isBl]
  ·rw [if_neg h,List.drop_succ_cons];have:=blK_note r;simp only [blK,if_neg h,this];omega
theorem isBl_ne {c:UInt8} (h:isBl c=true):¬c=47:=by
 rintro rfl;exact absurd h (by decide)
theorem blK_rest:∀(b:Bool) (l:List UInt8),blK false (l.drop (blK b l))=0
 |true,[]=>rfl
 |false,[]=>rfl
 |true,c::r=>by
  have h1:=blK_rest true r;have h2:=blK_rest false r
  by_cases hc:c=10
  ·have e:blK true (c::r)=blK false r+1:=by simp only [blK,if_pos hc]
   rw [e];simpa using h2
  ·have e:blK true (c::r)=blK true r+1:=by simp only [blK,if_neg hc]
   rw [e];simpa using h1
 |false,c::r=>by
  have h1:=blK_rest true r;have h2:=blK_rest false r
  by_cases hc:c=47/\r.head?=some 47
  ·have e:blK false (c::r)=blK true r+1:=by simp only [blK,if_pos hc]
   rw [e];simpa using h1
  ·by_cases hb:isBl c=true
   ·have e:blK false (c::r)=blK false r+1:=by simp only [blK,if_neg hc,if_pos hb]
    rw [e];simpa using h2
   ·have e:blK false (c::r)=0:=by simp only [blK,if_neg hc,if_neg hb]
    rw [e];exact e
def tkE:List UInt8->Int
 |[]=>0
 |c::r =>
  if isLt c=true then (if 24<wdK (c::r) then 2 else 0)
  else if isDg c=true then (if pE (c::r)=0 then (if dgK (c::r)<wdK (c::r) then 4 else 0) else pE (c::r))
  else if sgn (c::r)=0 then 4 else 0
def tkS:List UInt8->Nat
 |[]=>0
 |c::r=>if isLt c=true then wdK (c::r) else if isDg c=true then dgK (c::r) else sgn (c::r)
structure Tk where
 kind:Int
 text:List UInt8
 num:Int
 at_:Int
deriving DecidableEq
def tkT (l:List UInt8) (p:Int):Tk :=
 match l with
 |[]=>⟨5,[],0,p⟩
 |c::r=>if isLt c=true then ⟨if isKw ((c::r).take (wdK (c::r)))=true then 2 else 1,(c::r).take (wdK (c::r)),0,p⟩
  else if isDg c=true then ⟨3,[],pV (c::r),p⟩ else ⟨4,(c::r).take (sgn (c::r)),0,p⟩
theorem tkE_cons (c:UInt8) (r:List UInt8):tkE (c::r) =
  if isLt c=true then (if 24<wdK (c::r) then 2 else 0)
  else if isDg c=true then (if pE (c::r)=0 then (if dgK (c::r)<wdK (c::r) then 4 else 0) else pE (c::r))
  else if sgn (c::r)=0 then 4 else 0:=rfl
theorem tkS_cons (c:UInt8) (r:List UInt8):tkS (c::r)=if isLt c=true then wdK (c::r) else if isDg c=true then dgK (c::r) else sgn (c::r):=rfl
theorem tkT_cons (c:UInt8) (r:List UInt8) (p:Int):tkT (c::r) p =
  if isLt c=true then ⟨if isKw ((c::r).take (wdK (c::r)))=true then 2 else 1,(c::r).take (wdK (c::r)),0,p⟩
  else if isDg c=true then ⟨3,[],pV (c::r),p⟩ else ⟨4,(c::r).take (sgn (c::r)),0,p⟩:=rfl
theorem tkS_le (l:List UInt8):tkS l<=l.length:=by
 cases l with
 |nil=>exact n_ _
 |cons c r =>
  rw [tkS_cons]
  split
  ·exact wdK_le _
  ·split
   ·exact dgK_le _
   ·exact sgn_le _
theorem tkS_pos {c:UInt8} {r:List UInt8} (h:tkE (c::r)=0):0<tkS (c::r):=by
 rw [tkE_cons] at h;rw [tkS_cons]
 by_cases h1:isLt c=true
 ·rw [if_pos h1];exact wdK_pos (by simp [isWd,h1])
 ·rw [if_neg h1] at h ⊢
  by_cases h2:isDg c=true
  ·rw [if_pos h2];exact dgK_pos h2
  ·rw [if_neg h2] at h ⊢
   split at h
   ·cases h
   ·omega
def scA:Nat->Nat->List Tk->List UInt8->List Tk×Int×Int
 |0,_,_,_=>([],0,0)
 |f+1,p,acc,l =>
  let m:=l.drop (blK false l)
  let q:=p+blK false l
  if m=[] then (acc++[tkT m q],0,0)
  else if tkE m=0 then scA f (q+tkS m) (acc++[tkT m q]) (m.drop (tkS m))
  else ([],tkE m,q)
def scF (l:List UInt8):List Tk×Int×Int:=if 16384<l.length then ([],2,-1) else scA (l.length+1) 0 [] l
theorem scA_end {f p:Nat} {acc:List Tk} {l:List UInt8} (h:l.drop (blK false l)=[]):scA (f+1) p acc l=(acc++[⟨5,[],0,((p+blK false l:Nat):Int)⟩],0,0):=by
 unfold scA;simp only [h,if_true];rfl
theorem scA_bad {f p:Nat} {acc:List Tk} {l m:List UInt8} (hm:l.drop (blK false l)=m) (h0:m≠[]) (h:tkE m≠0):scA (f+1) p acc l=([],tkE m,((p+blK false l:Nat):Int)):=by
 subst hm;unfold scA;simp only [if_neg h0,if_neg h]
theorem scA_step {f p:Nat} {acc:List Tk} {l m:List UInt8} (hm:l.drop (blK false l)=m) (h0:m≠[]) (h:tkE m=0) :
  scA (f+1) p acc l=scA f (p+blK false l+tkS m) (acc++[tkT m ((p+blK false l:Nat):Int)]) (m.drop (tkS m)):=by
 subst hm;rw [scA];simp only [if_neg h0,if_pos h]
theorem lt_dec {c:UInt8} {b:Bool} (h:b=true ↔ (65<=(c.toNat:Int)/\(c.toNat:Int)<=90)∨(97<=(c.toNat:Int)/\(c.toNat:Int)<=122)∨(c.toNat:Int)=95):b=isLt c:=by
 rw [Bool.eq_iff_iff,h,isLt_iff];omega
theorem dg_dec {c:UInt8} {b:Bool} (h:b=true ↔ 48<=(c.toNat:Int)/\(c.toNat:Int)<=57):b=isDg c:=by
 rw [Bool.eq_iff_iff,h,isDg_iff];omega
theorem letter_any (c:UInt8) (w:World) :
  Calls Tryz.prog 214 #[.int .u8 c.toNat] w λ e w'=>e=.returned (.bool (isLt c))/\w=w':=by
 obtain ⟨b,hb⟩:∃b,b=isLt c:=⟨_,rfl⟩
 rw [<-hb]
 have H:∀d:Bool,(d=true ↔ (65<=(c.toNat:Int)/\(c.toNat:Int)<=90)∨(97<=(c.toNat:Int)/\(c.toNat:Int)<=122)∨(c.toNat:Int)=95)->d=b:=λ d h=>by rw [hb];exact lt_dec h
 have HH:=h_ H;clear hb H;generalize (c.toNat:Int)=x at *;go_enter Tryz.func214,Tryz.ntmps214;go_wp2_with fail
 all_goals
  go_ret;refine ⟨congrArg (λ b=>Ending.returned (Value.bool b)) (HH.out _ ?_),rfl⟩
  simp <;> omega
theorem digit_any (c:UInt8) (w:World) :
  Calls Tryz.prog 216 #[.int .u8 c.toNat] w λ e w'=>e=.returned (.bool (isDg c))/\w=w':=by
 obtain ⟨b,hb⟩:∃b,b=isDg c:=⟨_,rfl⟩
 rw [<-hb]
 have H:∀d:Bool,(d=true ↔ 48<=(c.toNat:Int)/\(c.toNat:Int)<=57)->d=b:=λ d h=>by rw [hb];exact dg_dec h
 have HH:=h_ H;clear hb H;generalize (c.toNat:Int)=x at *;go_enter Tryz.func216,Tryz.ntmps216;go_wp2_with fail
 all_goals
  go_ret;refine ⟨congrArg (λ b=>Ending.returned (Value.bool b)) (HH.out _ ?_),rfl⟩
  simp <;> omega
theorem get_list (s:ByteArray) (k:Nat) (h:k<s.size):s.data.toList[k]'(by simpa using h)=s[k]:=rfl
theorem wordSize_any (s:ByteArray) (w:World) (hs:s.size<=140737488351232) :
  Calls Tryz.prog 190 #[.string s] w λ e w'=>e=.returned (.int .i64 (wsz s.data.toList))/\w=w':=by
 have HL:Hid (wsz s.data.toList<=s.size):=h_ (by simpa using wsz_le s.data.toList);go_enter Tryz.func190,Tryz.ntmps190;go_wp2_with fail
 go_loop [3] (λ i=>∃k:Nat,k<=wsz s.data.toList/\i=.int .i64 k) (λ i=>s.size-(intOf i).toNat)
 case atStart=>exact ⟨0,Nat.zero_le _,rfl⟩
 case round =>
  obtain ⟨k,hk,rfl⟩:=hrel
  have hks:k<=s.size:=by have:=HL.out;omega
  by_cases hlt:k<s.size
  ·have hy:=h_ (λ h=>wsz_yes (l:=s.data.toList) (k:=k) (by simpa using hlt) hk h);have hn:=h_ (λ h1 h2=>wsz_no (l:=s.data.toList) (k:=k) (by simpa using hlt) hk h1 h2);have HK:=h_ hk;clear hk
   have hlt':(k:Int)<s.size:=by omega
   by_cases hl:isLt s[k]=true
   ·have hy2:=hy.out (.inl hl);have HY:=h_ hy2;clear hy2 hy hn;go_wp2_with (go_at_call 214;refine (letter_any _ _).mono ?_;rintro e w' ⟨rfl,rfl⟩;rw [hl])
    go_round
    case rel=>exact ⟨k+1,HY.out,by go_num⟩
    case measure=>simp [intOf];omega
   ·have hl:isLt s[k]=false:=by simpa using hl
    by_cases hk0:k=0
    ·have hk0':¬(0:Int)<k:=by omega
     have HE:=h_ (hn.out hl (.inl hk0));clear hy hn hk0;go_wp2_with (go_at_call 214;refine (letter_any _ _).mono ?_;rintro e w' ⟨rfl,rfl⟩;rw [hl]);go_ret;exact ⟨by rw [<-HE.out];rfl,rfl⟩
    ·have hk0':(0:Int)<k:=by omega
     by_cases hd:isDg s[k]=true
     ·have HY:=h_ (hy.out (.inr ⟨by omega,hd⟩));clear hy hn
      go_wp2_with first|(go_at_call 214;refine (letter_any _ _).mono ?_;rintro e w' ⟨rfl,rfl⟩;rw [hl])|(go_at_call 216;refine (digit_any _ _).mono ?_;rintro e w' ⟨rfl,rfl⟩;rw [hd])
      go_round
      case rel=>exact ⟨k+1,HY.out,by go_num⟩
      case measure=>simp [intOf];omega
     ·have hd:isDg s[k]=false:=by simpa using hd
      have HE:=h_ (hn.out hl (.inr hd));clear hy hn
      go_wp2_with first|(go_at_call 214;refine (letter_any _ _).mono ?_;rintro e w' ⟨rfl,rfl⟩;rw [hl])|(go_at_call 216;refine (digit_any _ _).mono ?_;rintro e w' ⟨rfl,rfl⟩;rw [hd])
      go_ret;exact ⟨by rw [<-HE.out];rfl,rfl⟩
  ·have he:k=wsz s.data.toList:=by have:=HL.out;omega
   have hlt':¬(k:Int)<s.size:=by omega
   have HE:=h_ he;clear he;go_wp2_with fail;go_ret;exact ⟨by rw [<-HE.out];rfl,rfl⟩
def KwAt (w:World):Prop:=∃t fr,w.heap[0]?=some (.cells kwVals.toArray t fr)
theorem KwAt.below {w w':World} (h:KwAt w) (hb:Below w.heap.size w w'):KwAt w':=by
 obtain ⟨t,fr,h⟩:=h;refine ⟨t,fr,?_⟩;rw [hb.block _ ?_]
 ·exact h
 ·rcases Nat.lt_or_ge 0 w.heap.size with h'|h'
  ·exact h'
  ·rw [Array.getElem?_eq_none h'] at h;cases h
theorem idx_kw (cs:Array Value) (k:Nat) (v:Value) (w:World) (hk:k<16) (hv:cs[k]?=some v) :
  (Instr.index 263 (.agg cs) (.int .i64 (k:Int))).run Tryz.prog w=.ok v w:=by
 have hn:(0:Int)<=k/\(k:Int)<((16:Nat):Int):=by omega
 have hz:(sizeOf 9).run Tryz.prog w=.ok 1 w:=Tryz.sizeOf9 w;simp [Instr.index,run_underlying Tryz.underlying263,asIntOf,hn,go_sem,hz];rw [hv,if_pos hk];rfl
theorem kw_len:kws.length=16:=rfl
theorem isKw_any (s:ByteArray) (w:World) (hK:KwAt w) :
  Calls Tryz.prog 191 #[.string s] w λ e w'=>e=.returned (.bool (isKw s.data.toList))/\w=w':=by
 obtain ⟨t,fr,hK⟩:=hK
 obtain ⟨A,hA⟩:∃A,kwVals.toArray=A:=⟨_,rfl⟩
 have hAs:A.size=16:=by rw [<-hA];rfl
 rw [hA] at hK
 have hsz:(Tryz.prog.info? 263).map (·.size)=some A.size:=by rw [hAs];kernel_rfl
 have HK:=h_ hK;have HSZ:=h_ hsz;have HA:=h_ hA;have HAS:=h_ hAs;clear hA hAs hK hsz;go_enter Tryz.func191,Tryz.ntmps191;go_wp2_with (refine wpList_load_row rfl 263 (.global 0) rfl 0 rfl t A fr _ HK.out Tryz.underlying263 rfl HSZ.out ?_)
 go_loop [6] (λ i=>∃k:Nat,k<=16/\Hid (∀(j:Nat) (x:List UInt8),j<k->kws[j]?=some x->x≠s.data.toList)/\i=.int .i64 k) (λ i=>16-(intOf i).toNat)
 case atStart=>exact ⟨0,Nat.zero_le _,λ j x h=>absurd h (Nat.not_lt_zero _),rfl⟩
 case round =>
  obtain ⟨k,hk,HNO,rfl⟩:=hrel
  by_cases hlt:k<16
  ·obtain ⟨x,hx⟩:∃x,kws[k]?=some x:=⟨_,List.getElem?_eq_getElem (by rw [kw_len];exact hlt)⟩
   have hc:A[k]?=some (.string ⟨x.toArray⟩):=by
    rw [<-HA.out];simp [kwVals,hx]
   have HX:=h_ hx;clear hx
   have hlt':(k:Int)<16:=by omega
   obtain ⟨X,hX⟩:∃X:ByteArray,X=⟨x.toArray⟩:=⟨_,rfl⟩
   rw [<-hX] at hc;have hidx:=idx_kw A k _ w hlt hc
   have hXl:X.data.toList=x:=by rw [hX]
   clear hc hX
   by_cases he:x=s.data.toList
   ·have hb:(X.toList==s.toList)=true:=by
     rw [Lib.toList_data,Lib.toList_data,hXl,he];exact beq_self_eq_true _
    have HR:=h_ (kw_yes k HX.out he);clear he hXl;go_wp2_with fail;go_ret;exact ⟨by rw [HR.out];rfl,rfl⟩
   ·have hb:(X.toList==s.toList)=false:=by
     rw [Lib.toList_data,Lib.toList_data,hXl];simpa using he
    have HR:Hid (∀(j:Nat) (y:List UInt8),j<k+1->kws[j]?=some y->y≠s.data.toList):=λ j y hj hy=>by
     rcases Nat.lt_succ_iff_lt_or_eq.1 hj with h|rfl
     ·exact HNO.out j y h hy
     ·rw [HX.out] at hy;injection hy with hy;rw [<-hy];exact he
    clear he hXl;go_wp2_with fail;exact ⟨⟨k+1,by omega,HR,by go_num⟩,by simp only [intOf];omega⟩
  ·have hlt':¬(k:Int)<16:=by omega
   have HR:=h_ (kw_no (l:=s.data.toList) λ i y hi=>HNO.out i y (by
    obtain ⟨h,_⟩:=List.getElem?_eq_some_iff.1 hi;rw [kw_len] at h
    omega) hi)
   go_wp2_with fail;go_ret;exact ⟨by rw [HR.out];rfl,rfl⟩
def isNm (l:List UInt8):Bool:=!l.isEmpty&&decide (l.length<=24)&&decide (wsz l=l.length) && !isKw l
theorem name_any (s:ByteArray) (w:World) (hs:s.size<=140737488351232) (hK:KwAt w) :
  Calls Tryz.prog 137 #[.string s] w λ e w'=>e=.returned (.bool (isNm s.data.toList))/\w=w':=by
 have H1:=h_ (wordSize_any s w hs);have H2:=h_ (isKw_any s w hK);have hlen:s.data.toList.length=s.size:=rfl;clear hK
 cases he:s.toList.isEmpty with
 |true =>
  have hn:Hid (isNm s.data.toList=false):=by
   rw [Lib.toList_data] at he;show isNm _=false;simp [isNm,he]
  clear hlen;go_enter Tryz.func137,Tryz.ntmps137;go_wp2_with fail;go_ret;exact ⟨by rw [hn.out];rfl,rfl⟩
 |false =>
  have he2:s.data.toList.isEmpty=false:=by rw [<-Lib.toList_data];exact he
  by_cases hl:s.size<=24
  ·have hl':(s.size:Int)<=24:=by omega
   obtain ⟨z,hz⟩:∃z,wsz s.data.toList=z:=⟨_,rfl⟩
   obtain ⟨k,hk⟩:∃k,isKw s.data.toList=k:=⟨_,rfl⟩
   rw [hz] at H1;rw [hk] at H2
   by_cases hq:z=s.size
   ·have hn:Hid (isNm s.data.toList=!k):=by
     show isNm _=!k;simp [isNm,he2,hz,hk,hq,hl]
    clear he2 hz hk hlen;subst hq;go_enter Tryz.func137,Tryz.ntmps137;go_wp2_with fail;refine H1.out.mono ?_;rintro e w1 ⟨rfl,rfl⟩;go_wp2_with fail;refine H2.out.mono ?_;rintro e w1 ⟨rfl,rfl⟩;go_wp2_with fail;go_ret;exact ⟨by rw [hn.out];rfl,rfl⟩
   ·have hn:Hid (isNm s.data.toList=false):=by
     show isNm _=false;simp [isNm,he2,hz,hq]
    have hq':((z:Int)==(s.size:Int))=false:=by rw [beq_eq_false_iff_ne];omega
    clear he2 hz hk hlen hq;go_enter Tryz.func137,Tryz.ntmps137;go_wp2_with fail;refine H1.out.mono ?_;rintro e w1 ⟨rfl,rfl⟩;go_wp2_with fail;go_ret;exact ⟨by rw [hn.out];rfl,rfl⟩
  ·have hl':¬(s.size:Int)<=24:=by omega
   have hn:Hid (isNm s.data.toList=false):=by
    show isNm _=false;simp [isNm,hl]
   clear he2 hlen;go_enter Tryz.func137,Tryz.ntmps137;go_wp2_with fail;go_ret;exact ⟨by rw [hn.out];rfl,rfl⟩
theorem cells_of_texts {H:Type} {enc:TypeId×Value->H} {P:Program} {w:World} {base:Nat} {sp:Nat->Bool} {held:Bool} {fuel:Nat} {t e:TypeId} {n:Nat} {cs:List Value} {ks:List (List UInt8)} {p:List MemPlace}
  (ht:P.underlying t=some (.array n e)) (he:P.underlying e=some .string) (hce:P.cellsOf e=1) (hct:P.cellsOf t=n)
  (h:DataW.trod enc P w base sp held fuel t cs=some (.agg (ks.map λ k=>.lit (.string k)),p)):cs=ks.map λ k=>Value.string ⟨k.toArray⟩:=by
 cases fuel with
 |zero=>simp [DataW.trod] at h
 |succ fuel =>
  simp only [DataW.trod,ht,hce,hct,Nat.mul_one] at h
  split at h
  ·rename_i hl;obtain ⟨xs,hm,hx⟩:=Option.map_eq_some_iff.1 h
   have hxs:xs.map (·.1)=ks.map λ k=>(DataW.lit (.string k):DataW H):=by
    have:=congrArg Prod.fst hx;simpa using this
   have hxl:xs.length=n:=by simpa using Lib.mapM_length hm
   have hzl:ks.length=n:=by
    have:=congrArg List.length hxs;simp at this;omega
   apply List.ext_getElem?;intro i
   by_cases hi:i<n
   ·obtain ⟨b,hb,hf⟩:=Lib.mapM_at hm i i (by simp [hi]);obtain ⟨s,hc,rfl,_⟩:=DataW.trod_string he hf
    have h1:cs[i]?=some (.string s):=by
     have:=congrArg (·[0]?) hc;simpa [List.getElem?_take,List.getElem?_drop] using this
    have h2:(xs.map (·.1))[i]?=some (DataW.lit (.string s.data.toList):DataW H):=by simp [hb]
    rw [hxs] at h2;simp only [List.getElem?_map,Option.map_eq_some_iff,DataW.lit.injEq,Lit.string.injEq] at h2;obtain ⟨k,hk,rfl⟩:=h2;simp [h1,hk]
   ·rw [List.getElem?_eq_none (by omega),List.getElem?_eq_none (by simp;omega)]
  ·cases h
theorem kwAt_of {n:String} {rest:List (String×DataW Unit)} {W:World} (hg:Tryz.prog.globalNamed n=some 0)
  (h:laidMet Tryz.prog ((n,Rows.laid_pavane_scan_keywords)::rest) W):KwAt W:=by
 have e:(Rows.laid_pavane_scan_keywords:DataW Unit)=.agg (kws.map λ k=>.lit (.string k)):=by kernel_rfl
 rw [e] at h;obtain ⟨ps,⟨g',t',cs,fuel,p,q,hg',ht',hvar,hd,_,_⟩,_⟩:=h;obtain rfl:=Option.some.inj (hg.symm.trans hg');obtain rfl:=Option.some.inj ((show (Tryz.prog.globals[0]?).map (·.type)=some 263 by kernel_rfl).symm.trans ht');have hcs:=cells_of_texts (n:=16) Tryz.underlying263 Tryz.underlying9 (by kernel_rfl) (by kernel_rfl) hd;unfold World.var? at hvar;rw [hg] at hvar;simp only [Option.bind_some] at hvar
 split at hvar
 ·rename_i cs' t fr hh;injection hvar with hvar;refine ⟨t,fr,?_⟩;rw [hh,hvar]
  congr 2
  apply Array.toList_inj.1;rw [hcs];rfl
 ·cases hvar
def Scn (w:World) (b p:Nat) (s:ByteArray):Prop:=w.heap[b]?=some (.cells #[.int .i64 (p:Int),.string s] 173 (0,0))
section
variable {w w':World} {b p:Nat} {s:ByteArray}
theorem Scn.lt (h:Scn w b p s):b<w.heap.size:=by
 rcases Nat.lt_or_ge b w.heap.size with hlt|hge
 ·exact hlt
 ·unfold Scn at h;rw [Array.getElem?_eq_none hge] at h;cases h
theorem Scn.c0 (h:Scn w b p s):w.cell? ⟨b,0,none⟩=some (.int .i64 (p:Int)):=cell_of_row w b 0 _ _ _ h
theorem Scn.c1 (h:Scn w b p s):w.cell? ⟨b,1,none⟩=some (.string s):=cell_of_row w b 1 _ _ _ h
theorem Scn.fr (h:Scn w b p s) (i:Nat):w.frozen? ⟨b,i,none⟩=false:=by
 unfold Scn at h;simp [World.frozen?,h]
theorem Scn.below (h:Scn w b p s) (hb:Below w.heap.size w w'):Scn w' b p s:=(hb.block b h.lt).trans h
theorem Scn.alloc (h:Scn w b p s) (o:Obj):Scn (w.alloc o) b p s:=(Below.heap_alloc w o b h.lt).trans h
end
theorem drewN_below (w:World) (m:Nat):Below w.heap.size w (w.drewN m):=⟨rfl,rfl,rfl,n_ _,λ _ _=>rfl⟩
theorem extract_drop (s:ByteArray) (p:Nat):(s.extract p s.size).data.toList=s.data.toList.drop p:=by
 have e:s.data.toList.length=s.size:=rfl;rw [ByteArray.data_extract,Array.toList_extract,List.extract_eq_take_drop];rw [List.take_of_length_le (by rw [List.length_drop,e];exact n_ _)]
theorem rest_any (w:World) (b p:Nat) (s:ByteArray) (h:Scn w b p s) (hp:p<=s.size) :
  Calls Tryz.prog 212 #[.pointer (some ⟨b,0,none⟩)] w λ e w'=>e=.returned (.string (s.extract p s.size))/\∃m,w'=w.drewN m:=by
 have h0:=h.c0;have h1:=h.c1;clear h
 have hp':(p:Int)<=s.size:=by omega
 go_enter Tryz.func212,Tryz.ntmps212;go_wp2_with fail
 go_quiet (fail)
 go_wp2_with fail;go_ret;exact ⟨rfl,_,rfl⟩
theorem prefix_any (s q:ByteArray) (w:World) :
  Calls Tryz.prog 249 #[.string s,.string q] w λ e w'=>e=.returned (.bool (q.data.toList.isPrefixOf s.data.toList))/\w'=w :=
 Any.strings_HasPrefix Tryz.lays99 s q w
theorem index_any (s:ByteArray) (c:Int) (w:World) :
  Calls Tryz.prog 259 #[.string s,.int .u8 c] w λ e w'=>e=.returned (.int .i64 (Lib.indexByte s.data.toList c.toNat.toUInt8))/\w'=w :=
 Any.strings_IndexByte Tryz.lays137 s c w
theorem sclone_any (s:ByteArray) (w:World) (hs:s.size<=140737488351232) :
  Calls Tryz.prog 134 #[.string s] w λ e w'=>e=.returned (.string s)/\Below w.heap.size w w' :=
 Any.stringslite_Clone Tryz.laysM316 s w (by omega)
theorem clone_any (s:ByteArray) (w:World) (hs:s.size<=140737488351232) :
  Calls Tryz.prog 72 #[.string s] w λ e w'=>e=.returned (.string s)/\Below w.heap.size w w':=by
 have H:=h_ (sclone_any s w hs);go_enter Tryz.func72,Tryz.ntmps72;go_wp2_with fail;refine H.out.mono ?_;rintro e w1 ⟨rfl,hb⟩;go_wp2_with fail;go_ret;exact ⟨rfl,hb⟩
def Bts (w:World) (g:Nat) (bs:List UInt8):Prop:=∀(j:Nat) (x:UInt8),bs[j]?=some x->w.cell? ⟨g,j,none⟩=some (.int .u8 (x.toNat:Int))
theorem Bts.conv {w:World} {g n:Nat} {bs:List UInt8} (h:Bts w g bs) (hn:bs.length=n) :
  (convert 97 9 (.slice (some ⟨g,0,none⟩) n n)).run Tryz.prog w=.ok (.string ⟨bs.toArray⟩) w:=by
 subst hn;refine run_convert_bytes_back (P:=Tryz.prog) w 97 9 5 ⟨g,0,none⟩ _ bs Tryz.underlying97 Tryz.underlying5 Tryz.underlying9 (λ j hj=>?_);rw [Addr.add_mid,Nat.zero_add];exact h j _ (List.getElem?_eq_getElem hj)
theorem begins_any (w:World) (b p:Nat) (s:ByteArray) (h:Scn w b p s) (hp:p<=s.size) (g n:Nat) (bs:List UInt8) (hn:bs.length=n) (hB:Bts w g bs) :
  Calls Tryz.prog 210 #[.pointer (some ⟨b,0,none⟩),.slice (some ⟨g,0,none⟩) n n] w λ e w'=>e=.returned (.bool (bs.isPrefixOf (s.data.toList.drop p)))/\∃m,w'=w.drewN m:=by
 have HS:=h_ h;have HB:=h_ (λ k=>(show Bts (w.drewN k) g bs from hB).conv hn);have hconv:=HB.out;have hconv0:=HB.out 0;have HX:=h_ (extract_drop s p);clear h hn hB;go_enter Tryz.func210,Tryz.ntmps210;go_wp2_with fail
 go_quiet (first|(go_at_call 212;exact Calls.quiet_of (rest_any _ b p s HS.out hp))|(go_at_call 249;exact Calls.quiet_of_same (prefix_any _ _ _)))
 go_wp2_with fail;go_ret;exact ⟨by rw [<-HX.out];rfl,_,rfl⟩
def Mv (b:Nat) (w w':World):Prop:=w.grownBy w' (some b)
theorem Mv.refl (b:Nat) (w:World):Mv b w w:=⟨rfl,rfl,rfl,n_ _,λ _ _ _=>rfl⟩
theorem Mv.trans {b:Nat} {u v w:World} (h:Mv b u v) (k:Mv b v w):Mv b u w :=
 ⟨k.os.trans h.os,k.tape.trans h.tape,k.output.trans h.output,Nat.le_trans h.size k.size,λ i hi hne=>(k.block i (Nat.lt_of_lt_of_le hi h.size) hne).trans (h.block i hi hne)⟩
theorem Mv.of (b:Nat) {w w':World} (h:Below w.heap.size w w'):Mv b w w':=⟨h.os,h.tape,h.output,h.size,λ i hi _=>h.block i hi⟩
theorem Mv.set {b:Nat} {w w':World} (h:Mv b w w') (i:Nat) (v:Value):Mv b w (w'.setCell ⟨b,i,none⟩ v) :=
 h.trans ⟨rfl,rfl,rfl,by simp [World.setCell],λ k _ hn=>Below.heap_setCell _ _ _ _ (λ e=>hn (by simpa using e))⟩
theorem Mv.block {b:Nat} {w w':World} (h:Mv b w w') {i:Nat} (hi:i<w.heap.size) (hne:i≠b):w'.heap[i]?=w.heap[i]? :=
 World.grownBy.block h i hi (by simpa using hne)
theorem Mv.belowB {b B:Nat} {u w w':World} (h:Mv b w w') (hb:Below B u w) (h1:B<=b) (h2:B<=w.heap.size):Below B u w' :=
 hb.grown h h2 (λ k e=>by injection e with e;omega)
theorem lnK_byte:∀l:List UInt8,(if 0<=Lib.indexByte l 10 then Lib.indexByte l 10 else (l.length:Int))=(lnK l:Int)
 |[]=>rfl
 |c::r=>by
  have ih:=lnK_byte r;unfold Lib.indexByte lnK
  by_cases h:c=10
  ·simp [h]
  ·have h2:(c==10)=false:=by simpa using h
   rw [h2,if_neg h];simp only [Bool.false_eq_true,if_false,List.length_cons]
   split at ih <;> (rename_i h3;simp_all;try omega)
theorem line_any (s:ByteArray) (w:World) :
  Calls Tryz.prog 211 #[.string s] w λ e w'=>e=.returned (.int .i64 (lnK s.data.toList))/\w=w':=by
 have H:=h_ (index_any s 10 w);have hl:=h_ (lnK_byte s.data.toList);rw [show (10:Int).toNat.toUInt8=10 from rfl] at H
 obtain ⟨i,hi⟩:∃i,Lib.indexByte s.data.toList 10=i:=⟨_,rfl⟩
 rw [hi] at H hl;clear hi;go_enter Tryz.func211,Tryz.ntmps211;go_wp2_with fail;refine H.out.mono ?_;rintro e w1 ⟨rfl,rfl⟩
 by_cases h0:0<=i
 ·have hl2:Hid (i=(lnK s.data.toList:Int)):=by have:=hl.out;rw [if_pos h0] at this;exact this
  go_wp2_with fail;go_ret;exact ⟨by rw [<-hl2.out];rfl,rfl⟩
 ·have hl2:Hid ((s.size:Int)=(lnK s.data.toList:Int)):=by have:=hl.out;rw [if_neg h0] at this;exact this
  go_wp2_with fail;go_ret;exact ⟨by rw [<-hl2.out];rfl,rfl⟩
theorem adv_any (w:World) (b p n:Nat) (s:ByteArray) (h:Scn w b p s) (hn:p+n<=281474976710656) :
  Calls Tryz.prog 166 #[.pointer (some ⟨b,0,none⟩),.int .i64 n] w λ e w'=>e=.returned (.tuple #[])/\Scn w' b (p+n) s/\Mv b w w':=by
 have h0:=h.c0;have h1:=h.fr 0;have HS:=h_ h
 have hq:(p:Int)+n<=281474976710656:=by omega
 clear h hn;go_enter Tryz.func166,Tryz.ntmps166;go_wp2_with fail;go_end0;refine ⟨rfl,?_,(Mv.refl b w).set 0 _⟩;have e:=heap_setCell_same w b 0 _ _ (.int .i64 ((p:Int)+n)) HS.out;unfold Scn;rw [Int.natCast_add];exact e
theorem beginsOne_any (w:World) (b p:Nat) (s:ByteArray) (h:Scn w b p s) (hp:p<=s.size) (g n:Nat) (bs:List UInt8) (hn:bs.length=n) (hB:Bts w g bs) (hn2:n<=1000) :
  Calls Tryz.prog 213 #[.pointer (some ⟨b,0,none⟩),.slice (some ⟨g,0,none⟩) n n] w λ e w'=>e=.returned (.bool (bs.any λ c=>[c].isPrefixOf (s.data.toList.drop p)))/\Below w.heap.size w w':=by
 have HS:=h_ h;have HN:=h_ hn;have HB:=h_ hB;clear h hn hB;go_enter Tryz.func213,Tryz.ntmps213;go_wp2_with fail
 go_loopw [9] (λ i wr=>∃k:Nat,k<=n/\Hid (∀(j:Nat) (x:UInt8),j<k->bs[j]?=some x->[x].isPrefixOf (s.data.toList.drop p)=false)/\i=.int .i64 k/\Hid (Below w.heap.size w wr)) (λ i _=>n-(intOf i).toNat)
 case atStart=>exact ⟨0,Nat.zero_le _,λ j x h=>absurd h (Nat.not_lt_zero _),rfl,b_ _ _⟩
 case round =>
  obtain ⟨k,hk,HNO,rfl,HBL⟩:=hrel
  by_cases hlt:k<n
  ·obtain ⟨x,hx⟩:∃x,bs[k]?=some x:=⟨_,List.getElem?_eq_getElem (by rw [HN.out];exact hlt)⟩
   have hc:wr.cell? ⟨g,k,none⟩=some (.int .u8 (x.toNat:Int)):=by
    have h0:=HB.out k x hx;rw [World.cell?_of_block (w:=w) (HBL.out.block g (World.block_lt_of_cell? w _ h0))];exact h0
   have HX:=h_ hx;clear hx
   have hlt':(k:Int)<n:=by omega
   obtain ⟨d,hd⟩:∃d,[x].isPrefixOf (s.data.toList.drop p)=d:=⟨_,rfl⟩
   have HBG:=h_ (λ (W:World) (hW:W=wr.alloc (.cells #[.int .u8 (x.toNat:Int)] 5))=>begins_any W b p s (by rw [hW];exact (HS.out.below HBL.out).alloc _) hp wr.heap.size 1 [x] rfl (λ j y hy=>by
    match j,hy with
    |0,hy =>
     injection hy with hy;subst hy;rw [hW,cell_of_row _ _ _ _ _ _ (heap_alloc_new wr _)]
     rfl))
   have HBW:Hid (Below w.heap.size w (wr.alloc (.cells #[.int .u8 (x.toNat:Int)] 5))):=HBL.out.alloc HBL.out.size _;rw [hd] at HBG;cases d
   ·have HR:Hid (∀(j:Nat) (y:UInt8),j<k+1->bs[j]?=some y->[y].isPrefixOf (s.data.toList.drop p)=false):=λ j y hj hy=>by
     rcases Nat.lt_succ_iff_lt_or_eq.1 hj with h|rfl
     ·exact HNO.out j y h hy
     ·rw [HX.out] at hy;injection hy with hy;rw [<-hy];exact hd
    clear hd;go_wp2_with fail;refine (HBG.out _ rfl).mono ?_;rintro e w1 ⟨rfl,m,rfl⟩;go_wp2_with fail;exact ⟨⟨k+1,by omega,HR,by go_num,HBW.out.trans ((drewN_below _ m).mono HBW.out.size)⟩,by simp only [intOf];omega⟩
   ·have HR:Hid ((bs.any λ c=>[c].isPrefixOf (s.data.toList.drop p))=true):=List.any_eq_true.2 ⟨x,List.mem_of_getElem? HX.out,hd⟩;clear hd;go_wp2_with fail;refine (HBG.out _ rfl).mono ?_;rintro e w1 ⟨rfl,m,rfl⟩;go_wp2_with fail;go_ret;exact ⟨by rw [HR.out];rfl,HBW.out.trans ((drewN_below _ m).mono HBW.out.size)⟩
  ·have hlt':¬(k:Int)<n:=by omega
   have HR:Hid ((bs.any λ c=>[c].isPrefixOf (s.data.toList.drop p))=false):=by
    refine List.any_eq_false.2 λ x hx=>?_;obtain ⟨j,hj⟩:=List.getElem?_of_mem hx;have:=(List.getElem?_eq_some_iff.1 hj).1;rw [HNO.out j x (by rw [HN.out] at this;omega) hj];simp
   go_wp2_with fail;go_ret;exact ⟨by rw [HR.out];rfl,HBL.out⟩
def posOf (w:World) (b:Nat):Nat:=match w.cell? ⟨b,0,none⟩ with
 |some v=>(intOf v).toNat
 |none=>0
theorem Scn.pos {w:World} {b p:Nat} {s:ByteArray} (h:Scn w b p s):posOf w b=p:=by
 unfold posOf;rw [h.c0];simp [intOf]
theorem blK_steps (m:List UInt8) :
  ([47,47].isPrefixOf m=true/\0<lnK m/\blK false m=lnK m+blK false (m.drop (lnK m))) ∨
  ([47,47].isPrefixOf m=false/\([9,10,13,32].any λ c=>[c].isPrefixOf m)=true/\0<m.length/\blK false m=1+blK false (m.drop 1)) ∨
  ([47,47].isPrefixOf m=false/\([9,10,13,32].any λ c=>[c].isPrefixOf m)=false/\blK false m=0):=by
 match m with
 |[]=>exact .inr (.inr ⟨rfl,rfl,rfl⟩)
 |[c] =>
  by_cases h:isBl c=true
  ·refine .inr (.inl ⟨?_,?_,by simp,?_⟩)
   ·have:=isBl_ne h;simp [List.isPrefixOf]
   ·simp only [isBl,Bool.or_eq_true,decide_eq_true_eq] at h;simp only [List.any_cons,List.any_nil,List.isPrefixOf,Bool.and_true,Bool.or_false,Bool.or_eq_true,beq_iff_eq]
    rcases h with ((h|h)|h)|h <;> simp [h]
   ·simp [blK,h,isBl_ne h]
  ·refine .inr (.inr ⟨by simp [List.isPrefixOf],?_,?_⟩)
   ·simp only [isBl,Bool.or_eq_true,decide_eq_true_eq,not_or] at h;simp only [List.any_cons,List.any_nil,List.isPrefixOf,Bool.and_true,Bool.or_false,Bool.or_eq_false_iff,beq_eq_false_iff_ne,ne_eq];exact ⟨λ e=>h.1.1.1 e.symm,λ e=>h.1.1.2 e.symm,λ e=>h.1.2 e.symm,λ e=>h.2 e.symm⟩
   ·simp [blK,h]
 |c::d::r =>
  by_cases h1:c=47/\d=47
  ·obtain ⟨rfl,rfl⟩:=h1;refine .inl ⟨by simp [List.isPrefixOf],by unfold lnK;simp,?_⟩
   have e1:lnK (47::47::r)=lnK (47::r)+1:=by rw [lnK,if_neg (by decide)]
   have e2:blK false (47::47::r)=blK true (47::r)+1:=by simp [blK]
   rw [e2,blK_note,e1,List.drop_succ_cons];omega
  ·have hp:[47,47].isPrefixOf (c::d::r)=false:=by
    simp only [List.isPrefixOf,Bool.and_true,Bool.and_eq_false_iff,beq_eq_false_iff_ne,ne_eq]
    by_cases h2:c=47
    ·exact .inr λ e=>h1 ⟨h2,e.symm⟩
    ·exact .inl λ e=>h2 e.symm
   by_cases h:isBl c=true
   ·refine .inr (.inl ⟨hp,?_,by simp,?_⟩)
    ·simp only [isBl,Bool.or_eq_true,decide_eq_true_eq] at h;simp only [List.any_cons,List.any_nil,List.isPrefixOf,Bool.and_true,Bool.or_false,Bool.or_eq_true,beq_iff_eq]
     rcases h with ((h|h)|h)|h <;> simp [h]
    ·simp [blK,h,h1];omega
   ·refine .inr (.inr ⟨hp,?_,?_⟩)
    ·simp only [isBl,Bool.or_eq_true,decide_eq_true_eq,not_or] at h;simp only [List.any_cons,List.any_nil,List.isPrefixOf,Bool.and_true,Bool.or_false,Bool.or_eq_false_iff,beq_eq_false_iff_ne,ne_eq];exact ⟨λ e=>h.1.1.1 e.symm,λ e=>h.1.1.2 e.symm,λ e=>h.1.2 e.symm,λ e=>h.2 e.symm⟩
    ·simp [blK,h,h1]
theorem drop_line (s:ByteArray) (q:Nat) (hq:q<=s.size):lnK (s.data.toList.drop q)+q<=s.size:=by
 have:=lnK_le (s.data.toList.drop q);have e:s.data.toList.length=s.size:=rfl;rw [List.length_drop,e] at this;omega
theorem alloc_bts (w:World) (bs:List UInt8) (t:TypeId):Bts (w.alloc (.cells (bs.map λ x=>Value.int .u8 (x.toNat:Int)).toArray t)) w.heap.size bs:=λ j x hx=>by
 rw [cell_of_row _ _ _ _ _ _ (heap_alloc_new w _)];simp [hx]
theorem skip_any (w:World) (b p:Nat) (s:ByteArray) (h:Scn w b p s) (hp:p<=s.size) (hs:s.size<=140737488351232) :
  Calls Tryz.prog 164 #[.pointer (some ⟨b,0,none⟩)] w λ e w'=>e=.returned (.tuple #[])/\Scn w' b (p+blK false (s.data.toList.drop p)) s/\Mv b w w':=by
 have HS:=h_ h;clear h;go_enter Tryz.func164,Tryz.ntmps164;go_wp2_with fail
 go_loopw [] (λ wr=>∃q:Nat,q<=s.size/\Hid (Scn wr b q s)/\Hid (p+blK false (s.data.toList.drop p)=q+blK false (s.data.toList.drop q))/\Hid (Mv b w wr)) (λ wr=>s.size-posOf wr b)
 case atStart=>exact ⟨p,hp,HS,rfl,Mv.refl _ _⟩
 case round =>
  obtain ⟨q,hq,HQ,HE,HM⟩:=hrel;have hsize:=List.length_drop (i:=q) (l:=s.data.toList);have HST:=h_ (blK_steps (s.data.toList.drop q))
  obtain ⟨m,hm⟩:∃m,s.data.toList.drop q=m:=⟨_,rfl⟩
  rw [hm] at HST hsize;have HM2:=h_ hm;clear hm hsize;have HB1:=h_ (λ (W:World) (hW:W=wr.alloc (.cells #[.int .u8 47,.int .u8 47] 5))=>begins_any W b q s (by rw [hW];exact HQ.out.alloc _) hq wr.heap.size 2 [47,47] rfl (by rw [hW];exact alloc_bts wr [47,47] 5));rw [HM2.out] at HB1;rcases HST.out with ⟨e1,e2,e3⟩|⟨e1,e2,e3,e4⟩|⟨e1,e2,e3⟩
  ·have HX:=h_ (And.intro e2 e3);rw [e1] at HB1;clear e1 e2 e3;go_wp2_with fail;refine (HB1.out _ rfl).mono ?_;rintro e w1 ⟨rfl,k,rfl⟩;have HS1:Hid (Scn ((wr.alloc (.cells #[.int .u8 47,.int .u8 47] 5)).drewN k) b q s):=HQ.out.alloc _;have HM1:Hid (Mv b w ((wr.alloc (.cells #[.int .u8 47,.int .u8 47] 5)).drewN k)):=HM.out.trans (Mv.of b (((b_ _ wr).alloc (n_ _) _).trans ((drewN_below _ k).mono (by simp))))
   obtain ⟨W1,hW1⟩:∃W1,W1=(wr.alloc (.cells #[.int .u8 47,.int .u8 47] 5)).drewN k:=⟨_,rfl⟩
   rw [<-hW1] at HS1 HM1 ⊢;clear hW1;have HR:=h_ (λ n=>rest_any (W1.drewN n) b q s HS1.out hq);have HL:=h_ (λ n=>line_any (s.extract q s.size) (W1.drewN n));rw [extract_drop,HM2.out] at HL;have HA:=h_ (λ n=>adv_any (W1.drewN n) b q (lnK m) s HS1.out (by have:=drop_line s q hq;rw [HM2.out] at this;omega));go_wp2_with fail
   go_region_with (first|(go_at_call 212;refine (HR.out _).mono ?_;rintro e w2 ⟨rfl,k2,rfl⟩)|(go_at_call 211;refine (HL.out _).mono ?_;rintro e w2 ⟨rfl,rfl⟩)|(go_at_call 166;refine (HA.out _).mono ?_;rintro e w2 ⟨rfl,hs2,hm2⟩))
   have HS3:=h_ hs2;have HM3:Hid (Mv b w w2):=HM1.out.trans ((Mv.of b (drewN_below W1 _)).trans hm2);clear hs2 hm2;go_wp2_with fail
   go_roundw
   case rel=>exact ⟨q+lnK m,by have:=drop_line s q hq;rw [HM2.out] at this;omega,HS3,by
    show p+blK false (s.data.toList.drop p)=_;rw [HE.out,HM2.out,HX.out.2,<-HM2.out,List.drop_drop]
    omega,HM3⟩
   case measure =>
    rw [HS3.out.pos,HQ.out.pos];have:=HX.out.1;have:=drop_line s q hq;rw [HM2.out] at this;omega
  ·have HX:=h_ (And.intro e3 e4);have HX2:=h_ e2;rw [e1] at HB1;clear e1 e2 e3 e4;go_wp2_with fail;refine (HB1.out _ rfl).mono ?_;rintro e w1 ⟨rfl,k,rfl⟩;have HS1:Hid (Scn ((wr.alloc (.cells #[.int .u8 47,.int .u8 47] 5)).drewN k) b q s):=HQ.out.alloc _;have HM1:Hid (Mv b w ((wr.alloc (.cells #[.int .u8 47,.int .u8 47] 5)).drewN k)):=HM.out.trans (Mv.of b (((b_ _ wr).alloc (n_ _) _).trans ((drewN_below _ k).mono (by simp))))
   obtain ⟨W1,hW1⟩:∃W1,W1=(wr.alloc (.cells #[.int .u8 47,.int .u8 47] 5)).drewN k:=⟨_,rfl⟩
   rw [<-hW1] at HS1 HM1 ⊢;clear hW1;have HB2:=h_ (λ (W:World) (hW:W=W1.alloc (.cells #[.int .u8 9,.int .u8 10,.int .u8 13,.int .u8 32] 5))=>beginsOne_any W b q s (by rw [hW];exact HS1.out.alloc _) hq W1.heap.size 4 [9,10,13,32] rfl (by rw [hW];exact alloc_bts W1 [9,10,13,32] 5) (by omega));rw [HM2.out,HX2.out] at HB2;go_wp2_with fail;refine (HB2.out _ rfl).mono ?_;rintro e w2 ⟨rfl,hb⟩;have HM2':Hid (Mv b w w2):=HM1.out.trans (Mv.of b (((b_ _ W1).alloc (n_ _) _).trans (hb.mono (by simp))));have HS2:Hid (Scn w2 b q s):=(HS1.out.alloc _).below hb;clear hb;have HA:=h_ (adv_any w2 b q 1 s HS2.out (by omega));go_wp2_with fail;refine HA.out.mono ?_;rintro e w3 ⟨rfl,hs2,hm2⟩;have HS3:=h_ hs2;have HM3:Hid (Mv b w w3):=HM2'.out.trans hm2;clear hs2 hm2
   have hlen:q+1<=s.size:=by
    have h1:=HX.out.1;rw [<-HM2.out,List.length_drop] at h1;have e:s.data.toList.length=s.size:=rfl;omega
   go_wp2_with fail
   go_roundw
   case rel=>exact ⟨q+1,hlen,HS3,by
    show p+blK false (s.data.toList.drop p)=_;rw [HE.out,HM2.out,HX.out.2,<-HM2.out,List.drop_drop]
    omega,HM3⟩
   case measure =>
    rw [HS3.out.pos,HQ.out.pos];omega
  ·have HX:=h_ e3;have HX2:=h_ e2;rw [e1] at HB1;clear e1 e2 e3;go_wp2_with fail;refine (HB1.out _ rfl).mono ?_;rintro e w1 ⟨rfl,k,rfl⟩;have HS1:Hid (Scn ((wr.alloc (.cells #[.int .u8 47,.int .u8 47] 5)).drewN k) b q s):=HQ.out.alloc _;have HM1:Hid (Mv b w ((wr.alloc (.cells #[.int .u8 47,.int .u8 47] 5)).drewN k)):=HM.out.trans (Mv.of b (((b_ _ wr).alloc (n_ _) _).trans ((drewN_below _ k).mono (by simp))))
   obtain ⟨W1,hW1⟩:∃W1,W1=(wr.alloc (.cells #[.int .u8 47,.int .u8 47] 5)).drewN k:=⟨_,rfl⟩
   rw [<-hW1] at HS1 HM1 ⊢;clear hW1;have HB2:=h_ (λ (W:World) (hW:W=W1.alloc (.cells #[.int .u8 9,.int .u8 10,.int .u8 13,.int .u8 32] 5))=>beginsOne_any W b q s (by rw [hW];exact HS1.out.alloc _) hq W1.heap.size 4 [9,10,13,32] rfl (by rw [hW];exact alloc_bts W1 [9,10,13,32] 5) (by omega));rw [HM2.out,HX2.out] at HB2;go_wp2_with fail;refine (HB2.out _ rfl).mono ?_;rintro e w2 ⟨rfl,hb⟩;have HM2':Hid (Mv b w w2):=HM1.out.trans (Mv.of b (((b_ _ W1).alloc (n_ _) _).trans (hb.mono (by simp))));have HS2:Hid (Scn w2 b q s):=(HS1.out.alloc _).below hb;clear hb;go_wp2_with fail;refine bodyPost_ret (results_none rfl _ _ _) rfl ?_;exact ⟨rfl,by rw [HE.out,HM2.out,HX.out];exact HS2.out,HM2'.out⟩
theorem two_iff (m:List UInt8):twoS.any (λ k=>k.isPrefixOf m)=twoS.contains (m.take 2):=by
 match m with
 |[]=>rfl
 |[a]=>simp [twoS,List.isPrefixOf]
 |a::b::r =>
  simp only [twoS,List.any_cons,List.any_nil,List.isPrefixOf,Bool.and_true,Bool.or_false,List.take_succ_cons,List.take_zero,List.contains_cons,List.contains_nil];rw [Bool.eq_iff_iff];simp only [Bool.or_eq_true,Bool.and_eq_true,beq_iff_eq,List.cons.injEq,and_true]
  constructor <;> (intro h;simpa [eq_comm] using h)
theorem one_iff (m:List UInt8):oneS.any (λ c=>[c].isPrefixOf m)=match m with
  |[]=>false
  |c::_=>oneS.contains c:=by
 match m with
 |[]=>rfl
 |c::r =>
  simp only [List.isPrefixOf,Bool.and_true];rw [Bool.eq_iff_iff];simp
theorem sgn_two {m:List UInt8} (h:twoS.any (λ k=>k.isPrefixOf m)=true):sgn m=2:=by
 rw [two_iff] at h;unfold sgn;rw [if_pos h]
theorem sgn_one {m:List UInt8} (h:twoS.any (λ k=>k.isPrefixOf m)=false) (h1:oneS.any (λ c=>[c].isPrefixOf m)=true):sgn m=1:=by
 rw [two_iff] at h;rw [one_iff] at h1;unfold sgn;rw [if_neg (by rw [h];decide)]
 match m with
 |[]=>cases h1
 |c::r=>simp only [if_pos h1]
theorem sgn_none {m:List UInt8} (h:twoS.any (λ k=>k.isPrefixOf m)=false) (h1:oneS.any (λ c=>[c].isPrefixOf m)=false):sgn m=0:=by
 rw [two_iff] at h;rw [one_iff] at h1;unfold sgn;rw [if_neg (by rw [h];decide)]
 match m with
 |[]=>rfl
 |c::r =>
  simp only at h1;simp only [h1];rfl
theorem sign_try {w W:World} {b p:Nat} {s:ByteArray} (h:Scn W b p s) (hb:Below w.heap.size w W) (hp:p<=s.size) (x y:UInt8) :
  Calls Tryz.prog 210 #[.pointer (some ⟨b,0,none⟩),.slice (some ⟨W.heap.size,0,none⟩) 2 2] (W.alloc (.cells #[.int .u8 (x.toNat:Int),.int .u8 (y.toNat:Int)] 5))
   λ e w'=>e=.returned (.bool ([x,y].isPrefixOf (s.data.toList.drop p)))/\Below w.heap.size w w'/\Scn w' b p s:=by
 refine (begins_any _ b p s (h.alloc _) hp W.heap.size 2 [x,y] rfl (alloc_bts W [x,y] 5)).mono ?_;rintro e w1 ⟨rfl,k,rfl⟩;exact ⟨rfl,(hb.alloc hb.size _).trans ((drewN_below _ k).mono (by have:=hb.size;simp;omega)),h.alloc _⟩
theorem signSize_any (w:World) (b p:Nat) (s:ByteArray) (h:Scn w b p s) (hp:p<=s.size) :
  Calls Tryz.prog 261 #[.pointer (some ⟨b,0,none⟩)] w λ e w'=>e=.returned (.int .i64 (sgn (s.data.toList.drop p)))/\Below w.heap.size w w':=by
 obtain ⟨m,hm⟩:∃m,s.data.toList.drop p=m:=⟨_,rfl⟩
 have HT:=h_ (λ (W:World) (h:Scn W b p s) (hb:Below w.heap.size w W) (x y:UInt8)=>sign_try h hb hp x y);have HO:=h_ (λ (W:World) (h:Scn W b p s) (g n:Nat) (bs:List UInt8) (hn:bs.length=n) (hB:Bts W g bs) (hn2:n<=1000)=>beginsOne_any W b p s h hp g n bs hn hB hn2);rw [hm] at HT HO ⊢;have HS0:=h_ h;have HB0:Hid (Below w.heap.size w w):=b_ _ _;have T:∀k∈twoS,k.isPrefixOf m=true->Hid (sgn m=2):=λ k hk h=>sgn_two (List.any_eq_true.2 ⟨k,hk,h⟩);have HTW:=h_ T;clear h hm T;go_enter Tryz.func261,Tryz.ntmps261;go_wp2_with fail;refine (HT.out w HS0.out HB0.out 45 62).mono ?_;rintro e w1 ⟨rfl,hb,hs⟩;have HB1:=h_ hb;have HS1:=h_ hs;clear hb hs
 by_cases h1:[45,62].isPrefixOf m=true
 ·have HR:=HTW.out _ (by decide) h1;rw [h1];clear h1;go_wp2_with fail;go_ret;exact ⟨by rw [HR.out];rfl,HB1.out⟩
 have h1:[45,62].isPrefixOf m=false:=eq_false_of_ne_true h1;have HN1:=h_ h1;rw [h1];clear h1;go_wp2_with fail;refine (HT.out w1 HS1.out HB1.out 60 61).mono ?_;rintro e w2 ⟨rfl,hb,hs⟩;have HB2:=h_ hb;have HS2:=h_ hs;clear hb hs
 by_cases h1:[60,61].isPrefixOf m=true
 ·have HR:=HTW.out _ (by decide) h1;rw [h1];clear h1;go_wp2_with fail;go_ret;exact ⟨by rw [HR.out];rfl,HB2.out⟩
 have h1:[60,61].isPrefixOf m=false:=eq_false_of_ne_true h1;have HN2:=h_ h1;rw [h1];clear h1;go_wp2_with fail;refine (HT.out w2 HS2.out HB2.out 62 61).mono ?_;rintro e w3 ⟨rfl,hb,hs⟩;have HB3:=h_ hb;have HS3:=h_ hs;clear hb hs
 by_cases h1:[62,61].isPrefixOf m=true
 ·have HR:=HTW.out _ (by decide) h1;rw [h1];clear h1;go_wp2_with fail;go_ret;exact ⟨by rw [HR.out];rfl,HB3.out⟩
 have h1:[62,61].isPrefixOf m=false:=eq_false_of_ne_true h1;have HN3:=h_ h1;rw [h1];clear h1;go_wp2_with fail;refine (HT.out w3 HS3.out HB3.out 61 61).mono ?_;rintro e w4 ⟨rfl,hb,hs⟩;have HB4:=h_ hb;have HS4:=h_ hs;clear hb hs
 by_cases h1:[61,61].isPrefixOf m=true
 ·have HR:=HTW.out _ (by decide) h1;rw [h1];clear h1;go_wp2_with fail;go_ret;exact ⟨by rw [HR.out];rfl,HB4.out⟩
 have h1:[61,61].isPrefixOf m=false:=eq_false_of_ne_true h1;have HN4:=h_ h1;rw [h1];clear h1;go_wp2_with fail;refine (HT.out w4 HS4.out HB4.out 33 61).mono ?_;rintro e w5 ⟨rfl,hb,hs⟩;have HB5:=h_ hb;have HS5:=h_ hs;clear hb hs
 by_cases h1:[33,61].isPrefixOf m=true
 ·have HR:=HTW.out _ (by decide) h1;rw [h1];clear h1;go_wp2_with fail;go_ret;exact ⟨by rw [HR.out];rfl,HB5.out⟩
 have h1:[33,61].isPrefixOf m=false:=eq_false_of_ne_true h1;have HN5:=h_ h1;rw [h1];clear h1;go_wp2_with fail;refine (HT.out w5 HS5.out HB5.out 38 38).mono ?_;rintro e w6 ⟨rfl,hb,hs⟩;have HB6:=h_ hb;have HS6:=h_ hs;clear hb hs
 by_cases h1:[38,38].isPrefixOf m=true
 ·have HR:=HTW.out _ (by decide) h1;rw [h1];clear h1;go_wp2_with fail;go_ret;exact ⟨by rw [HR.out];rfl,HB6.out⟩
 have h1:[38,38].isPrefixOf m=false:=eq_false_of_ne_true h1;have HN6:=h_ h1;rw [h1];clear h1;go_wp2_with fail;refine (HT.out w6 HS6.out HB6.out 124 124).mono ?_;rintro e w7 ⟨rfl,hb,hs⟩;have HB7:=h_ hb;have HS7:=h_ hs;clear hb hs
 by_cases h1:[124,124].isPrefixOf m=true
 ·have HR:=HTW.out _ (by decide) h1;rw [h1];clear h1;go_wp2_with fail;go_ret;exact ⟨by rw [HR.out];rfl,HB7.out⟩
 have h1:[124,124].isPrefixOf m=false:=eq_false_of_ne_true h1;have HN7:=h_ h1;rw [h1];clear h1
 have HNO:Hid (twoS.any (λ k=>k.isPrefixOf m)=false):=by
  show _=false;simp only [twoS,List.any_cons,List.any_nil,HN1.out,HN2.out,HN3.out,HN4.out,HN5.out,HN6.out,HN7.out,Bool.or_false]
 clear HN1 HN2 HN3 HN4 HN5 HN6 HN7 HTW;have HOS:=h_ (λ (W:World) (hW:W=w7.alloc (.cells (oneS.map λ x=>Value.int .u8 (x.toNat:Int)).toArray 5))=>HO.out W (by rw [hW];exact HS7.out.alloc _) w7.heap.size 17 oneS rfl (by rw [hW];exact alloc_bts w7 oneS 5) (by omega))
 obtain ⟨d,hd⟩:∃d,(oneS.any λ c=>[c].isPrefixOf m)=d:=⟨_,rfl⟩
 rw [hd] at HOS;have HD:=h_ hd;clear hd HO HT;go_wp2_with fail;refine (HOS.out _ rfl).mono ?_;rintro e w8 ⟨rfl,hb⟩;have HB8:Hid (Below w.heap.size w w8):=(HB7.out.alloc HB7.out.size _).trans (hb.mono (by have:=HB7.out.size;simp;omega));clear hb;cases d
 ·have HR:=h_ (sgn_none HNO.out HD.out);go_wp2_with fail;go_ret;exact ⟨by rw [HR.out];rfl,HB8.out⟩
 ·have HR:=h_ (sgn_one HNO.out HD.out);go_wp2_with fail;go_ret;exact ⟨by rw [HR.out];rfl,HB8.out⟩
def txV (l:List UInt8):Value:=.string ⟨l.toArray⟩
def tkV (t:Tk):Value:=.agg #[.int .i64 t.kind,txV t.text,.int .i64 t.num,.int .i64 t.at_]
theorem zero_ext {s:ByteArray} {k:Nat}:Value.string (s.extract 0 k)=txV (s.data.toList.take k):=by
 unfold txV
 congr 1
 apply ByteArray.ext;apply Array.toList_inj.1;simp
def noTk:Tk:=⟨0,[],0,0⟩
def signR (m:List UInt8):Value:=.tuple #[if sgn m=0 then tkV noTk else tkV ⟨4,m.take (sgn m),0,0⟩,.int .i64 (sgn m),.int .i64 (if sgn m=0 then 4 else 0)]
def wordR (m:List UInt8):Value:=.tuple #[if 24<wsz m then tkV noTk else tkV ⟨if isKw (m.take (wsz m))=true then 2 else 1,m.take (wsz m),0,0⟩,.int .i64 (if 24<wsz m then 0 else wsz m),.int .i64 (if 24<wsz m then 2 else 0)]
def TkB (w:World) (g:Nat) (x0 x1 x2 x3:Value):Prop:=w.heap[g]?=some (.cells #[x0,x1,x2,x3] 131 (0,0))
section
variable {w w':World} {g:Nat} {x0 x1 x2 x3:Value}
theorem TkB.lt (h:TkB w g x0 x1 x2 x3):g<w.heap.size:=by
 rcases Nat.lt_or_ge g w.heap.size with hlt|hge
 ·exact hlt
 ·unfold TkB at h;rw [Array.getElem?_eq_none hge] at h;cases h
theorem TkB.c0 (h:TkB w g x0 x1 x2 x3):w.cell? ⟨g,0,none⟩=some x0:=cell_of_row w g 0 _ _ _ h
theorem TkB.c1 (h:TkB w g x0 x1 x2 x3):w.cell? ⟨g,1,none⟩=some x1:=cell_of_row w g 1 _ _ _ h
theorem TkB.c2 (h:TkB w g x0 x1 x2 x3):w.cell? ⟨g,2,none⟩=some x2:=cell_of_row w g 2 _ _ _ h
theorem TkB.c3 (h:TkB w g x0 x1 x2 x3):w.cell? ⟨g,3,none⟩=some x3:=cell_of_row w g 3 _ _ _ h
theorem TkB.fr (h:TkB w g x0 x1 x2 x3) (i:Nat):w.frozen? ⟨g,i,none⟩=false:=by
 unfold TkB at h;simp [World.frozen?,h]
theorem TkB.below (h:TkB w g x0 x1 x2 x3) (hb:Below w.heap.size w w'):TkB w' g x0 x1 x2 x3:=(hb.block g h.lt).trans h
theorem TkB.alloc (h:TkB w g x0 x1 x2 x3) (o:Obj):TkB (w.alloc o) g x0 x1 x2 x3:=(Below.heap_alloc w o g h.lt).trans h
theorem TkB.mv {b:Nat} (h:TkB w g x0 x1 x2 x3) (hb:Mv b w w') (hn:g≠b):TkB w' g x0 x1 x2 x3:=(hb.block h.lt hn).trans h
theorem TkB.set (h:TkB w g x0 x1 x2 x3) (i:Nat) (v:Value):(w.setCell ⟨g,i,none⟩ v).heap[g]?=some (.cells (#[x0,x1,x2,x3].setIfInBounds i v) 131 (0,0)):=heap_setCell_same w g i _ _ v h
theorem TkB.set0 (h:TkB w g x0 x1 x2 x3) (v:Value):TkB (w.setCell ⟨g,0,none⟩ v) g v x1 x2 x3:=h.set 0 v
theorem TkB.set1 (h:TkB w g x0 x1 x2 x3) (v:Value):TkB (w.setCell ⟨g,1,none⟩ v) g x0 v x2 x3:=h.set 1 v
theorem TkB.set2 (h:TkB w g x0 x1 x2 x3) (v:Value):TkB (w.setCell ⟨g,2,none⟩ v) g x0 x1 v x3:=h.set 2 v
theorem TkB.set3 (h:TkB w g x0 x1 x2 x3) (v:Value):TkB (w.setCell ⟨g,3,none⟩ v) g x0 x1 x2 v:=h.set 3 v
theorem TkB.all (h:TkB w g x0 x1 x2 x3) (y0 y1 y2 y3:Value):TkB ((((w.setCell ⟨g,0,none⟩ y0).setCell ⟨g,1,none⟩ y1).setCell ⟨g,2,none⟩ y2).setCell ⟨g,3,none⟩ y3) g y0 y1 y2 y3:=(((h.set0 y0).set1 y1).set2 y2).set3 y3
theorem below_all {B:Nat} {u:World} (h:Below B u w) (hB:B<=g) (y0 y1 y2 y3:Value):Below B u ((((w.setCell ⟨g,0,none⟩ y0).setCell ⟨g,1,none⟩ y1).setCell ⟨g,2,none⟩ y2).setCell ⟨g,3,none⟩ y3) :=
 (((h.setCell (p:=⟨g,0,none⟩) hB y0).setCell (p:=⟨g,1,none⟩) hB y1).setCell (p:=⟨g,2,none⟩) hB y2).setCell (p:=⟨g,3,none⟩) hB y3
theorem TkB.load (h:TkB w g x0 x1 x2 x3):(loadVar 131 ⟨g,0,none⟩).run Tryz.prog w=.ok (.agg #[x0,x1,x2,x3]) w :=
 run_loadVar_row w g _ _ _ _ _ h Tryz.underlying131 rfl (by kernel_rfl)
theorem TkB.res3 {fn:Func} {p t u:Tmp} (hr:fn.results=#[.cell p 131,.tmp t,.tmp u]) (tmps:Array Value) (hp:tmps.getD p undef=.pointer (some ⟨g,0,none⟩)) (h:TkB w g x0 x1 x2 x3) :
  (results fn tmps).run Tryz.prog w=.ok (.tuple #[.agg #[x0,x1,x2,x3],tmps.getD t undef,tmps.getD u undef]) w:=by
 have hp':tmps[p]?.getD undef=.pointer (some ⟨g,0,none⟩):=by simpa using hp
 simp [results,hr,hp',asAddr,h.load]
theorem TkB.res2 {fn:Func} {p t:Tmp} (hr:fn.results=#[.cell p 131,.tmp t]) (tmps:Array Value) (hp:tmps.getD p undef=.pointer (some ⟨g,0,none⟩)) (h:TkB w g x0 x1 x2 x3) :
  (results fn tmps).run Tryz.prog w=.ok (.tuple #[.agg #[x0,x1,x2,x3],tmps.getD t undef]) w:=by
 have hp':tmps[p]?.getD undef=.pointer (some ⟨g,0,none⟩):=by simpa using hp
 simp [results,hr,hp',asAddr,h.load]
theorem TkB.new (w:World) (x0 x1 x2 x3:Value):TkB (w.alloc (.cells #[x0,x1,x2,x3] 131)) w.heap.size x0 x1 x2 x3:=heap_alloc_new w _
end
theorem sign_any (w:World) (b p:Nat) (s:ByteArray) (h:Scn w b p s) (hp:p<=s.size) (hs:s.size<=140737488351232) :
  Calls Tryz.prog 218 #[.pointer (some ⟨b,0,none⟩)] w λ e w'=>e=.returned (signR (s.data.toList.drop p))/\Below w.heap.size w w':=by
 have HS:=h_ h;have HX:=h_ (extract_drop s p);have HG:=h_ (λ W (h:Scn W b p s)=>signSize_any W b p s h hp);have HR:=h_ (λ W (h:Scn W b p s)=>rest_any W b p s h hp)
 obtain ⟨m,hm⟩:∃m,s.data.toList.drop p=m:=⟨_,rfl⟩
 obtain ⟨k,hk⟩:∃k,sgn m=k:=⟨_,rfl⟩
 rw [hm] at HG HX ⊢
 have HK:Hid (k<=m.length):=by rw [<-hk];exact sgn_le m
 rw [hk] at HG;have HKK:=h_ hk;clear h hm hk;go_enter Tryz.func218,Tryz.ntmps218;go_wp2_with fail
 obtain ⟨W0,hW0⟩:∃W0,W0=w.alloc (.cells #[.int .i64 0,.string ⟨#[]⟩,.int .i64 0,.int .i64 0] 131):=⟨_,rfl⟩
 rw [<-hW0]
 have HT0:Hid (TkB W0 w.heap.size (.int .i64 0) (.string ⟨#[]⟩) (.int .i64 0) (.int .i64 0)):=by rw [hW0];exact TkB.new _ _ _ _ _
 have HS0:Hid (Scn W0 b p s):=by rw [hW0];exact HS.out.alloc _
 have HB0:Hid (Below w.heap.size w W0):=by rw [hW0];exact (b_ _ w).alloc (n_ _) _
 clear hW0;refine (HG.out W0 HS0.out).mono ?_;rintro e w1 ⟨rfl,hb⟩;have HT1:=h_ (HT0.out.below hb);have HS1:=h_ (HS0.out.below hb);have HB1:Hid (Below w.heap.size w w1):=HB0.out.trans (hb.mono HB0.out.size);clear hb
 by_cases h0:k=0
 ·subst h0;have c0:=HT1.out.c0;have c1:=HT1.out.c1;have c2:=HT1.out.c2;have c3:=HT1.out.c3;have f0:=HT1.out.fr 0;have f1:=HT1.out.fr 1;have f2:=HT1.out.fr 2;have f3:=HT1.out.fr 3;have e0:(((0:Nat):Int)==0)=true:=rfl;go_wp2_with fail;refine bodyPost_ret (TkB.res3 rfl _ rfl (HT1.out.all _ _ _ _)) rfl ?_;refine ⟨?_,below_all HB1.out (n_ _) _ _ _ _⟩;rw [signR,HKK.out,if_pos rfl,if_pos rfl];rfl
 ·have e0:((k:Int)==0)=false:=by rw [beq_eq_false_iff_ne];omega
  have HH:=h_ h0;clear h0;go_wp2_with fail;refine (HR.out w1 HS1.out).mono ?_;rintro e w2 ⟨rfl,n,rfl⟩
  have hk:k<=(s.extract p s.size).size:=by
   have e:(s.extract p s.size).data.toList.length=(s.extract p s.size).size:=rfl;rw [<-e,HX.out];exact HK.out
  have hk':(k:Int)<=((s.extract p s.size).size:Int):=by omega
  have hx:Hid (((s.extract p s.size).extract 0 k).size<=140737488351232):=by
   show _<=_;rw [ByteArray.size_extract,ByteArray.size_extract];omega
  have HC:=h_ (clone_any ((s.extract p s.size).extract 0 k) (w1.drewN n) hx.out);have HZ:=h_ (zero_ext (s:=s.extract p s.size) (k:=k));generalize s.extract p s.size=r at *;go_wp2_with fail;refine HC.out.mono ?_;rintro e w2 ⟨rfl,hb⟩;have hb':=(drewN_below w1 n).trans (hb.mono (n_ _));have HT2:=h_ (HT1.out.below hb');have HB2:Hid (Below w.heap.size w w2):=HB1.out.trans (hb'.mono HB1.out.size);clear hb hb';have c0:=HT2.out.c0;have c1:=HT2.out.c1;have c2:=HT2.out.c2;have c3:=HT2.out.c3;have f0:=HT2.out.fr 0;have f1:=HT2.out.fr 1;have f2:=HT2.out.fr 2;have f3:=HT2.out.fr 3;go_wp2_with fail;refine bodyPost_ret (TkB.res3 rfl _ rfl (HT2.out.all _ _ _ _)) rfl ?_;refine ⟨?_,below_all HB2.out (n_ _) _ _ _ _⟩;rw [signR,HKK.out,if_neg HH.out,if_neg HH.out,<-HX.out,tkV,<-HZ.out];rfl
theorem word_any (w:World) (s:ByteArray) (hs:s.size<=140737488351232) (hK:KwAt w) :
  Calls Tryz.prog 215 #[.string s] w λ e w'=>e=.returned (wordR s.data.toList)/\Below w.heap.size w w':=by
 have HW:=h_ (λ W=>wordSize_any s W hs);have HKW:=h_ hK
 obtain ⟨m,hm⟩:∃m,s.data.toList=m:=⟨_,rfl⟩
 obtain ⟨k,hk⟩:∃k,wsz m=k:=⟨_,rfl⟩
 have hks:k<=s.size:=by
  have:=wsz_le m;have e:s.data.toList.length=s.size:=rfl;rw [hk,<-hm,e] at this;exact this
 have hks':(k:Int)<=(s.size:Int):=by omega
 rw [hm] at HW ⊢;rw [hk] at HW;have HM:=h_ hm;have HKK:=h_ hk;clear hm hk hK;go_enter Tryz.func215,Tryz.ntmps215;go_wp2_with fail
 obtain ⟨W0,hW0⟩:∃W0,W0=w.alloc (.cells #[.int .i64 0,.string ⟨#[]⟩,.int .i64 0,.int .i64 0] 131):=⟨_,rfl⟩
 rw [<-hW0]
 have HT0:Hid (TkB W0 w.heap.size (.int .i64 0) (.string ⟨#[]⟩) (.int .i64 0) (.int .i64 0)):=by rw [hW0];exact TkB.new _ _ _ _ _
 have HB0:Hid (Below w.heap.size w W0):=by rw [hW0];exact (b_ _ w).alloc (n_ _) _
 clear hW0;refine (HW.out W0).mono ?_;rintro e w1 ⟨rfl,rfl⟩
 by_cases h0:24<k
 ·have h0':(24:Int)<k:=by omega
  have HH:=h_ h0;have c0:=HT0.out.c0;have c1:=HT0.out.c1;have c2:=HT0.out.c2;have c3:=HT0.out.c3;have f0:=HT0.out.fr 0;have f1:=HT0.out.fr 1;have f2:=HT0.out.fr 2;have f3:=HT0.out.fr 3;go_wp2_with fail;refine bodyPost_ret (TkB.res3 rfl _ rfl (HT0.out.all _ _ _ _)) rfl ?_;refine ⟨?_,below_all HB0.out (n_ _) _ _ _ _⟩;rw [wordR,HKK.out,if_pos HH.out,if_pos HH.out,if_pos HH.out];rfl
 ·have h0':¬(24:Int)<k:=by omega
  have HH:=h_ h0
  have hx:Hid ((s.extract 0 k).size<=140737488351232):=by
   show _<=_;rw [ByteArray.size_extract];omega
  have HC:=h_ (clone_any (s.extract 0 k) W0 hx.out);have HZ:=h_ (zero_ext (s:=s) (k:=k));have HIK:=h_ (λ W hK=>isKw_any (s.extract 0 k) W hK)
  have e1:(s.extract 0 k).data.toList=m.take k:=by rw [extract_list,HM.out]
  rw [e1] at HIK;clear e1 h0;go_wp2_with fail;refine HC.out.mono ?_;rintro e w2 ⟨rfl,hb⟩;have HT2:=h_ (HT0.out.below hb);have HB2:Hid (Below w.heap.size w w2):=HB0.out.trans (hb.mono HB0.out.size);clear hb;generalize s.extract 0 k=r at *;go_wp2_with fail
  obtain ⟨W3,hW3⟩:∃W3,W3=w2.alloc (.cells #[.int .i64 1,.string r,.int .i64 0,.int .i64 0] 131):=⟨_,rfl⟩
  rw [<-hW3]
  have HT3:Hid (TkB W3 w2.heap.size (.int .i64 1) (.string r) (.int .i64 0) (.int .i64 0)):=by rw [hW3];exact TkB.new _ _ _ _ _
  have HT4:Hid (TkB W3 w.heap.size (.int .i64 0) (.string ⟨#[]⟩) (.int .i64 0) (.int .i64 0)):=by rw [hW3];exact HT2.out.alloc _
  have HB3:Hid (Below w.heap.size w W3):=by rw [hW3];exact HB2.out.alloc HB2.out.size _
  have HNE:w.heap.size<=w2.heap.size/\w.heap.size≠w2.heap.size:=⟨HB2.out.size,by have:=HT2.out.lt;omega⟩
  clear hW3;have HTW:=HT4;refine (HIK.out W3 (HKW.out.below HB3.out)).mono ?_;rintro e w4 ⟨rfl,rfl⟩
  obtain ⟨g1,hg1⟩:∃g1,w.heap.size=g1:=⟨_,rfl⟩
  obtain ⟨g2,hg2⟩:∃g2,w2.heap.size=g2:=⟨_,rfl⟩
  rw [hg2] at HT3 HNE ⊢
  have HL:Hid (w.heap.size<=g1):=by rw [hg1];exact n_ _
  rw [hg1] at HTW HNE ⊢;have HBB:=HB3;clear hg1 hg2 HT4 HT2 HT0 HB0 HB2 HB3;obtain ⟨hle,hne⟩:=HNE;have hne2:¬g1=g2:=hne;have hne3:¬g2=g1:=λ e=>hne e.symm
  obtain ⟨d,hd⟩:∃d,isKw (m.take k)=d:=⟨_,rfl⟩
  rw [hd];have HD:=h_ hd;clear hd;have c0:=HTW.out.c0;have c1:=HTW.out.c1;have c2:=HTW.out.c2;have c3:=HTW.out.c3;have f0:=HTW.out.fr 0;have f1:=HTW.out.fr 1;have f2:=HTW.out.fr 2;have f3:=HTW.out.fr 3;have d0:=HT3.out.c0;have d1:=HT3.out.c1;have d2:=HT3.out.c2;have d3:=HT3.out.c3;have e0:=HT3.out.fr 0;cases d
  ·go_wp2_with fail;refine bodyPost_ret (TkB.res3 rfl _ rfl (HTW.out.all _ _ _ _)) rfl ?_;refine ⟨?_,below_all HBB.out HL.out _ _ _ _⟩;rw [wordR,HKK.out,if_neg HH.out,if_neg HH.out,if_neg HH.out,HD.out,<-HM.out,tkV,<-HZ.out];rfl
  ·go_wp2_with fail;refine bodyPost_ret (TkB.res3 rfl _ rfl ((show TkB _ g1 _ _ _ _ from (Below.heap_setCell W3 ⟨g2,0,none⟩ _ g1 hne).trans HTW.out).all _ _ _ _)) rfl ?_;refine ⟨?_,below_all (HBB.out.setCell (p:=⟨g2,0,none⟩) (Nat.le_trans HL.out hle) _) HL.out _ _ _ _⟩;rw [wordR,HKK.out,if_neg HH.out,if_neg HH.out,if_neg HH.out,HD.out,<-HM.out,tkV,<-HZ.out];rfl
def intR (m:List UInt8):Value :=
 .tuple #[if pE m=0 then (if dgK m<wdK m then tkV noTk else tkV ⟨3,[],pV m,0⟩) else tkV noTk,
  .int .i64 (if pE m=0 then (if dgK m<wdK m then 0 else dgK m) else 0),.int .i64 (if pE m=0 then (if dgK m<wdK m then 4 else 0) else pE m)]
theorem dgK_lt:∀m:List UInt8,dgK m<wdK m ↔ ∃c,m[dgK m]?=some c/\isLt c=true
 |[]=>by simp [dgK,wdK]
 |c::r=>by
  have ih:=dgK_lt r
  by_cases h:isDg c=true
  ·have h2:isWd c=true:=by simp [isWd,h]
   unfold dgK wdK;rw [if_pos h,if_pos h2,s_,<-ih];omega
  ·have e:dgK (c::r)=0:=by unfold dgK;rw [if_neg h]
   rw [e];unfold wdK
   have h3:isDg c=false:=by simpa using h
   have e2:isWd c=isLt c:=by simp [isWd,h3]
   rw [e2]
   cases hh:isLt c <;> simp [hh]
theorem errAt_below {w w':World} (h:ErrAt w) (hb:Below w.heap.size w w'):ErrAt w':=by
 obtain ⟨tp,p,hc⟩:=h;exact ⟨tp,p,by rw [hb.cell (World.block_lt_of_cell? w _ hc)];exact hc⟩
theorem pN_ok {m:List UInt8} (h:pE m=0):pN m=(dgK m:Int):=by unfold pN;rw [if_pos h]
theorem integer_any (w:World) (s:ByteArray) (hs:s.size<=140737488351232) (hE:ErrAt w) :
  Calls Tryz.prog 217 #[.string s] w λ e w'=>e=.returned (intR s.data.toList)/\Below w.heap.size w w':=by
 have HP:=h_ (λ W hE=>parse_any s W hs hE);have HER:=h_ hE;have HPN:=h_ (pN_ok (m:=s.data.toList));have HDL:=h_ (dgK_lt s.data.toList);have HDK:Hid (dgK s.data.toList<=s.size):=h_ (by simpa using dgK_le s.data.toList);have hlen:s.data.toList.length=s.size:=rfl
 have HGET:Hid (∀(k:Nat) (hk:k<s.size),s.data.toList[k]?=some s[k]):=λ k hk=>by rw [List.getElem?_eq_getElem (by rw [hlen];exact hk)];rfl
 obtain ⟨x,hx⟩:∃x,pE s.data.toList=x:=⟨_,rfl⟩
 obtain ⟨v,hv⟩:∃v,pV s.data.toList=v:=⟨_,rfl⟩
 obtain ⟨pn,hpn⟩:∃pn,pN s.data.toList=pn:=⟨_,rfl⟩
 obtain ⟨n,hn⟩:∃n,dgK s.data.toList=n:=⟨_,rfl⟩
 obtain ⟨z,hz⟩:∃z,wdK s.data.toList=z:=⟨_,rfl⟩
 rw [hx,hv,hpn] at HP;rw [hx,hpn,hn] at HPN;rw [hn,hz] at HDL;rw [hn] at HDK
 have HIR:Hid (intR s.data.toList=.tuple #[if x=0 then (if n<z then tkV noTk else tkV ⟨3,[],v,0⟩) else tkV noTk,
  .int .i64 (if x=0 then (if n<z then 0 else n) else 0),.int .i64 (if x=0 then (if n<z then 4 else 0) else x)]):=by
  show intR _=_;rw [intR,hx,hv,hn,hz]
 have HNS:=HDK.out;clear hx hv hpn hn hz hE hlen;go_enter Tryz.func217,Tryz.ntmps217;go_wp2_with fail
 obtain ⟨W0,hW0⟩:∃W0,W0=w.alloc (.cells #[.int .i64 0,.string ⟨#[]⟩,.int .i64 0,.int .i64 0] 131):=⟨_,rfl⟩
 rw [<-hW0]
 have HT0:Hid (TkB W0 w.heap.size (.int .i64 0) (.string ⟨#[]⟩) (.int .i64 0) (.int .i64 0)):=by rw [hW0];exact TkB.new _ _ _ _ _
 have HB0:Hid (Below w.heap.size w W0):=by rw [hW0];exact (b_ _ w).alloc (n_ _) _
 clear hW0;refine (HP.out W0 (errAt_below HER.out HB0.out)).mono ?_;rintro e w1 ⟨rfl,hb⟩;have HT1:=h_ (HT0.out.below hb);have HB1:Hid (Below w.heap.size w w1):=HB0.out.trans (hb.mono HB0.out.size);clear hb;have c0:=HT1.out.c0;have c1:=HT1.out.c1;have c2:=HT1.out.c2;have c3:=HT1.out.c3;have f0:=HT1.out.fr 0;have f1:=HT1.out.fr 1;have f2:=HT1.out.fr 2;have f3:=HT1.out.fr 3
 by_cases hx0:x=0
 ·subst hx0;obtain rfl:pn=(n:Int):=HPN.out rfl
  by_cases hns:n<s.size
  ·have hns':(n:Int)<s.size:=by omega
   have HLT:Hid (n<z ↔ isLt s[n]=true):=by
    show _ ↔ _;rw [HDL.out,HGET.out n hns];simp
   have HLE:=h_ (λ W=>letter_any s[n] W)
   obtain ⟨d,hd⟩:∃d,isLt s[n]=d:=⟨_,rfl⟩
   rw [hd] at HLT HLE;clear hd;go_wp2_with fail;refine (HLE.out w1).mono ?_;rintro e w2 ⟨rfl,rfl⟩;cases d
   ·have hnz:¬n<z:=by rw [HLT.out];decide
    have HNZ:=h_ hnz;clear hnz;go_wp2_with fail;refine bodyPost_ret (TkB.res3 rfl _ rfl (HT1.out.all _ _ _ _)) rfl ?_;refine ⟨?_,below_all HB1.out (n_ _) _ _ _ _⟩;rw [HIR.out,if_pos trivial,if_pos trivial,if_pos trivial,if_neg HNZ.out,if_neg HNZ.out,if_neg HNZ.out];rfl
   ·have hnz:n<z:=by rw [HLT.out]
    have HNZ:=h_ hnz;clear hnz;go_wp2_with fail;refine bodyPost_ret (TkB.res3 rfl _ rfl (HT1.out.all _ _ _ _)) rfl ?_;refine ⟨?_,below_all HB1.out (n_ _) _ _ _ _⟩;rw [HIR.out,if_pos trivial,if_pos trivial,if_pos trivial,if_pos HNZ.out,if_pos HNZ.out,if_pos HNZ.out];rfl
  ·have hns':¬(n:Int)<s.size:=by omega
   have HNZ:Hid (¬n<z):=by
    show ¬_;rw [HDL.out];rintro ⟨c,hc,_⟩;have:=(List.getElem?_eq_some_iff.1 hc).1;exact hns this
   go_wp2_with fail;refine bodyPost_ret (TkB.res3 rfl _ rfl (HT1.out.all _ _ _ _)) rfl ?_;refine ⟨?_,below_all HB1.out (n_ _) _ _ _ _⟩;rw [HIR.out,if_pos trivial,if_pos trivial,if_pos trivial,if_neg HNZ.out,if_neg HNZ.out,if_neg HNZ.out];rfl
 ·have hx1:(x==0)=false:=by simpa using hx0
  have HX0:=h_ hx0;clear hx0;go_wp2_with fail;refine bodyPost_ret (TkB.res3 rfl _ rfl (HT1.out.all _ _ _ _)) rfl ?_;refine ⟨?_,below_all HB1.out (n_ _) _ _ _ _⟩;rw [HIR.out,if_neg HX0.out,if_neg HX0.out,if_neg HX0.out];rfl
end Go.Proofs.YtocecpghoncmgaaGreatDoor
