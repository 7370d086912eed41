import Derived.Test.YtocecpghoncmgaaGreatDoorQh
import Derived.Test.YtocecpghoncmgaaGreatDoorQEA
import Derived.Test.YtocecpghoncmgaaGreatDoorQPrD
import Derived.Lib.Builder
import Derived.Lib.AppendStr
import Derived.Lib.UnsafeStr
import Derived.Laws.Externs
import Derived.Test.YtocecpghoncmgaaGreatDoorQVaX
import Derived.Deep.CutRange
import Derived.Test.YtocecpghoncmgaaGreatDoorQXA
set_option maxHeartbeats 12800000
set_option maxRecDepth 20000
namespace Go.Proofs.YtocecpghoncmgaaGreatDoor
open Go.RowKit
def WB (w:World) (B b:Nat) (l:List UInt8) (n d:Nat):Prop :=
 B<=b/\∃p v,(p=Value.pointer none∨p=.pointer (some ⟨b,0,none⟩))/\w.heap[b]?=some (.cells #[p,v,.int .i64 (n:Int),.int .i64 (d:Int)] 276 (0,0)) /\
  w.ownsRow B 5 1 v l.length (Lib.byteCells l)/\v.ownBlock≠some b
theorem heap_lt {w:World} {b:Nat} {o:Obj} (h:w.heap[b]?=some o):b<w.heap.size:=by
 rcases Nat.lt_or_ge b w.heap.size with hlt|hge
 ·exact hlt
 ·rw [Array.getElem?_eq_none hge] at h;cases h
section
variable {w w':World} {B b:Nat} {l:List UInt8} {n d:Nat}
theorem WB.lt (h:WB w B b l n d):b<w.heap.size:=by
 obtain ⟨_,p,v,_,hb,_⟩:=h;exact heap_lt hb
theorem WB.c2 (h:WB w B b l n d):w.cell? ⟨b,2,none⟩=some (.int .i64 (n:Int)):=by
 obtain ⟨_,p,v,_,hb,_⟩:=h;rw [Lib.cell_of_heap hb];rfl
theorem WB.c3 (h:WB w B b l n d):w.cell? ⟨b,3,none⟩=some (.int .i64 (d:Int)):=by
 obtain ⟨_,p,v,_,hb,_⟩:=h;rw [Lib.cell_of_heap hb];rfl
theorem WB.fr (h:WB w B b l n d) (i:Nat):w.frozen? ⟨b,i,none⟩=false:=by
 obtain ⟨_,p,v,_,hb,_⟩:=h;exact Lib.frozen_of_heap hb i
theorem owns_set {w:World} {B e b i:Nat} {v x:Value} {m:Nat} {xs:List Value} (h:w.ownsRow B e 1 v m xs) (hne:v.ownBlock≠some b):(w.setCell ⟨b,i,none⟩ x).ownsRow B e 1 v m xs :=
 h.kept (row:=some b) ⟨rfl,rfl,rfl,by simp [World.setCell],λ k _ hk=>Below.heap_setCell _ _ _ _ (λ e=>hk (by simp [e]))⟩ (Or.inr hne)
theorem WB.set2 (h:WB w B b l n d) (n':Nat):WB (w.setCell ⟨b,2,none⟩ (.int .i64 (n':Int))) B b l n' d:=by
 obtain ⟨hB,p,v,hp,hb,ho,hne⟩:=h;exact ⟨hB,p,v,hp,heap_setCell_same w b 2 _ _ _ hb,owns_set ho hne,hne⟩
theorem WB.set3 (h:WB w B b l n d) (d':Nat):WB (w.setCell ⟨b,3,none⟩ (.int .i64 (d':Int))) B b l n d':=by
 obtain ⟨hB,p,v,hp,hb,ho,hne⟩:=h;exact ⟨hB,p,v,hp,heap_setCell_same w b 3 _ _ _ hb,owns_set ho hne,hne⟩
theorem WB.used (h:WB w B b l n d):WB (w.setCell ⟨b,0,none⟩ (.pointer (some ⟨b,0,none⟩))) B b l n d:=by
 obtain ⟨hB,p,v,hp,hb,ho,hne⟩:=h;exact ⟨hB,_,v,.inr rfl,heap_setCell_same w b 0 _ _ _ hb,owns_set ho hne,hne⟩
theorem WB.alloc (h:WB w B b l n d) (o:Obj):WB (w.alloc o) B b l n d:=by
 have hlt:=h.lt;obtain ⟨hB,p,v,hp,hb,ho,hne⟩:=h;exact ⟨hB,p,v,hp,(Below.heap_alloc w o b hlt).trans hb,ho.alloc _,hne⟩
theorem WB.below {u:World} (h:WB w B b l n d) (hb':Below w.heap.size w u):WB u B b l n d:=by
 have hlt:=h.lt;obtain ⟨hB,p,v,hp,hb,ho,hne⟩:=h;refine ⟨hB,p,v,hp,(hb'.block b hlt).trans hb,?_,hne⟩;refine ⟨ho.1,?_⟩;rcases ho.2 with hh|⟨g,cap,cur,h1,h2,h3,h4⟩
 ·exact .inl hh
 ·exact .inr ⟨g,cap,cur,h1,h2,(hb'.block g (heap_lt h3)).trans h3,h4⟩
end
theorem WB.put {w:World} {B b:Nat} {l':List UInt8} {n d:Nat} {p v v':Value} (hB:B<=b) (hp:p=Value.pointer none∨p=.pointer (some ⟨b,0,none⟩)) (hb:w.heap[b]?=some (.cells #[p,v,.int .i64 (n:Int),.int .i64 (d:Int)] 276 (0,0)))
  (ho:w.ownsRow B 5 1 v' l'.length (Lib.byteCells l')):WB (w.setCell ⟨b,1,none⟩ v') B b l' n d:=by
 have hne:=Lib.ownBlock_ne ho hb (by decide);exact ⟨hB,p,v',hp,heap_setCell_same w b 1 _ _ _ hb,owns_set ho hne,hne⟩
structure Wk (B b:Nat) (w w':World):Prop where
 below:Below B w w'
 keep:∀(g:Nat) (cs:Array Value) (T:TypeId) (fr:Nat×Nat),w.heap[g]?=some (.cells cs T fr)->g≠b->T≠5->w'.heap[g]?=some (.cells cs T fr)
section
variable {B b:Nat} {w w' w'':World}
theorem Wk.refl (B b:Nat) (w:World):Wk B b w w:=⟨b_ B w,λ _ _ _ _ h _ _=>h⟩
theorem Wk.trans (h:Wk B b w w') (h':Wk B b w' w''):Wk B b w w'':=⟨h.below.trans h'.below,λ g cs T fr hg hn ht=>h'.keep g cs T fr (h.keep g cs T fr hg hn ht) hn ht⟩
theorem Wk.of (hB:B<=w.heap.size) (h:Below w.heap.size w w'):Wk B b w w':=⟨h.mono hB,λ _ _ _ _ hg _ _=>(h.block _ (heap_lt hg)).trans hg⟩
theorem Wk.set (hB:B<=b) (i:Nat) (x:Value):Wk B b w (w.setCell ⟨b,i,none⟩ x):=⟨(b_ B w).setCell (p:=⟨b,i,none⟩) hB x,λ g _ _ _ hg hn _=>(Below.heap_setCell w ⟨b,i,none⟩ x g hn).trans hg⟩
theorem Wk.alloc (hB:B<=w.heap.size) (o:Obj):Wk B b w (w.alloc o):=Wk.of hB ((b_ _ w).alloc (n_ _) o)
theorem Wk.size (h:Wk B b w w'):w.heap.size<=w'.heap.size:=h.below.size
end
set_option maxRecDepth 100000 in
theorem check_any (w:World) (B b:Nat) (l:List UInt8) (n d:Nat) (h:WB w B b l n d) :
  Calls Tryz.prog 283 #[.pointer (some ⟨b,0,none⟩)] w λ e w'=>e=.returned (.tuple #[])/\WB w' B b l n d/\Wk B b w w':=by
 have HW:=h_ h;obtain ⟨hB,p,v,hp,hb,_,_⟩:=h
 have h0:w.cell? ⟨b,0,none⟩=some p:=by rw [Lib.cell_of_heap hb];rfl
 have hfr:=HW.out.fr 0
 have hsh:w.shape? b=some (276,4):=by simp [World.shape?,hb]
 obtain ⟨j,hj,hjs⟩:=Option.map_eq_some_iff.1 (show (Tryz.prog.info? 99).map (·.size)=some 2 by kernel_rfl)
 have HL:liesAt Tryz.prog Tryz.prog.depth 276 (4 / Tryz.prog.cellsOf 276) 0 99 1=true:=by kernel_rfl
 clear hb;rcases hp with rfl|rfl
 ·go_enter Tryz.func283,Tryz.ntmps283
  go_wp2
  rw [Lib.run_to_unsafe w ⟨b,0,none⟩ Tryz.underlying96 Tryz.underlying313 hj (by rw [hjs];decide) hsh (Nat.zero_lt_succ 3)];simp only [Result.andThen];rw [Oper.upon_value]
  go_wp2
  rw [run_callFunc_extern Tryz.func313 (by kernel_rfl) (by kernel_rfl) (by kernel_rfl) (e:=Extern.AbiNoEscape.same) (by kernel_rfl)];rw [Lib.run_noEscape];simp only [Result.andThen];rw [Oper.upon_value]
  go_wp2
  rw [Lib.run_from_unsafe w ⟨b,0,none⟩ Tryz.underlying313 Tryz.underlying96 hj hsh HL];simp only [Result.andThen];rw [Oper.upon_value]
  go_wp2
  go_end0;exact ⟨rfl,HW.out.used,Wk.set hB 0 _⟩
 ·go_enter Tryz.func283,Tryz.ntmps283
  go_wp2
  rw [Lib.run_neq_ptr_same w _ Tryz.underlying96 hj]
  go_wp2
  go_end0;exact ⟨rfl,HW.out,Wk.refl B b w⟩
set_option maxRecDepth 100000 in
theorem blen_any (w:World) (B b:Nat) (l:List UInt8) (n d:Nat) (h:WB w B b l n d) :
  Calls Tryz.prog 44 #[.pointer (some ⟨b,0,none⟩)] w λ e w'=>e=.returned (.int .i64 l.length)/\w'=w:=by
 obtain ⟨hB,p,v,hp,hb,hown,_⟩:=h
 obtain ⟨ao,cap,rfl⟩:∃ao cap,v=.slice ao l.length cap:=by
  rcases hown.2 with ⟨hv,h0⟩|⟨g,cap,cur,hv,_⟩
  ·exact ⟨none,0,by rw [hv,h0]⟩
  ·exact ⟨_,_,hv⟩
 have c1:w.cell? ⟨b,1,none⟩=some (.slice ao l.length cap):=by rw [Lib.cell_of_heap hb];rfl
 clear hb hown hp;go_enter Tryz.func44,Tryz.ntmps44
 go_wp2
 go_ret;exact ⟨rfl,rfl⟩
set_option maxRecDepth 100000 in
theorem bwrite_any (w:World) (B b:Nat) (l:List UInt8) (n d:Nat) (s:ByteArray) (h:WB w B b l n d) (hlen:l.length+s.size<=140737488355328) (hBw:B<=w.heap.size) :
  Calls Tryz.prog 247 #[.pointer (some ⟨b,0,none⟩),.string s] w λ e w'=>e=.returned (.tuple #[.int .i64 s.size,.nilIface])/\WB w' B b (l++s.data.toList) n d/\Wk B b w w':=by
 obtain ⟨i0,hi,hz0,hz1,hz2⟩:=info_parts (show (Tryz.prog.info? 5).map (λ i=>(i.zero,i.size,i.bytes))=some (some (.int .u8 0),1,1) by kernel_rfl);have HC:=h_ (check_any w B b l n d h);clear h;go_enter Tryz.func247,Tryz.ntmps247;go_wp2_with (go_at_call 283;refine HC.out.mono ?_);rintro e w1 ⟨rfl,h1,hb1⟩;obtain ⟨hB,p,v,hp,hbk,hown,hne⟩:=h1
 have c0:w1.cell? ⟨b,0,none⟩=some p:=by rw [Lib.cell_of_heap hbk];rfl
 have c1:w1.cell? ⟨b,1,none⟩=some v:=by rw [Lib.cell_of_heap hbk];rfl
 go_wp2_with (at_builtin;refine Lib.wpList_append_own_string _ rfl _ _ 97 9 rfl B 5 i0 Tryz.underlying97 Tryz.underlying9 hi hz0 hz1 hz2 _ _ _ rfl hown s rfl ?c3 ?c4 ?c5 ?_)
 case c3=>unfold maxLen;omega
 case c4=>omega
 case c5=>have:=hb1.size;omega
 intro v' w2 hown' hgrow _;have hlt:b<w1.heap.size:=heap_lt hbk
 have hb2:w2.heap[b]?=some (.cells #[p,v,.int .i64 (n:Int),.int .i64 (d:Int)] 276 (0,0)):=by
  rw [hgrow.block b hlt (λ e=>hne e.symm)];exact hbk
 have d0:w2.cell? ⟨b,0,none⟩=some p:=by rw [Lib.cell_of_heap hb2];rfl
 have d1:w2.cell? ⟨b,1,none⟩=some v:=by rw [Lib.cell_of_heap hb2];rfl
 have f1:w2.frozen? ⟨b,1,none⟩=false:=Lib.frozen_of_heap hb2 1
 obtain ⟨ao,n',cap,rfl⟩:∃ao n' cap,v'=.slice ao n' cap:=by
  rcases hown'.2 with ⟨hv,_⟩|⟨g,cap,cur,hv,_⟩
  ·exact ⟨_,_,_,hv⟩
  ·exact ⟨_,_,_,hv⟩
 go_wp2
 go_ret2;refine ⟨rfl,?_,?_⟩
 ·refine WB.put hB hp hb2 ?_;rw [Lib.byteCells_append,List.length_append];exact hown'
 ·refine hb1.trans (Wk.trans ⟨(b_ B w1).grown hgrow (by have:=hb1.size;omega) (λ k hk=>(hown.lt k hk).1),λ g cs T fr hg hn ht=>?_⟩ (Wk.set hB 1 _));rw [hgrow.block g (heap_lt hg) (λ e=>?_)]
  ·exact hg
  ·rcases hown.2 with ⟨rfl,_⟩|⟨g',cap',cur,rfl,_,hg',_⟩
   ·simp [Value.ownBlock] at e
   ·simp only [Value.ownBlock,j_] at e;subst e;rw [hg'] at hg;injection hg with hg;injection hg with _ hT _;exact ht hT.symm
set_option maxRecDepth 100000 in
theorem bstring_any (w:World) (B b:Nat) (l:List UInt8) (n d:Nat) (h:WB w B b l n d) (h0:l≠[]) :
  Calls Tryz.prog 45 #[.pointer (some ⟨b,0,none⟩)] w λ e w'=>e=.returned (.string ⟨l.toArray⟩)/\Below B w w':=by
 obtain ⟨hB,p,v,hp,hbk,hown,hne⟩:=h
 have hl0:l.length≠0:=by simpa using h0
 obtain ⟨g,cap,cur,rfl,hbg,hg,hnc,hcm,hcs,htake⟩:∃g cap cur,v=.slice (some ⟨g,0,none⟩) l.length cap/\B<=g/\w.heap[g]?=some (.cells cur 5 (0,0))/\l.length<=cap/\cap<=maxLen/\cur.size=cap*1/\cur.toList.take (l.length*1)=Lib.byteCells l:=by
  rcases hown.2 with ⟨_,hz⟩|⟨g,cap,cur,hv,r⟩
  ·exact absurd hz hl0
  ·exact ⟨g,cap,cur,hv,r⟩
 have c1:w.drew.cell? ⟨b,1,none⟩=some (.slice (some ⟨g,0,none⟩) l.length cap):=by
  have:w.drew.heap[b]?=some (.cells #[p,.slice (some ⟨g,0,none⟩) l.length cap,.int .i64 (n:Int),.int .i64 (d:Int)] 276 (0,0)):=hbk;rw [Lib.cell_of_heap this];rfl
 have hSD:(Builtin.unsafeSliceData_ #[97] 154 #[.slice (some ⟨g,0,none⟩) l.length cap]).run Tryz.prog w.drew=.ok (.pointer (some ⟨g,0,none⟩)) w.drew :=
  Lib.run_unsafeSliceData_row _ _ _ _ _ _ (by omega)
 have hUS:(Builtin.unsafeString_ #[154,3] 9 #[.pointer (some ⟨g,0,none⟩),.int .i64 l.length]).run Tryz.prog w.drew=.ok (.string ⟨l.toArray⟩) (w.drew.freeze ⟨g,0,none⟩ l.length):=by
  refine Lib.run_unsafeString_row w.drew 154 3 9 5 Tryz.underlying154 (by kernel_rfl) g cur.size (by have hg':w.drew.heap[g]?=some (.cells cur 5 (0,0)):=hg;simp [World.shape?,hg']) l h0 (by omega) (by unfold maxLen at hcm;omega) ?_;intro j x hx;have:=hown.cells (g:=g) rfl j (.int .u8 x.toNat) (by simp [Lib.byteCells,hx]);exact this
 clear hbk hown hg htake;go_enter Tryz.func45,Tryz.ntmps45
 go_wp2
 go_region
 all_goals (go_wp2;go_ret;exact ⟨rfl,Lib.below_freeze (Below.drew (b_ B w)) (p:=⟨g,0,none⟩) hbg _⟩)
def flat (ss:List ByteArray):List UInt8:=(ss.map λ s=>s.data.toList).flatten
theorem flat_nil:flat []=[]:=rfl
theorem flat_cons (s:ByteArray) (ss:List ByteArray):flat (s::ss)=s.data.toList++flat ss:=by simp [flat]
def StR (w:World) (g:Nat) (ss:List ByteArray):Prop:=w.heap[g]?=some (.cells (ss.map λ s=>Value.string s).toArray 9 (0,0))
theorem StR.cell {w:World} {g:Nat} {ss:List ByteArray} (h:StR w g ss) {i:Nat} {s:ByteArray} (hi:ss[i]?=some s):w.cell? ⟨g,i,none⟩=some (.string s):=by
 rw [cell_of_row w g i _ _ _ h];simp [hi]
theorem StR.wk {B b:Nat} {w w':World} {g:Nat} {ss:List ByteArray} (h:StR w g ss) (hk:Wk B b w w') (hn:g≠b):StR w' g ss:=hk.keep _ _ _ _ h hn (by decide)
theorem XpB.wk {B b:Nat} {w w':World} {g:Nat} {v:EV} (h:XpB w g v) (hk:Wk B b w w') (hn:g≠b):XpB w' g v:=hk.keep _ _ _ _ h hn (by decide)
theorem drop_flat {ss:List ByteArray} {i:Nat} {s:ByteArray} (h:ss[i]?=some s):flat (ss.take (i+1))=flat (ss.take i)++s.data.toList:=by
 have hl:=(List.getElem?_eq_some_iff.1 h)
 obtain ⟨hl,he⟩:=hl;rw [List.take_add_one,h];simp [flat]
theorem flat_le {ss:List ByteArray} {M:Nat} (h:∀s∈ss,s.size<=M) (i:Nat):(flat (ss.take i)).length<=i*M:=by
 induction i with
 |zero=>simp [flat]
 |succ i ih =>
  cases hs:ss[i]? with
  |none =>
   rw [List.getElem?_eq_none_iff] at hs;rw [List.take_of_length_le (by omega)];rw [List.take_of_length_le hs] at ih;rw [Nat.succ_mul];omega
  |some s =>
   rw [drop_flat hs,List.length_append];have h1:=h s (List.mem_of_getElem? hs);have h2:s.data.toList.length=s.size:=rfl;rw [Nat.succ_mul];omega
theorem put_any (w:World) (B b g m:Nat) (l:List UInt8) (n d:Nat) (ss:List ByteArray) (h:WB w B b l n d) (hs:StR w g ss) (hm:ss.length=m) (hg:g≠b) (hM:∀s∈ss,s.size<=1000000000) (h3:m<=3) (hl:l.length<=1000000000) (hBw:B<=w.heap.size) :
  Calls Tryz.prog 294 #[.pointer (some ⟨b,0,none⟩),.slice (some ⟨g,0,none⟩) m m] w λ e w'=>e=.returned (.bool (decide ((l++flat ss).length<=16384)))/\WB w' B b (l++flat ss) n d/\Wk B b w w':=by
 have HW:=h_ h;have HS:=h_ hs;have HM:=h_ hm;have HB:=h_ hM;have HFL:=h_ (λ i=>flat_le hM i)
 obtain ⟨R,hR⟩:∃R:Bool,decide ((l++flat ss).length<=16384)=R:=⟨_,rfl⟩
 rw [hR];have HR:=h_ hR;clear h hs hm hM hR;go_enter Tryz.func294,Tryz.ntmps294;go_wp2_with fail
 go_loopw [9] (λ iv wr=>∃i:Nat,i<=m/\iv=.int .i64 (i:Int)/\Hid (WB wr B b (l++flat (ss.take i)) n d)/\Hid (Wk B b w wr)) (λ iv _=>m-(intOf iv).toNat)
 case atStart=>exact ⟨0,Nat.zero_le _,rfl,by show WB _ _ _ _ _ _;rw [List.take_zero,flat_nil,List.append_nil];exact HW.out,Wk.refl _ _ _⟩
 case round =>
  obtain ⟨i,hi,rfl,HWB,HWK⟩:=hrel
  by_cases him:i<m
  ·have him':(i:Int)<m:=by omega
   obtain ⟨s,hsi⟩:∃s,ss[i]?=some s:=⟨_,List.getElem?_eq_getElem (by rw [HM.out];exact him)⟩
   have u1:=(HS.out.wk HWK.out hg).cell hsi;have hsz:=HB.out s (List.mem_of_getElem? hsi);have hfl:=HFL.out i;have HC:=h_ (bwrite_any wr B b _ n d s HWB.out (by rw [List.length_append];have:i*1000000000<=3*1000000000:=Nat.mul_le_mul_right _ (by omega);omega) (Nat.le_trans hBw HWK.out.size));rw [a_,<-drop_flat hsi] at HC;clear hsi hsz hfl;go_wp2_with fail;refine HC.out.mono ?_;rintro e w2 ⟨rfl,hw,hk⟩;have HWB2:=h_ hw;have HWK2:=h_ (HWK.out.trans hk);clear hw hk HC HWB HWK u1;go_wp2_with fail
   go_roundw
   case rel=>exact ⟨i+1,by omega,by go_num,HWB2,HWK2⟩
   case measure=>simp [intOf];omega
  ·have him':¬(i:Int)<m:=by omega
   have hmi:i=m:=by omega
   subst hmi
   have HWF:Hid (WB wr B b (l++flat ss) n d):=by
    have:=HWB.out;rw [List.take_of_length_le (by rw [HM.out];exact n_ _)] at this;exact this
   have HC:=h_ (blen_any wr B b _ n d HWF.out)
   obtain ⟨L,hL⟩:∃L,(l++flat ss).length=L:=⟨_,rfl⟩
   rw [hL] at HC HR;clear HWB hL;go_wp2_with fail;refine HC.out.mono ?_;rintro e w2 ⟨rfl,rfl⟩
   by_cases hc:L<=16384
   ·have hc':(L:Int)<=16384:=by omega
    obtain rfl:R=true:=by rw [<-HR.out,decide_eq_true hc]
    go_wp2_with fail;go_ret;exact ⟨rfl,HWF.out,HWK.out⟩
   ·have hc':¬(L:Int)<=16384:=by omega
    obtain rfl:R=false:=by rw [<-HR.out,decide_eq_false hc]
    go_wp2_with fail;go_ret;exact ⟨by first|rfl|(simp;omega),HWF.out,HWK.out⟩
theorem count_any (w:World) (B b:Nat) (l:List UInt8) (n d:Nat) (h:WB w B b l n d) (hn:n<=1000000000) :
  Calls Tryz.prog 292 #[.pointer (some ⟨b,0,none⟩)] w λ e w'=>e=.returned (.bool (decide (n+1<=16384)))/\WB w' B b l (n+1) d/\Wk B b w w':=by
 have HW:=h_ h;have r2:=h.c2;have f2:=h.fr 2
 have hn':(n:Int)<=1000000000:=by omega
 obtain ⟨W1,hW1⟩:∃W1,W1=w.setCell ⟨b,2,none⟩ (.int .i64 ((n:Int)+1)):=⟨_,rfl⟩
 have HW1:Hid (WB W1 B b l (n+1) d):=by
  have h1:=h.set2 (n+1);rw [Int.natCast_add] at h1;rw [hW1];exact h1
 have HK:Hid (Wk B b w W1):=by rw [hW1];exact Wk.set h.1 2 _
 have r3:=HW1.out.c2;rw [Int.natCast_add] at r3;replace r3:W1.cell? ⟨b,2,none⟩=some (.int .i64 ((n:Int)+1)):=r3
 obtain ⟨R,hR⟩:∃R:Bool,decide (n+1<=16384)=R:=⟨_,rfl⟩
 rw [hR];have HR:=h_ hR;clear h hR;go_enter Tryz.func292,Tryz.ntmps292;go_upto_region 2 with fail;rw [<-hW1];clear hW1
 by_cases hc:n+1<=16384
 ·have hc':(n:Int)+1<=16384:=by omega
  obtain rfl:R=true:=by rw [<-HR.out,decide_eq_true hc]
  go_wp2_with fail;go_ret;exact ⟨rfl,HW1.out,HK.out⟩
 ·have hc':¬(n:Int)+1<=16384:=by omega
  obtain rfl:R=false:=by rw [<-HR.out,decide_eq_false hc]
  go_wp2_with fail;go_ret;exact ⟨rfl,HW1.out,HK.out⟩
theorem StR.one (w:World) (s:ByteArray):StR (w.alloc (.cells #[.string s] 9)) w.heap.size [s]:=heap_alloc_new w _
theorem StR.three (w:World) (s t u:ByteArray):StR (w.alloc (.cells #[.string s,.string t,.string u] 9)) w.heap.size [s,t,u]:=heap_alloc_new w _
theorem enter_any (w:World) (B b:Nat) (l:List UInt8) (n d:Nat) (s:ByteArray) (h:WB w B b l n d) (hd:d<=1000000) (hs:s.size<=1000000000) (hl:l.length<=1000000000) (hBw:B<=w.heap.size) :
  Calls Tryz.prog 295 #[.pointer (some ⟨b,0,none⟩),.string s] w λ e w' =>
   (e=.returned (.bool (decide (d+1<=20/\(l++s.data.toList).length<=16384))))/\(d+1<=20->WB w' B b (l++s.data.toList) n (d+1))/\Wk B b w w':=by
 have HW:=h_ h;have r2:=h.c3;have f2:=h.fr 3
 have hd':(d:Int)<=1000000:=by omega
 obtain ⟨W1,hW1⟩:∃W1,W1=w.setCell ⟨b,3,none⟩ (.int .i64 ((d:Int)+1)):=⟨_,rfl⟩
 have HW1:Hid (WB W1 B b l n (d+1)):=by
  have h1:=h.set3 (d+1);rw [Int.natCast_add] at h1;rw [hW1];exact h1
 have HK:Hid (Wk B b w W1):=by rw [hW1];exact Wk.set h.1 3 _
 have r3:=HW1.out.c3;rw [Int.natCast_add] at r3;replace r3:W1.cell? ⟨b,3,none⟩=some (.int .i64 ((d:Int)+1)):=r3
 obtain ⟨g1,hg1⟩:∃g1,g1=W1.heap.size:=⟨_,rfl⟩
 obtain ⟨W2,hW2⟩:∃W2,W2=W1.alloc (.cells #[.string s] 9):=⟨_,rfl⟩
 have HK2:Hid (Wk B b w W2):=by rw [hW2];exact HK.out.trans (Wk.alloc (Nat.le_trans hBw HK.out.size) _)
 have HC:=h_ (put_any W2 B b g1 1 l n (d+1) [s] (by rw [hW2];exact HW1.out.alloc _) (by rw [hW2,hg1];exact StR.one W1 s) rfl (by have:=HW1.out.lt;omega) (λ t ht=>by rw [List.mem_singleton.1 ht];exact hs) (by omega) hl (Nat.le_trans hBw HK2.out.size));rw [flat_cons,flat_nil,List.append_nil] at HC
 obtain ⟨R,hR⟩:∃R:Bool,decide (d+1<=20/\(l++s.data.toList).length<=16384)=R:=⟨_,rfl⟩
 obtain ⟨R2,hR2⟩:∃R2:Bool,decide ((l++s.data.toList).length<=16384)=R2:=⟨_,rfl⟩
 rw [hR];rw [hR2] at HC;have HR:=h_ hR;have HR2:=h_ hR2;clear h hR hR2;go_enter Tryz.func295,Tryz.ntmps295;go_upto_region 2 with fail;rw [<-hW1];clear hW1
 by_cases hc:d+1<=20
 ·have hc':(d:Int)+1<=20:=by omega
  go_wp2_with fail;rw [<-hW2,<-hg1];clear hW2 hg1;refine HC.out.mono ?_;rintro e w2 ⟨rfl,hw,hk⟩;have HWB2:=h_ hw;have HWK2:=h_ (HK2.out.trans hk)
  obtain rfl:R=R2:=by rw [<-HR.out,<-HR2.out];simp [hc]
  have HC0:=h_ hc;clear hw hk HC hc;go_wp2_with fail;go_ret;exact ⟨rfl,λ _=>HWB2.out,HWK2.out⟩
 ·have hc':¬(d:Int)+1<=20:=by omega
  obtain rfl:R=false:=by rw [<-HR.out];simp [hc]
  have HC0:=h_ hc;clear hc;go_wp2_with fail;go_ret;exact ⟨rfl,λ hh=>absurd hh (by have:=HC0.out;omega),HK.out⟩
theorem leave_any (w:World) (B b:Nat) (l:List UInt8) (n d:Nat) (s:ByteArray) (h:WB w B b l n (d+1)) (hd:d<=1000000) (hs:s.size<=1000000000) (hl:l.length<=1000000000) (hBw:B<=w.heap.size) :
  Calls Tryz.prog 297 #[.pointer (some ⟨b,0,none⟩),.string s] w λ e w' =>
   (e=.returned (.bool (decide ((l++s.data.toList).length<=16384))))/\WB w' B b (l++s.data.toList) n d/\Wk B b w w':=by
 have HW:=h_ h;have r2:=h.c3;rw [Int.natCast_add] at r2;replace r2:w.cell? ⟨b,3,none⟩=some (.int .i64 ((d:Int)+1)):=r2;have f2:=h.fr 3
 have hd':(d:Int)<=1000000:=by omega
 obtain ⟨W1,hW1⟩:∃W1,W1=w.setCell ⟨b,3,none⟩ (.int .i64 (d:Int)):=⟨_,rfl⟩
 have HW1:Hid (WB W1 B b l n d):=by
  rw [hW1];exact h.set3 d
 have HK:Hid (Wk B b w W1):=by rw [hW1];exact Wk.set h.1 3 _
 obtain ⟨g1,hg1⟩:∃g1,g1=W1.heap.size:=⟨_,rfl⟩
 obtain ⟨W2,hW2⟩:∃W2,W2=W1.alloc (.cells #[.string s] 9):=⟨_,rfl⟩
 have HK2:Hid (Wk B b w W2):=by rw [hW2];exact HK.out.trans (Wk.alloc (Nat.le_trans hBw HK.out.size) _)
 have HC:=h_ (put_any W2 B b g1 1 l n d [s] (by rw [hW2];exact HW1.out.alloc _) (by rw [hW2,hg1];exact StR.one W1 s) rfl (by have:=HW1.out.lt;omega) (λ t ht=>by rw [List.mem_singleton.1 ht];exact hs) (by omega) hl (Nat.le_trans hBw HK2.out.size));rw [flat_cons,flat_nil,List.append_nil] at HC
 obtain ⟨R,hR⟩:∃R:Bool,decide ((l++s.data.toList).length<=16384)=R:=⟨_,rfl⟩
 rw [hR] at HC ⊢;clear h hR;go_enter Tryz.func297,Tryz.ntmps297;go_upto_region 2 with fail
 have e1:(d:Int)+1-1=d:=by omega
 try rw [e1]
 rw [<-hW1];clear hW1;go_wp2_with fail;rw [<-hW2,<-hg1];clear hW2 hg1;refine HC.out.mono ?_;rintro e w2 ⟨rfl,hw,hk⟩;have HWB2:=h_ hw;have HWK2:=h_ (HK2.out.trans hk);clear hw hk HC;go_wp2_with fail;go_ret;exact ⟨rfl,HWB2.out,HWK2.out⟩
def bnd (op:Int):Nat:=if rowOf op<6 then rowOf op+1 else 0
theorem op_cases (op:Int):(op=1∨op=2∨op=3∨op=4∨op=5∨op=6∨op=7∨op=8∨op=9∨op=10∨op=11∨op=12∨op=13)∨((op==1)=false/\(op==2)=false/\(op==3)=false/\(op==4)=false/\(op==5)=false/\(op==6)=false/\(op==7)=false/\(op==8)=false/\(op==9)=false/\(op==10)=false/\(op==11)=false/\(op==12)=false/\(op==13)=false/\bnd op=0):=by
 by_cases h:rowOf op<6
 ·exact .inl (row_cases h)
 ·refine .inr ?_
  have h':bnd op=0:=by unfold bnd;rw [if_neg h]
  unfold rowOf at h;simp only [beq_eq_false_iff_ne]
  refine ⟨?_,?_,?_,?_,?_,?_,?_,?_,?_,?_,?_,?_,?_,h'⟩ <;> (rintro rfl;exact h (by decide))
theorem binding_any (op:Int) (w:World):Calls Tryz.prog 298 #[.int .i64 op] w λ e w'=>e=.returned (.int .i64 (bnd op:Nat))/\w'=w:=by
 rcases op_cases op with (rfl|rfl|rfl|rfl|rfl|rfl|rfl|rfl|rfl|rfl|rfl|rfl|rfl)|⟨h1,h2,h3,h4,h5,h6,h7,h8,h9,h10,h11,h12,h13,h0⟩
 all_goals
  try rw [h0]
  go_enter Tryz.func298,Tryz.ntmps298;go_wp2_with fail;go_ret;exact ⟨rfl,rfl⟩
theorem ok1 (n:Int) (S:ByteArray) (o:Int) (m:Nat):nodeOk 1 n S.data.toList o m=(((o==0)&&((m:Int)==0))&&(decide (0<=n)&&S.toList.isEmpty)):=by
 unfold nodeOk;rw [if_pos rfl,<-Lib.toList_data]
 rcases hS:S.toList with _|⟨c,r⟩ <;> by_cases h1:o=0 <;> by_cases h2:m=0 <;> by_cases h3:0<=n <;> simp [h1,h2,h3]
theorem ok2 (k n:Int) (S:ByteArray) (o:Int) (m:Nat) (hk:k=2∨k=3):nodeOk k n S.data.toList o m=(((o==0)&&((m:Int)==0))&&((n==0)&&isNm S.data.toList)):=by
 unfold nodeOk;rw [if_neg (by omega),if_pos hk]
 by_cases h1:o=0 <;> by_cases h2:m=0 <;> by_cases h3:n=0 <;> simp [h1,h2,h3]
theorem ok4 (n:Int) (S:ByteArray) (o:Int) (m:Nat):nodeOk 4 n S.data.toList o m=(((n==0)&&S.toList.isEmpty)&&(((o==14) || (o==15))&&((m:Int)==1))):=by
 unfold nodeOk;rw [if_neg (by decide),if_neg (by decide),if_pos rfl,<-Lib.toList_data]
 have e:((m:Int)==1)=decide (m=1):=by
  by_cases h:m=1
  ·simp [h]
  ·rw [decide_eq_false h,beq_eq_false_iff_ne];omega
 rw [e]
 rcases hS:S.toList with _|⟨c,r⟩ <;> by_cases h1:n=0 <;> by_cases h2:o=14 <;> by_cases h3:o=15 <;> simp [h1,h2,h3]
theorem ok5 (n:Int) (S:ByteArray) (o:Int) (m:Nat):nodeOk 5 n S.data.toList o m=(((n==0)&&S.toList.isEmpty)&&(!(((bnd o:Nat):Int)==0)&&((m:Int)==2))):=by
 unfold nodeOk bnd;rw [if_neg (by decide),if_neg (by decide),if_neg (by decide),if_pos rfl,<-Lib.toList_data]
 have e:((m:Int)==2)=decide (m=2):=by
  by_cases h:m=2
  ·simp [h]
  ·rw [decide_eq_false h,beq_eq_false_iff_ne];omega
 have e2:(!(((if rowOf o<6 then rowOf o+1 else 0:Nat):Int)==0))=decide (rowOf o<6):=by
  by_cases h:rowOf o<6
  ·rw [if_pos h,decide_eq_true h];have:(((rowOf o+1:Nat):Int)==0)=false:=beq_eq_false_iff_ne.2 (by omega);rw [this];rfl
  ·rw [if_neg h,decide_eq_false h];rfl
 rw [e,e2]
 rcases hS:S.toList with _|⟨c,r⟩ <;> by_cases h1:n=0 <;> simp [h1]
theorem ok0 (k n:Int) (s:List UInt8) (o:Int) (m:Nat) (h1:¬k=1) (h2:¬(k=2∨k=3)) (h4:¬k=4) (h5:¬k=5):nodeOk k n s o m=false:=by
 unfold nodeOk;rw [if_neg h1,if_neg h2,if_neg h4,if_neg h5]
theorem formed_any (w:World) (v:EV) (hs:v.name.size<=140737488351232) (hK:KwAt w) :
  Calls Tryz.prog 293 #[v.val] w λ e w'=>e=.returned (.bool (nodeOk v.kind v.num v.name.data.toList v.op v.len))/\Below w.heap.size w w':=by
 obtain ⟨g1,hg1⟩:∃g1,g1=w.heap.size:=⟨_,rfl⟩
 obtain ⟨W0,hW0⟩:∃W0,W0=w.alloc (.cells #[.int .i64 v.kind,.int .i64 v.num,.string v.name,.int .i64 v.op,.slice v.A v.len v.cap,.int .i64 v.p] 55):=⟨_,rfl⟩
 have HX:Hid (XpB W0 g1 v):=by rw [hW0,hg1];exact XpB.new w v
 have HB0:Hid (Below w.heap.size w W0):=by rw [hW0];exact (b_ _ w).alloc (n_ _) _
 obtain ⟨k,num,S,op,A,len,cap,p⟩:=v;simp only at hs hW0;show Calls _ _ #[.agg #[.int .i64 k,.int .i64 num,.string S,.int .i64 op,.slice A len cap,.int .i64 p]] _ _;simp only;have HNM:=h_ (name_any S W0 hs (hK.below HB0.out));have HBI:=h_ (binding_any op W0);have z0:=HX.out.c0;have z1:=HX.out.c1;have z2:=HX.out.c2;have z3:=HX.out.c3;have z4:=HX.out.c4;simp only at z0 z1 z2 z3 z4
 obtain ⟨P,hP⟩:∃P,((num==0)&&S.toList.isEmpty)=P:=⟨_,rfl⟩
 obtain ⟨Q,hQ⟩:∃Q,((op==0)&&((len:Int)==0))=Q:=⟨_,rfl⟩
 have HP:=h_ hP;have HQ:=h_ hQ
 obtain ⟨R,hR⟩:∃R,nodeOk k num S.data.toList op len=R:=⟨_,rfl⟩
 rw [hR];have HR:=h_ hR;clear hs hK hP hQ hR;go_enter Tryz.func293,Tryz.ntmps293;go_upto_region 1 with fail;rw [<-hW0,<-hg1];clear hW0 hg1
 go_cut [3] from 5 to 12 (λ s3 wr=>s3=.bool P/\W0=wr)
 case first =>
  cases h1:(num==0) <;> cases h2:S.toList.isEmpty
  all_goals
   go_wp2_with fail
   go_meet
   exact ⟨by rw [<-HP.out,h1,h2];rfl,rfl⟩
 case rest =>
 obtain ⟨rfl,rfl⟩:=hcut;go_upto_region 2 with fail
 go_cut [4] from 13 to 21 (λ s4 wr=>s4=.bool Q/\W0=wr)
 case first =>
  cases h1:(op==0) <;> cases h2:((len:Int)==0)
  all_goals
   go_wp2_with fail
   go_meet
   exact ⟨by rw [<-HQ.out,h1,h2];rfl,rfl⟩
 case rest =>
 obtain ⟨rfl,rfl⟩:=hcut
 by_cases k1:k=1
 ·subst k1;have HR1:=h_ ((ok1 num S op len).symm.trans HR.out);rw [HQ.out] at HR1;clear HR HNM HBI
  by_cases h3:0<=num
  ·rw [decide_eq_true h3] at HR1
   cases Q <;> cases h2:S.toList.isEmpty
   all_goals
    rw [h2] at HR1;obtain rfl:=HR1.out;go_wp2_with fail;go_ret;exact ⟨by first|rfl|simp,HB0.out⟩
  ·rw [decide_eq_false h3] at HR1
   cases Q <;> cases h2:S.toList.isEmpty
   all_goals
    rw [h2] at HR1;obtain rfl:=HR1.out;go_wp2_with fail;go_ret;exact ⟨by first|rfl|simp,HB0.out⟩
 ·by_cases k2:k=2∨k=3
  ·have HR1:=h_ ((ok2 k num S op len k2).symm.trans HR.out);rw [HQ.out] at HR1
   obtain ⟨c,hc⟩:∃c,isNm S.data.toList=c:=⟨_,rfl⟩
   rw [hc] at HR1 HNM;clear HR HBI hc;rcases k2 with rfl|rfl
   all_goals
    cases Q <;> cases h2:(num==0)
    all_goals
     rw [h2] at HR1;obtain rfl:=HR1.out;go_wp2_with (refine HNM.out.mono ?_;rintro e w1 ⟨rfl,rfl⟩);go_ret;exact ⟨by first|rfl|simp,HB0.out⟩
  ·have hk2:¬k=2:=λ h=>k2 (.inl h);have hk3:¬k=3:=λ h=>k2 (.inr h);have b1:(k==1)=false:=beq_eq_false_iff_ne.2 k1;have b2:(k==2)=false:=beq_eq_false_iff_ne.2 hk2;have b3:(k==3)=false:=beq_eq_false_iff_ne.2 hk3
   by_cases k4:k=4
   ·subst k4;have HR1:=h_ ((ok4 num S op len).symm.trans HR.out);rw [HP.out] at HR1;clear HR HNM HBI b1 b2 b3 k1 k2 hk2 hk3
    cases P <;> cases h2:(op==14) <;> cases h3:(op==15) <;> cases h4:((len:Int)==1)
    all_goals
     rw [h2,h3,h4] at HR1;obtain rfl:=HR1.out;go_wp2_with fail;go_ret;exact ⟨by first|rfl|simp,HB0.out⟩
   ·have b4:(k==4)=false:=beq_eq_false_iff_ne.2 k4
    by_cases k5:k=5
    ·subst k5;have HR1:=h_ ((ok5 num S op len).symm.trans HR.out);rw [HP.out] at HR1
     obtain ⟨z,hz⟩:∃z:Int,((bnd op:Nat):Int)=z:=⟨_,rfl⟩
     rw [hz] at HR1 HBI;clear HR HNM b1 b2 b3 b4 k1 k2 hk2 hk3 k4 hz
     cases P <;> cases h3:(z==0) <;> cases h4:((len:Int)==2)
     all_goals
      have h5:(z != 0)=!(z==0):=rfl;rw [h3] at h5;simp only [Bool.not_true,Bool.not_false] at h5;rw [h3,h4] at HR1;obtain rfl:=HR1.out;go_wp2_with (refine HBI.out.mono ?_;rintro e w1 ⟨rfl,rfl⟩);go_ret;exact ⟨by first|rfl|simp,HB0.out⟩
    ·have b5:(k==5)=false:=beq_eq_false_iff_ne.2 k5;have HR1:=h_ ((ok0 k num S.data.toList op len k1 k2 k4 k5).symm.trans HR.out);clear HR HNM HBI k1 k2 hk2 hk3 k4 k5;obtain rfl:=HR1.out;go_wp2_with fail;go_ret;exact ⟨by first|rfl|simp,HB0.out⟩
def pb (z:GX) (least:Nat):Bool:=(z.kind==5) && !decide (least<=bnd z.op)
theorem pb_some {z:GX} {e:Ex} (h:z.ex=some e) {k:Nat} (hk:k<=6):pb z (k+1)=decide (e.lev<k):=by
 obtain ⟨kk,n,s,o,l,p⟩:=z;rw [ex_mk] at h;unfold pb;show ((kk==5) && !decide (k+1<=bnd o))=_;rcases node_some h with ⟨rfl,_,_,_,_,_,rfl⟩|⟨rfl,_,_,_,_,rfl⟩|⟨rfl,_,_,_,_,rfl⟩|⟨x,rfl,_,_,_,_,rfl⟩|⟨x,y,rfl,_,_,a,_,rfl⟩
 ·show (false && !decide (k+1<=bnd o))=decide (6<k);rw [Bool.false_and];exact (decide_eq_false (by omega)).symm
 ·show (false && !decide (k+1<=bnd o))=decide (6<k);rw [Bool.false_and];exact (decide_eq_false (by omega)).symm
 ·show (false && !decide (k+1<=bnd o))=decide (6<k);rw [Bool.false_and];exact (decide_eq_false (by omega)).symm
 ·show (false && !decide (k+1<=bnd o))=decide (6<k);rw [Bool.false_and];exact (decide_eq_false (by omega)).symm
 ·show (true && !decide (k+1<=bnd o))=decide (rowOf o<k);unfold bnd;rw [if_pos a]
  by_cases h:rowOf o<k
  ·rw [decide_eq_true h,decide_eq_false (by omega)];rfl
  ·rw [decide_eq_false h,decide_eq_true (by omega)];rfl
theorem pb_one {z:GX} {e:Ex} (h:z.ex=some e):pb z 7=e.isBoth:=by
 rw [pb_some h (n_ 6)];have hf:=(ex_some z e h).1
 cases e with
 |both op a b=>exact decide_eq_true hf.1
 |_=>rfl
theorem wrX_of {e:Ex} {n d L:Nat} (h:d+e.nst<=20/\L+e.tx.length<=16384/\n+e.size<=16384):wrX (some e) n d L=some e:=if_pos h
theorem wrX_not {e:Ex} {n d L:Nat} (h:¬(d+e.nst<=20/\L+e.tx.length<=16384/\n+e.size<=16384)):wrX (some e) n d L=none:=if_neg h
theorem wrP_of {b:Bool} {e:Ex} {n d L:Nat} (h:d+((if b=true then 1 else 0)+e.nst)<=20/\L+(par b e.tx).length<=16384/\n+e.size<=16384):wrP b (some e) n d L=some e:=if_pos h
theorem wrP_no {b:Bool} {e:Ex} {n d L:Nat} (h:¬(d+((if b=true then 1 else 0)+e.nst)<=20/\L+(par b e.tx).length<=16384/\n+e.size<=16384)):wrP b (some e) n d L=none:=if_neg h
theorem wrP_some {b:Bool} {x:Option Ex} {n d L:Nat} {e:Ex} (h:wrP b x n d L=some e):x=some e/\d+((if b=true then 1 else 0)+e.nst)<=20/\L+(par b e.tx).length<=16384/\n+e.size<=16384:=by
 cases x with
 |none=>cases h
 |some y =>
  by_cases c:d+((if b=true then 1 else 0)+y.nst)<=20/\L+(par b y.tx).length<=16384/\n+y.size<=16384
  ·rw [wrP_of c] at h;injection h with h;subst h;exact ⟨rfl,c⟩
  ·rw [wrP_no c] at h;cases h
theorem wrX_some {x:Option Ex} {n d L:Nat} {e:Ex} (h:wrX x n d L=some e):x=some e/\d+e.nst<=20/\L+e.tx.length<=16384/\n+e.size<=16384:=by
 cases x with
 |none=>cases h
 |some y =>
  by_cases c:d+y.nst<=20/\L+y.tx.length<=16384/\n+y.size<=16384
  ·rw [wrX_of c] at h;injection h with h;subst h;exact ⟨rfl,c⟩
  ·rw [wrX_not c] at h;cases h
theorem size_pos:∀e:Ex,1<=e.size
 |.int _ _=>n_ _
 |.var _ _=>n_ _
 |.inn _ _=>n_ _
 |.one _ x _=>Nat.le_add_right 1 x.size
 |.both _ x y=>Nat.le_add_right 1 (x.size+y.size)
theorem wrP_none {b:Bool} {y:Ex} {n d L:Nat} (h:wrP b (some y) n d L=none):¬(d+((if b=true then 1 else 0)+y.nst)<=20/\L+(par b y.tx).length<=16384/\n+y.size<=16384):=λ c=>by rw [wrP_of c] at h;cases h
theorem wrX_none {y:Ex} {n d L:Nat} (h:wrX (some y) n d L=none):¬(d+y.nst<=20/\L+y.tx.length<=16384/\n+y.size<=16384):=λ c=>by rw [wrX_of c] at h;cases h
theorem wrX_full {x:GX} {n d L:Nat} (h:¬n+1<=16384):wrX x.ex n d L=none:=by
 cases e:x.ex with
 |none=>rfl
 |some y=>have:=size_pos y;exact wrX_not (by omega)
theorem par_true (s:List UInt8):(par true s).length=s.length+2:=by simp [par]
theorem wr_par (x:Option Ex) (n d L:Nat) :
  (¬(d+1<=20/\L+1<=16384)->wrP true x n d L=none)/\(wrX x n (d+1) (L+1)=none->wrP true x n d L=none) /\
  (∀e,wrX x n (d+1) (L+1)=some e->wrP true x n d L=if L+1+e.tx.length+1<=16384 then some e else none):=by
 cases x with
 |none=>exact ⟨λ _=>rfl,λ _=>rfl,λ e h=>by cases h⟩
 |some y =>
  refine ⟨λ h=>wrP_no ?_,λ h=>wrP_no ?_,λ e h=>?_⟩
  ·rw [par_true,if_pos rfl];omega
  ·have c:=wrX_none h;rw [par_true,if_pos rfl];omega
  ·obtain ⟨h1,h2⟩:=wrX_some h;injection h1 with h1;subst h1
   split
   ·refine wrP_of ?_;rw [par_true,if_pos rfl];omega
   ·refine wrP_no ?_;rw [par_true,if_pos rfl];omega
theorem one_tx (op:Int) (e:Ex):(Ex.one op e 0).tx=(if op=14 then 45 else 33)::par e.isBoth e.tx:=rfl
theorem one_nst (op:Int) (e:Ex):(Ex.one op e 0).nst=1+((if e.isBoth=true then 1 else 0)+e.nst):=rfl
theorem one_size (op:Int) (e:Ex):(Ex.one op e 0).size=1+e.size:=rfl
theorem both_tx (op:Int) (x y:Ex):(Ex.both op x y).tx=par (decide (x.lev<rowOf op)) x.tx++32::(sgOf op++32::par (decide (y.lev<=rowOf op)) y.tx):=rfl
theorem both_nst (op:Int) (x y:Ex):(Ex.both op x y).nst=max ((if x.lev<rowOf op then 1 else 0)+x.nst) ((if y.lev<=rowOf op then 1 else 0)+y.nst):=rfl
theorem both_size (op:Int) (x y:Ex):(Ex.both op x y).size=1+(x.size+y.size):=rfl
theorem wr_one (z:GX) (op:Int) (hop:op=14∨op=15) (n d L:Nat) :
  (¬(d+1<=20/\L+1<=16384)->wrX (node 4 0 [] op [z.ex]) n d L=none)/\(wrP (pb z 7) z.ex (n+1) (d+1) (L+1)=none->wrX (node 4 0 [] op [z.ex]) n d L=none) /\
  (∀e,wrP (pb z 7) z.ex (n+1) (d+1) (L+1)=some e->wrX (node 4 0 [] op [z.ex]) n d L=some (.one op e 0)):=by
 cases h:z.ex with
 |none =>
  rw [node_one_none];exact ⟨λ _=>rfl,λ _=>rfl,λ e h=>by cases h⟩
 |some y =>
  have hb:=pb_one h;rw [node_one op y hop,hb];refine ⟨λ h=>wrX_not ?_,λ h=>wrX_not ?_,λ e h=>?_⟩
  ·have hf:=size_pos y;rw [one_tx,one_nst,List.length_cons];omega
  ·have c:=wrP_none h;rw [one_tx,one_nst,one_size,List.length_cons];omega
  ·obtain ⟨h1,h2⟩:=wrP_some h;injection h1 with h1;subst h1;refine wrX_of ?_;rw [one_tx,one_nst,one_size,List.length_cons];omega
theorem wr_both (z z':GX) (op:Int) (hop:rowOf op<6) (n d L:Nat) :
  (wrP (pb z (rowOf op+1)) z.ex (n+1) d L=none->wrX (node 5 0 [] op [z.ex,z'.ex]) n d L=none) /\
  (∀e,wrP (pb z (rowOf op+1)) z.ex (n+1) d L=some e ->
   (¬L+(par (pb z (rowOf op+1)) e.tx).length+((sgOf op).length+2)<=16384->wrX (node 5 0 [] op [z.ex,z'.ex]) n d L=none) /\
   (wrP (pb z' (rowOf op+2)) z'.ex (n+1+e.size) d (L+(par (pb z (rowOf op+1)) e.tx).length+((sgOf op).length+2))=none->wrX (node 5 0 [] op [z.ex,z'.ex]) n d L=none) /\
   (∀e',wrP (pb z' (rowOf op+2)) z'.ex (n+1+e.size) d (L+(par (pb z (rowOf op+1)) e.tx).length+((sgOf op).length+2))=some e'->wrX (node 5 0 [] op [z.ex,z'.ex]) n d L=some (.both op e e') /\
    (Ex.both op e e').tx=par (pb z (rowOf op+1)) e.tx++32::(sgOf op++32::par (pb z' (rowOf op+2)) e'.tx))):=by
 cases h:z.ex with
 |none =>
  rw [node_both_none _ _ _ (.inl rfl)];exact ⟨λ _=>rfl,λ e h=>by cases h⟩
 |some y =>
  have hb:=pb_some h (k:=rowOf op) (by omega);rw [hb]
  cases h':z'.ex with
  |none =>
   rw [node_both_none _ _ _ (.inr rfl)];exact ⟨λ _=>rfl,λ e h=>⟨λ _=>rfl,λ _=>rfl,λ e' h=>by cases h⟩⟩
  |some y' =>
   have hb':=pb_some h' (k:=rowOf op+1) (by omega)
   have e5:decide (y'.lev<rowOf op+1)=decide (y'.lev<=rowOf op):=by
    by_cases c:y'.lev<=rowOf op
    ·rw [decide_eq_true c,decide_eq_true (by omega)]
    ·rw [decide_eq_false c,decide_eq_false (by omega)]
   rw [e5] at hb';rw [hb',node_both op y y' hop]
   have hl:(Ex.both op y y').tx.length=(par (decide (y.lev<rowOf op)) y.tx).length+((sgOf op).length+2)+(par (decide (y'.lev<=rowOf op)) y'.tx).length:=by
    rw [both_tx];simp only [List.length_append,List.length_cons];omega
   have hn:(Ex.both op y y').nst=max ((if decide (y.lev<rowOf op)=true then 1 else 0)+y.nst) ((if decide (y'.lev<=rowOf op)=true then 1 else 0)+y'.nst):=by
    rw [both_nst];simp only [decide_eq_true_eq]
   have hs:=both_size op y y';have p':=size_pos y';refine ⟨λ h=>wrX_not ?_,λ e h=>?_⟩
   ·have c:=wrP_none h;rw [hl,hn,hs];omega
   ·obtain ⟨h1,h2⟩:=wrP_some h;injection h1 with h1;subst h1;refine ⟨λ h=>wrX_not ?_,λ h=>wrX_not ?_,λ e' h=>?_⟩
    ·rw [hl,hn,hs];omega
    ·have c:=wrP_none h;rw [hl,hn,hs];omega
    ·obtain ⟨h1',h2'⟩:=wrP_some h;injection h1' with h1';subst h1';refine ⟨wrX_of ?_,both_tx op y y'⟩;rw [hl,hn,hs];omega
structure Wv (w:World):Prop where
 kw:KwAt w
 sg:SgAt w
 pw:PowTab w
theorem Wv.below {w w':World} (h:Wv w) (hb:Below w.heap.size w w'):Wv w':=⟨h.kw.below hb,h.sg.below hb,h.pw.below hb⟩
def WQ (B b:Nat) (l:List UInt8) (n d:Nat) (t:Ex->List UInt8) (w':World) (r:Bool) (y:Option Ex):Prop :=
 (r=false/\y=none)∨(r=true/\∃e,y=some e/\WB w' B b (l++t e) (n+e.size) d)
def WExp (u:World) (b:Nat) (x:GX):Prop:=∀(w:World) (v:EV) (l:List UInt8) (n d:Nat),GV u 0 u.heap.size x v->Below u.heap.size u w->WB w u.heap.size b l n d->d<=20->n<=16384->l.length<=16384 ->
 Calls Tryz.prog 253 #[.pointer (some ⟨b,0,none⟩),v.val] w λ e w'=>∃r:Bool,e=.returned (.bool r)/\WQ u.heap.size b l n d Ex.tx w' r (wrX x.ex n d l.length)/\Wk u.heap.size b w w'
def WOpd (u:World) (b:Nat) (x:GX):Prop:=∀(w:World) (v:EV) (least:Nat) (l:List UInt8) (n d:Nat),GV u 0 u.heap.size x v->Below u.heap.size u w->WB w u.heap.size b l n d->d<=20->n<=16384->l.length<=16384 ->
 Calls Tryz.prog 296 #[.pointer (some ⟨b,0,none⟩),v.val,.int .i64 (least:Int)] w λ e w'=>∃r:Bool,e=.returned (.bool r)/\WQ u.heap.size b l n d (λ e=>par (pb x least) e.tx) w' r (wrP (pb x least) x.ex n d l.length)/\Wk u.heap.size b w w'
structure WAt (u:World) (b g1:Nat) (v:EV) (w0 w:World) (l:List UInt8) (n d:Nat):Prop where
 bl:Below u.heap.size u w
 wb:WB w u.heap.size b l n d
 xp:XpB w g1 v
 wk:Wk u.heap.size b w0 w
section
variable {u w0 w w':World} {b g1:Nat} {v:EV} {l l':List UInt8} {n n' d d':Nat}
theorem WAt.go (h:WAt u b g1 v w0 w l n d) (hn:g1≠b) (hk:Wk u.heap.size b w w') (hw:WB w' u.heap.size b l' n' d'):WAt u b g1 v w0 w' l' n' d' :=
 ⟨h.bl.trans hk.below,hw,h.xp.wk hk hn,h.wk.trans hk⟩
theorem WAt.below (h:WAt u b g1 v w0 w l n d) (hn:g1≠b) (hb:Below w.heap.size w w'):WAt u b g1 v w0 w' l n d :=
 h.go hn (Wk.of h.bl.size hb) (h.wb.below hb)
theorem WAt.alloc (h:WAt u b g1 v w0 w l n d) (hn:g1≠b) (o:Obj):WAt u b g1 v w0 (w.alloc o) l n d :=
 h.below hn ((b_ _ w).alloc (n_ _) o)
theorem WAt.new (hb:Below u.heap.size u w) (hw:WB w u.heap.size b l n d):WAt u b w.heap.size v w (w.alloc (.cells #[.int .i64 v.kind,.int .i64 v.num,.string v.name,.int .i64 v.op,.slice v.A v.len v.cap,.int .i64 v.p] 55)) l n d :=
 ⟨hb.alloc hb.size _,hw.alloc _,XpB.new w v,Wk.alloc hb.size _⟩
end
theorem WQ.no {B b:Nat} {l:List UInt8} {n d:Nat} {t:Ex->List UInt8} {w':World} {y:Option Ex} (h:y=none):WQ B b l n d t w' false y:=.inl ⟨rfl,h⟩
theorem WQ.yes {B b:Nat} {l l':List UInt8} {n n' d:Nat} {t:Ex->List UInt8} {w':World} {y:Option Ex} (e:Ex) (h:y=some e) (hw:WB w' B b l' n' d) (hl:l'=l++t e) (hn:n'=n+e.size):WQ B b l n d t w' true y:=.inr ⟨rfl,e,h,by rw [<-hl,<-hn];exact hw⟩
theorem par_tt (s:List UInt8):par true s=40::(s++[41]):=rfl
theorem par_false (s:List UInt8):par false s=s:=rfl
theorem WQ.not {B b:Nat} {l:List UInt8} {n d:Nat} {w':World} {r:Bool} {x:Option Ex} {L:Nat} (h:WQ B b l n d Ex.tx w' r (wrX x n d L)):WQ B b l n d (λ e=>par false e.tx) w' r (wrP false x n d L):=by
 rw [wrP_not];rcases h with h|⟨h1,e,h2,h3⟩
 ·exact .inl h
 ·refine .inr ⟨h1,e,h2,?_⟩;show WB w' B b (l++par false e.tx) (n+e.size) d;rw [par_false];exact h3
theorem operand_any (u:World) (b:Nat) (x:GX) (h:WExp u b x):WOpd u b x:=by
 intro w v least l n d hg hbl hwb hd hn hl;have HE:=h_ (λ (W:World) (l:List UInt8) (n d:Nat) (bl:Below u.heap.size u W) (wb:WB W u.heap.size b l n d) (hd:d<=20) (hn:n<=16384) (hl:l.length<=16384)=>h W v l n d hg bl wb hd hn hl)
 obtain ⟨g1,hg1⟩:∃g1,g1=w.heap.size:=⟨_,rfl⟩
 obtain ⟨W0,hW0⟩:∃W0,W0=w.alloc (.cells #[.int .i64 v.kind,.int .i64 v.num,.string v.name,.int .i64 v.op,.slice v.A v.len v.cap,.int .i64 v.p] 55):=⟨_,rfl⟩
 have HA:Hid (WAt u b g1 v w W0 l n d):=by rw [hW0,hg1];exact WAt.new hbl hwb
 have hn1:g1≠b:=by have:=hwb.lt;omega
 have hkind:=hg.out.1;have hop:=hg.out.2.2.2.1;obtain ⟨k,num,S,op,A,len,cap,p⟩:=v;simp only at hkind hop
 obtain ⟨c,hc⟩:∃c,pb x least=c:=⟨_,rfl⟩
 have HPB:Hid (((k==5) && !decide (least<=bnd op))=c):=by
  show _=_;rw [<-hc,hkind,hop];rfl
 rw [hc]
 obtain ⟨y,hy⟩:∃y,x.ex=y:=⟨_,rfl⟩
 rw [hy] at HE ⊢;simp only [EV.val] at HE ⊢;have HN1:=h_ hn1;have HD:=h_ (And.intro hd (And.intro hn hl));have HBI:=h_ (binding_any op W0);have z0:=HA.out.xp.c0;have z1:=HA.out.xp.c1;have z2:=HA.out.xp.c2;have z3:=HA.out.xp.c3;have z4:=HA.out.xp.c4;have z5:=HA.out.xp.c5;simp only at z0 z1 z2 z3 z4 z5 hW0;clear h hg hbl hwb hd hn hl hkind hop hn1 hc hy
 by_cases h5:(k==5)=true
 ·obtain rfl:k=5:=eq_of_beq h5
  by_cases hle:least<=bnd op
  ·have hle':(least:Int)<=(bnd op:Nat):=by omega
   have HC:=h_ (HE.out W0 l n d HA.out.bl HA.out.wb HD.out.1 HD.out.2.1 HD.out.2.2)
   obtain rfl:c=false:=by rw [<-HPB.out,decide_eq_true hle];simp
   have HLE:=h_ hle'
   obtain ⟨q,hq⟩:∃q:Int,((bnd op:Nat):Int)=q:=⟨_,rfl⟩
   rw [hq] at hle' HBI;clear HPB hle hq HLE h5;go_enter Tryz.func296,Tryz.ntmps296;go_upto_region 1 with fail;rw [<-hW0,<-hg1];clear hW0 hg1;go_wp2_with fail;refine HBI.out.mono ?_;rintro e w1 ⟨rfl,rfl⟩;go_wp2_with fail;refine HC.out.mono ?_;rintro e w2 ⟨r,rfl,hq,hk⟩;go_wp2_with fail;go_ret;exact ⟨r,rfl,hq.not,HA.out.wk.trans hk⟩
  ·have hle':¬(least:Int)<=(bnd op:Nat):=by omega
   obtain rfl:c=true:=by rw [<-HPB.out,decide_eq_false hle,h5];rfl
   have HPR:=h_ (wr_par y n d l.length);have HEN:Hid _:=h_ (enter_any W0 u.heap.size b l n d ⟨#[40]⟩ HA.out.wb (by have:=HD.out.1;omega) (by decide) (by have:=HD.out.2.2;omega) HA.out.bl.size);have e40:(⟨#[40]⟩:ByteArray).data.toList=[40]:=rfl;rw [e40] at HEN
   obtain ⟨c1,hc1⟩:∃c1,decide (d+1<=20/\(l++([40]:List UInt8)).length<=16384)=c1:=⟨_,rfl⟩
   rw [hc1] at HEN;have HC1:=h_ hc1
   obtain ⟨q,hq⟩:∃q:Int,((bnd op:Nat):Int)=q:=⟨_,rfl⟩
   rw [hq] at hle' HBI;clear HPB hle hq hc1 e40 h5;go_enter Tryz.func296,Tryz.ntmps296;go_upto_region 1 with fail;rw [<-hW0,<-hg1];clear hW0 hg1;go_wp2_with fail;refine HBI.out.mono ?_;rintro e w1 ⟨rfl,rfl⟩;go_wp2_with fail;refine HEN.out.mono ?_;rintro e w2 ⟨rfl,hw,hk⟩;have HW:=h_ hw;have HK:=h_ hk;clear hw hk HEN z0 z1 z2 z3 z4 z5 HBI;cases c1
   ·go_wp2_with fail;go_ret;refine ⟨false,rfl,WQ.no (HPR.out.1 (λ h=>?_)),HA.out.wk.trans HK.out⟩;have:=of_decide_eq_false HC1.out;rw [List.length_append,List.length_singleton] at this;exact this h
   ·have HC2:=h_ (of_decide_eq_true HC1.out);rw [List.length_append,List.length_singleton] at HC2;have HA1:=h_ (HA.out.go HN1.out HK.out (HW.out HC2.out.1));have HC:=h_ (HE.out w2 (l++[40]) n (d+1) HA1.out.bl HA1.out.wb HC2.out.1 HD.out.2.1 (by rw [List.length_append,List.length_singleton];exact HC2.out.2));rw [List.length_append,List.length_singleton] at HC;have z0:=HA1.out.xp.c0;have z1:=HA1.out.xp.c1;have z2:=HA1.out.xp.c2;have z3:=HA1.out.xp.c3;have z4:=HA1.out.xp.c4;have z5:=HA1.out.xp.c5;simp only at z0 z1 z2 z3 z4 z5;clear HA HK HW;go_wp2_with fail;refine HC.out.mono ?_;rintro e w3 ⟨r,rfl,hq,hk⟩;have HQ:=h_ hq;have HK:=h_ hk;clear hq hk HC z0 z1 z2 z3 z4 z5;cases r
    ·have HNO:Hid (wrX y n (d+1) (l.length+1)=none):=by
      rcases HQ.out with ⟨_,h⟩|⟨h,_⟩
      ·exact h
      ·cases h
     go_wp2_with fail;go_ret;exact ⟨false,rfl,WQ.no (HPR.out.2.1 HNO.out),HA1.out.wk.trans HK.out⟩
    ·obtain ⟨e,he,hwb⟩:∃e,wrX y n (d+1) (l.length+1)=some e/\WB w3 u.heap.size b (l++([40]:List UInt8)++e.tx) (n+e.size) (d+1):=by
      rcases HQ.out with ⟨h,_⟩|⟨_,h⟩
      ·cases h
      ·exact h
     have HS:=h_ (wrX_some he);have HEE:=h_ he;have HA2:=h_ (HA1.out.go HN1.out HK.out hwb);have HL:Hid _:=h_ (leave_any w3 u.heap.size b _ _ d ⟨#[41]⟩ HA2.out.wb (by have:=HD.out.1;omega) (by decide) (by have:=HS.out.2.2.1;simp only [List.length_append,List.length_singleton];omega) HA2.out.bl.size);have e41:(⟨#[41]⟩:ByteArray).data.toList=[41]:=rfl;rw [e41] at HL
     obtain ⟨c2,hc2⟩:∃c2,decide (List.length (l++[40]++e.tx++[41])<=16384)=c2:=⟨_,rfl⟩
     rw [hc2] at HL;have HC2:=h_ hc2;clear he hwb HQ HK HA1 e41 hc2;go_wp2_with fail;refine HL.out.mono ?_;rintro _ w4 ⟨rfl,hw,hk⟩;have HW:=h_ hw;have HK:=h_ hk;clear hw hk HL;go_wp2_with fail;go_ret;refine ⟨c2,rfl,?_,HA2.out.wk.trans HK.out⟩;have h1:=HPR.out.2.2 e HEE.out;have h2:=HC2.out
     have h3:(l++[40]++e.tx++[41]).length=l.length+1+e.tx.length+1:=by simp only [List.length_append,List.length_singleton]
     rw [h3] at h2;cases c2
     ·exact WQ.no (h1.trans (if_neg (of_decide_eq_false h2)))
     ·exact WQ.yes e (h1.trans (if_pos (of_decide_eq_true h2))) HW.out (by rw [par_tt];simp only [a_,List.cons_append,List.nil_append]) rfl
 ·have h5':(k==5)=false:=by simpa using h5
  have h6:(k != 5)=true:=by simpa using h5
  have HC:=h_ (HE.out W0 l n d HA.out.bl HA.out.wb HD.out.1 HD.out.2.1 HD.out.2.2)
  obtain rfl:c=false:=by rw [<-HPB.out,h5'];rfl
  clear HPB h5 HBI;go_enter Tryz.func296,Tryz.ntmps296;go_upto_region 1 with fail;rw [<-hW0,<-hg1];clear hW0 hg1;go_wp2_with fail;refine HC.out.mono ?_;rintro e w2 ⟨r,rfl,hq,hk⟩;go_wp2_with fail;go_ret;exact ⟨r,rfl,hq.not,HA.out.wk.trans hk⟩
theorem nodeOk_true {k n:Int} {s:List UInt8} {o:Int} {m:Nat} (h:nodeOk k n s o m=true) :
  (k=1/\0<=n/\s=[]/\o=0/\m=0)∨(k=2/\n=0/\isNm s=true/\o=0/\m=0)∨(k=3/\n=0/\isNm s=true/\o=0/\m=0) ∨
  (k=4/\n=0/\s=[]/\(o=14∨o=15)/\m=1)∨(k=5/\n=0/\s=[]/\rowOf o<6/\m=2):=by
 unfold nodeOk at h
 by_cases h1:k=1
 ·rw [if_pos h1] at h;simp only [Bool.and_eq_true,decide_eq_true_eq] at h;exact .inl ⟨h1,h.1.2,h.2,h.1.1.1,h.1.1.2⟩
 ·rw [if_neg h1] at h
  by_cases h2:k=2∨k=3
  ·rw [if_pos h2] at h;simp only [Bool.and_eq_true,decide_eq_true_eq] at h;rcases h2 with h2|h2
   ·exact .inr (.inl ⟨h2,h.1.2,h.2,h.1.1.1,h.1.1.2⟩)
   ·exact .inr (.inr (.inl ⟨h2,h.1.2,h.2,h.1.1.1,h.1.1.2⟩))
  ·rw [if_neg h2] at h
   by_cases h4:k=4
   ·rw [if_pos h4] at h;simp only [Bool.and_eq_true,Bool.or_eq_true,decide_eq_true_eq] at h;exact .inr (.inr (.inr (.inl ⟨h4,h.1.1.1,h.1.1.2,h.1.2,h.2⟩)))
   ·rw [if_neg h4] at h
    split at h
    ·rename_i h5;simp only [Bool.and_eq_true,decide_eq_true_eq] at h;exact .inr (.inr (.inr (.inr ⟨h5,h.1.1.1,h.1.1.2,h.1.2,h.2⟩)))
    ·cases h
theorem sign_one {op:Int} (h:op=14∨op=15):∃j:Nat,op=(j:Int)/\j<16/\sgs[j]?=some [if op=14 then 45 else 33]:=by
 rcases h with rfl|rfl
 ·exact ⟨14,rfl,by omega,rfl⟩
 ·exact ⟨15,rfl,by omega,rfl⟩
theorem sign_both {op:Int} (h:rowOf op<6):∃j:Nat,op=(j:Int)/\j<16/\sgs[j]?=some (sgOf op):=by
 rcases row_cases h with rfl|rfl|rfl|rfl|rfl|rfl|rfl|rfl|rfl|rfl|rfl|rfl|rfl
 ·exact ⟨1,rfl,by omega,rfl⟩
 ·exact ⟨2,rfl,by omega,rfl⟩
 ·exact ⟨3,rfl,by omega,rfl⟩
 ·exact ⟨4,rfl,by omega,rfl⟩
 ·exact ⟨5,rfl,by omega,rfl⟩
 ·exact ⟨6,rfl,by omega,rfl⟩
 ·exact ⟨7,rfl,by omega,rfl⟩
 ·exact ⟨8,rfl,by omega,rfl⟩
 ·exact ⟨9,rfl,by omega,rfl⟩
 ·exact ⟨10,rfl,by omega,rfl⟩
 ·exact ⟨11,rfl,by omega,rfl⟩
 ·exact ⟨12,rfl,by omega,rfl⟩
 ·exact ⟨13,rfl,by omega,rfl⟩
theorem WQ.leaf {B b:Nat} {l:List UInt8} {n d:Nat} {w':World} {y:Option Ex} {e0:Ex} {c:Bool} (hx:y=some e0) (h0:e0.nst=0) (h1:e0.size=1) (hc:decide (List.length (l++e0.tx)<=16384)=c)
  (hd:d<=20) (hn:n+1<=16384) (hw:WB w' B b (l++e0.tx) (n+1) d):WQ B b l n d Ex.tx w' c (wrX y n d l.length):=by
 rw [hx];rw [List.length_append] at hc;cases c
 ·have h:=of_decide_eq_false hc;exact WQ.no (wrX_not (by omega))
 ·have h:=of_decide_eq_true hc;exact WQ.yes e0 (wrX_of (by omega)) hw rfl (by rw [h1])
theorem exs_zero {l:List GX} (h:l.length=0):GX.exs l=[]:=by rw [List.eq_nil_of_length_eq_zero h,exs_nil]
theorem node_var {s:List UInt8} (h:isNm s=true):node 2 0 s 0 []=some (.var s 0):=by
 unfold node;rw [if_neg (λ h=>absurd h.1 (by decide)),if_pos ⟨rfl,rfl,h,rfl,rfl⟩]
theorem node_inn {s:List UInt8} (h:isNm s=true):node 3 0 s 0 []=some (.inn s 0):=by
 unfold node;rw [if_neg (λ h=>absurd h.1 (by decide)),if_neg (λ h=>absurd h.1 (by decide)),if_pos ⟨rfl,rfl,h,rfl,rfl⟩]
theorem itoa_short (n:Int) (h0:-9223372036854775808<=n) (h1:n<=9223372036854775807):(Lib.itoa n).length<=20:=by
 unfold Lib.itoa
 split
 ·have:=dec_len (u:=n.natAbs) 18 (by omega);rw [List.length_cons];omega
 ·have:=dec_len (u:=n.toNat) 18 (by omega);omega
theorem nm_small {S:ByteArray} (h:isNm S.data.toList=true):S.size<=24:=by
 obtain ⟨c,r,_,_,_,h2,_⟩:=isNm_parts h;have h3:S.data.toList.length=S.size:=rfl;omega
theorem len_two {α:Type} {l:List α} (h:l.length=2):∃x y,l=[x,y]:=by
 match l,h with
 |[x,y],_=>exact ⟨x,y,rfl⟩
theorem expr_step (u:World) (b:Nat) (hV:Wv u) (x:GX) (hr:x.rng) (ih:∀(i:Nat) (y:GX),x.subs[i]?=some y->WOpd u b y):WExp u b x:=by
 intro w v l n d hg hbl hwb hd hn hl;obtain ⟨kk,nn,ss,oo,subs,pp⟩:=x;obtain ⟨e0,e1,e2,e3,e4,e5,e6,e7,hrow⟩:=hg.out;simp only [GX.kind,GX.num,GX.name,GX.op,GX.p,GX.subs] at e0 e1 e2 e3 e4 e5 hrow ih;rw [GX.rng] at hr;obtain ⟨hr1,hr2,hr3,hr4⟩:=hr;rw [ex_mk];subst e0 e1 e2 e3
 obtain ⟨g1,hg1⟩:∃g1,g1=w.heap.size:=⟨_,rfl⟩
 obtain ⟨W0,hW0⟩:∃W0,W0=w.alloc (.cells #[.int .i64 v.kind,.int .i64 v.num,.string v.name,.int .i64 v.op,.slice v.A v.len v.cap,.int .i64 v.p] 55):=⟨_,rfl⟩
 have HA:Hid (WAt u b g1 v w W0 l n d):=by rw [hW0,hg1];exact WAt.new hbl hwb
 have hn1:g1≠b:=by have:=hwb.lt;omega
 have hgl:b<g1:=by have:=hwb.lt;omega
 have HV:=h_ (λ (W:World) (hb:Below u.heap.size u W)=>hV.below hb);have HFO:=h_ (λ (W:World) (hK:KwAt W)=>formed_any W v hr3 hK);have HIH:=h_ ih;have HROW:=h_ hrow;have HSUB:=h_ e5;have HRG:=h_ hr1;have HN1:=h_ hn1;have HGL:=h_ hgl;have HD:=h_ (And.intro hd (And.intro hn hl))
 obtain ⟨Y,hY⟩:∃Y,node v.kind v.num v.name.data.toList v.op (GX.exs subs)=Y:=⟨_,rfl⟩
 rw [hY];have HY:=h_ hY
 have HFULL:Hid (¬n+1<=16384->wrX Y n d l.length=none):=λ h=>by
  have:=wrX_full (x:=GX.mk v.kind v.num v.name.data.toList v.op subs 0) (d:=d) (L:=l.length) h;rw [ex_mk,hY] at this;exact this
 obtain ⟨k,num,S,op,A,len,cap,p⟩:=v;simp only [EV.val] at HFO ⊢;simp only at HY HSUB HRG HROW hW0;have HCN:=h_ (count_any W0 u.heap.size b l n d HA.out.wb (by omega))
 obtain ⟨c1,hc1⟩:∃c1,decide (n+1<=16384)=c1:=⟨_,rfl⟩
 rw [hc1] at HCN;have HC1:=h_ hc1
 obtain ⟨c2,hc2⟩:∃c2,nodeOk k num S.data.toList op len=c2:=⟨_,rfl⟩
 rw [hc2] at HFO;have HC2:=h_ hc2;clear hg hbl hwb hd hn hl hV ih hrow e4 e5 e6 e7 hr1 hr2 hr3 hr4 hn1 hgl hY hc1 hc2;go_enter Tryz.func253,Tryz.ntmps253;go_upto_region 1 with fail;rw [<-hW0,<-hg1];clear hW0 hg1;go_wp2_with fail;refine HCN.out.mono ?_;rintro e w1 ⟨rfl,hw,hk⟩;have HA1:=h_ (HA.out.go HN1.out hk hw);clear hw hk HCN HA;cases c1
 ·go_wp2_with fail;go_ret;exact ⟨false,rfl,WQ.no (HFULL.out (of_decide_eq_false HC1.out)),HA1.out.wk⟩
 have z0:=HA1.out.xp.c0;have z1:=HA1.out.xp.c1;have z2:=HA1.out.xp.c2;have z3:=HA1.out.xp.c3;have z4:=HA1.out.xp.c4;have z5:=HA1.out.xp.c5;simp only at z0 z1 z2 z3 z4 z5;have HF:=h_ (HFO.out w1 (HV.out w1 HA1.out.bl).kw);clear HFO HFULL;go_wp2_with fail;refine HF.out.mono ?_;rintro e w2 ⟨rfl,hb⟩;have HA2:=h_ (HA1.out.below HN1.out hb);clear hb HF HA1 z0 z1 z2 z3 z4 z5;cases c2
 ·have HNO:Hid (Y=none):=by
   show _=_;rw [<-HY.out];exact node_bad (by rw [exs_len,<-HSUB.out];exact HC2.out)
  go_wp2_with fail;go_ret;exact ⟨false,rfl,WQ.no (by rw [HNO.out];rfl),HA2.out.wk⟩
 have z0:=HA2.out.xp.c0;have z1:=HA2.out.xp.c1;have z2:=HA2.out.xp.c2;have z3:=HA2.out.xp.c3;have z4:=HA2.out.xp.c4;have z5:=HA2.out.xp.c5;simp only at z0 z1 z2 z3 z4 z5;rcases nodeOk_true HC2.out with ⟨rfl,h1,h2,rfl,rfl⟩|⟨rfl,rfl,h2,rfl,rfl⟩|⟨rfl,rfl,h2,rfl,rfl⟩|⟨rfl,rfl,h2,h3,rfl⟩|⟨rfl,rfl,h2,h3,rfl⟩
 ·have HT:=h_ (text_any num w2 HRG.out.1 HRG.out.2 (HV.out w2 HA2.out.bl).pw)
  obtain ⟨T,hT⟩:∃T:ByteArray,(⟨(Lib.itoa num).toArray⟩:ByteArray)=T:=⟨_,rfl⟩
  rw [hT] at HT;have HTT:=h_ hT;have H12:=h_ (And.intro h1 h2);clear h1 h2 hT;go_wp2_with fail;refine HT.out.mono ?_;rintro e w3 ⟨rfl,hb⟩;have HA3:=h_ (HA2.out.below HN1.out hb);clear hb HT HA2
  obtain ⟨g2,hg2⟩:∃g2,g2=w3.heap.size:=⟨_,rfl⟩
  obtain ⟨W4,hW4⟩:∃W4,W4=w3.alloc (.cells #[.string T] 9):=⟨_,rfl⟩
  have HA4:Hid (WAt u b g1 ⟨1,num,S,0,A,0,cap,p⟩ w W4 l (n+1) d):=by rw [hW4];exact HA3.out.alloc HN1.out _
  have HC:=h_ (put_any W4 u.heap.size b g2 1 l (n+1) d [T] HA4.out.wb (by rw [hW4,hg2];exact StR.one w3 T) rfl (by have:=HA3.out.wb.lt;omega)
   (λ t ht=>by rw [List.mem_singleton.1 ht,<-HTT.out];show (Lib.itoa num).toArray.size<=_;rw [List.size_toArray];have:=itoa_short num HRG.out.1 HRG.out.2;omega) (by omega) (by have:=HD.out.2.2;omega) HA4.out.bl.size)
  rw [flat_cons,flat_nil,List.append_nil] at HC
  obtain ⟨c3,hc3⟩:∃c3,decide (List.length (l++T.data.toList)<=16384)=c3:=⟨_,rfl⟩
  rw [hc3] at HC;have HC3:=h_ hc3;clear hc3;go_wp2_with fail;rw [<-hW4,<-hg2];clear hW4 hg2;refine HC.out.mono ?_;rintro e w5 ⟨rfl,hw,hk⟩;have HW:=h_ hw;have HK:=h_ hk;clear hw hk HC;go_wp2_with fail;go_ret;refine ⟨c3,rfl,?_,HA4.out.wk.trans HK.out⟩
  have hYY:Y=some (.int num 0):=by
   rw [<-HY.out,H12.out.2,exs_zero (HSUB.out.symm)];exact if_pos ⟨rfl,H12.out.1,HRG.out.2,rfl,rfl,rfl⟩
  have eT:T.data.toList=(Ex.int num 0).tx:=by rw [<-HTT.out];rfl
  have h3:=HC3.out;have h4:=HW.out;rw [eT] at h3 h4;exact WQ.leaf hYY rfl rfl h3 HD.out.1 (of_decide_eq_true HC1.out) h4
 ·have H2:=h_ h2;clear h2
  obtain ⟨g2,hg2⟩:∃g2,g2=w2.heap.size:=⟨_,rfl⟩
  obtain ⟨W4,hW4⟩:∃W4,W4=w2.alloc (.cells #[.string S] 9):=⟨_,rfl⟩
  have HA4:Hid (WAt u b g1 ⟨2,0,S,0,A,0,cap,p⟩ w W4 l (n+1) d):=by rw [hW4];exact HA2.out.alloc HN1.out _
  have HC:=h_ (put_any W4 u.heap.size b g2 1 l (n+1) d [S] HA4.out.wb (by rw [hW4,hg2];exact StR.one w2 S) rfl (by have:=HA2.out.wb.lt;omega)
   (λ t ht=>by
    have:=nm_small H2.out;simp only [List.mem_cons,List.not_mem_nil,or_false] at ht
    subst ht;omega) (by omega) (by have:=HD.out.2.2;omega) HA4.out.bl.size)
  have hfl:flat [S]=(Ex.var S.data.toList 0).tx:=by rw [flat_cons,flat_nil,List.append_nil];rfl
  rw [hfl] at HC
  obtain ⟨c3,hc3⟩:∃c3,decide (List.length (l++(Ex.var S.data.toList 0).tx)<=16384)=c3:=⟨_,rfl⟩
  rw [hc3] at HC;have HC3:=h_ hc3;clear hc3 hfl;go_wp2_with fail;rw [<-hW4,<-hg2];clear hW4 hg2;refine HC.out.mono ?_;rintro e w5 ⟨rfl,hw,hk⟩;have HW:=h_ hw;have HK:=h_ hk;clear hw hk HC;go_wp2_with fail;go_ret;refine ⟨c3,rfl,?_,HA4.out.wk.trans HK.out⟩
  have hYY:Y=some (.var S.data.toList 0):=by
   rw [<-HY.out,exs_zero (HSUB.out.symm)];exact node_var H2.out
  exact WQ.leaf hYY rfl rfl HC3.out HD.out.1 (of_decide_eq_true HC1.out) HW.out
 ·have H2:=h_ h2;clear h2
  obtain ⟨g2,hg2⟩:∃g2,g2=w2.heap.size:=⟨_,rfl⟩
  obtain ⟨W4,hW4⟩:∃W4,W4=w2.alloc (.cells #[.string ⟨#[105,110,40]⟩,.string S,.string ⟨#[41]⟩] 9):=⟨_,rfl⟩
  have HA4:Hid (WAt u b g1 ⟨3,0,S,0,A,0,cap,p⟩ w W4 l (n+1) d):=by rw [hW4];exact HA2.out.alloc HN1.out _
  have HC:=h_ (put_any W4 u.heap.size b g2 3 l (n+1) d [⟨#[105,110,40]⟩,S,⟨#[41]⟩] HA4.out.wb (by rw [hW4,hg2];exact StR.three w2 _ _ _) rfl (by have:=HA2.out.wb.lt;omega)
   (λ t ht=>by
    have:=nm_small H2.out;simp only [List.mem_cons,List.not_mem_nil,or_false] at ht;rcases ht with rfl|rfl|rfl
    ·decide
    ·omega
    ·decide) (by omega) (by have:=HD.out.2.2;omega) HA4.out.bl.size)
  have hfl:flat [⟨#[105,110,40]⟩,S,⟨#[41]⟩]=(Ex.inn S.data.toList 0).tx:=by rw [flat_cons,flat_cons,flat_cons,flat_nil,List.append_nil];rfl
  rw [hfl] at HC
  obtain ⟨c3,hc3⟩:∃c3,decide (List.length (l++(Ex.inn S.data.toList 0).tx)<=16384)=c3:=⟨_,rfl⟩
  rw [hc3] at HC;have HC3:=h_ hc3;clear hc3 hfl;go_wp2_with fail;rw [<-hW4,<-hg2];clear hW4 hg2;refine HC.out.mono ?_;rintro e w5 ⟨rfl,hw,hk⟩;have HW:=h_ hw;have HK:=h_ hk;clear hw hk HC;go_wp2_with fail;go_ret;refine ⟨c3,rfl,?_,HA4.out.wk.trans HK.out⟩
  have hYY:Y=some (.inn S.data.toList 0):=by
   rw [<-HY.out,exs_zero (HSUB.out.symm)];exact node_inn H2.out
  exact WQ.leaf hYY rfl rfl HC3.out HD.out.1 (of_decide_eq_true HC1.out) HW.out
 ·obtain ⟨z,rfl⟩:=List.length_eq_one_iff.1 HSUB.out.symm;obtain ⟨go,o,v',rfl,_,hgo,hev,hgz⟩:=HROW.out.get 0 z rfl
  have eo:o+(0+0)*6=o:=by omega
  rw [eo] at hev;have HEV:=h_ (λ (W:World) (hb:Below u.heap.size u W)=>hev.same (hb.block go hgo));have HOP:=h_ (λ (W:World) (l:List UInt8) (n d:Nat) (bl:Below u.heap.size u W) (wb:WB W u.heap.size b l n d) (hd:d<=20) (hn:n<=16384) (hl:l.length<=16384)=>HIH.out 0 z rfl W v' 7 l n d hgz bl wb hd hn hl);obtain ⟨j,rfl,hj,hsg⟩:=sign_one h3;have HON:=h_ (wr_one z (j:Int) h3 n d l.length)
  have hYY:node 4 0 [] (j:Int) [z.ex]=Y:=by
   have h:=HY.out;rw [h2,exs_one] at h;exact h
  rw [hYY] at HON;have HTX:=h_ (λ e=>one_tx (j:Int) e);have HPO:=h_ (λ (e:Ex) (h:z.ex=some e)=>pb_one h)
  obtain ⟨cs,hcs⟩:∃cs:UInt8,(if (j:Int)=14 then 45 else 33)=cs:=⟨_,rfl⟩
  rw [hcs] at hsg HTX;have sgc:=(HV.out w2 HA2.out.bl).sg.cell hsg
  obtain ⟨SG,hSG⟩:∃SG:ByteArray,(⟨[cs].toArray⟩:ByteArray)=SG:=⟨_,rfl⟩
  rw [hSG] at sgc
  have hSL:SG.data.toList=[cs]:=by rw [<-hSG]
  have hSZ:SG.size=1:=by rw [<-hSG];rfl
  have hj':(j:Int)<16:=by omega
  obtain ⟨P,hP⟩:∃P,pb z 7=P:=⟨_,rfl⟩
  rw [hP] at HOP HON HPO
  obtain ⟨q7,hq7⟩:∃q:Int,((7:Nat):Int)=q:=⟨_,rfl⟩
  rw [hq7] at HOP;obtain rfl:q7=7:=hq7.symm;obtain ⟨k',num',S',op',A',len',cap',p'⟩:=v';simp only [EV.val] at HOP;have HEN:=h_ (enter_any w2 u.heap.size b l (n+1) d SG HA2.out.wb (by have:=HD.out.1;omega) (by omega) (by have:=HD.out.2.2;omega) HA2.out.bl.size);rw [hSL] at HEN
  obtain ⟨c3,hc3⟩:∃c3,decide (d+1<=20/\List.length (l++[cs])<=16384)=c3:=⟨_,rfl⟩
  rw [hc3] at HEN;have HC3:=h_ hc3;clear hc3 hq7 hP hcs hSG hSL hSZ hsg hYY h2 h3 hev hgz eo hgo hj;go_wp2_with fail;refine HEN.out.mono ?_;rintro e w3 ⟨rfl,hw,hk⟩;have HW:=h_ hw;have HK:=h_ hk;clear hw hk HEN z0 z1 z2 z3 z4 z5 sgc;cases c3
  ·go_wp2_with fail;go_ret;refine ⟨false,rfl,WQ.no (HON.out.1 (λ h=>?_)),HA2.out.wk.trans HK.out⟩;have:=of_decide_eq_false HC3.out;rw [List.length_append,List.length_singleton] at this;exact this h
  have HD3:=h_ (of_decide_eq_true HC3.out);have HA3:=h_ (HA2.out.go HN1.out HK.out (HW.out HD3.out.1));have HO:=h_ (HOP.out w3 (l++[cs]) (n+1) (d+1) HA3.out.bl HA3.out.wb HD3.out.1 (of_decide_eq_true HC1.out) HD3.out.2)
  have e5:(l++[cs]).length=l.length+1:=by rw [List.length_append,List.length_singleton]
  rw [e5] at HO;have z4:=HA3.out.xp.c4;simp only at z4;obtain ⟨y0,y1,y2,y3,y4,y5⟩:=HEV.out w3 HA3.out.bl;simp only at y0 y1 y2 y3 y4 y5;clear HA2 HK HW HOP e5;go_wp2_with fail;refine HO.out.mono ?_;rintro e w4 ⟨r,rfl,hq,hk⟩;have HQ:=h_ hq;have HK:=h_ hk;clear hq hk HO z4 y0 y1 y2 y3 y4 y5;cases r
  ·have HNO:Hid (wrP P z.ex (n+1) (d+1) (l.length+1)=none):=by
    rcases HQ.out with ⟨_,h⟩|⟨h,_⟩
    ·exact h
    ·cases h
   go_wp2_with fail;go_ret;exact ⟨false,rfl,WQ.no (HON.out.2.1 HNO.out),HA3.out.wk.trans HK.out⟩
  ·obtain ⟨e,he,hwb⟩:∃e,wrP P z.ex (n+1) (d+1) (l.length+1)=some e/\WB w4 u.heap.size b (l++[cs]++par P e.tx) (n+1+e.size) (d+1):=by
    rcases HQ.out with ⟨h,_⟩|⟨_,h⟩
    ·cases h
    ·exact h
   have HS:=h_ (wrP_some he);have HEE:=h_ he;have HA4:=h_ (HA3.out.go HN1.out HK.out hwb);have HL:=h_ (leave_any w4 u.heap.size b _ _ d ⟨#[]⟩ HA4.out.wb (by have:=HD.out.1;omega) (by decide) (by have:=HS.out.2.2.1;simp only [List.length_append,List.length_singleton];omega) HA4.out.bl.size);have e41:(⟨#[]⟩:ByteArray).data.toList=[]:=rfl;rw [e41,List.append_nil] at HL
   have hdec:decide (List.length (l++[cs]++par P e.tx)<=16384)=true:=decide_eq_true (by
    have:=HS.out.2.2.1;simp only [List.length_append,List.length_singleton]
    omega)
   rw [hdec] at HL;clear he hwb HQ HK HA3 e41 hdec;go_wp2_with fail;refine HL.out.mono ?_;rintro _ w5 ⟨rfl,hw,hk⟩;have HW:=h_ hw;have HK:=h_ hk;clear hw hk HL;go_wp2_with fail;go_ret;refine ⟨true,rfl,?_,HA4.out.wk.trans HK.out⟩;refine WQ.yes _ (HON.out.2.2 e HEE.out) HW.out ?_ ?_
   ·rw [HTX.out,HPO.out e HS.out.1,a_];rfl
   ·rw [one_size];omega
 ·obtain ⟨z,zz,rfl⟩:=len_two HSUB.out.symm;obtain ⟨go,o,v',rfl,_,hgo,hev,hgz⟩:=HROW.out.get 0 z rfl;obtain ⟨go',o',v2,hA',_,_,hev',hgz'⟩:=HROW.out.get 1 zz rfl
  obtain ⟨rfl,rfl⟩:go'=go/\o'=o:=by
   injection hA' with hA';injection hA' with h1 h2;exact ⟨h1.symm,h2.symm⟩
  have eo:o' + (0+0)*6=o':=by omega
  have eo':o' + (0+1)*6=o' + 6:=by omega
  rw [eo] at hev;rw [eo'] at hev';have HEV:=h_ (λ (W:World) (hb:Below u.heap.size u W)=>hev.same (hb.block go' hgo));have HEV':=h_ (λ (W:World) (hb:Below u.heap.size u W)=>hev'.same (hb.block go' hgo));have hbnd:bnd op=rowOf op+1:=if_pos h3;have HOP:=h_ (λ (W:World) (l:List UInt8) (n d:Nat) (bl:Below u.heap.size u W) (wb:WB W u.heap.size b l n d) (hd:d<=20) (hn:n<=16384) (hl:l.length<=16384)=>HIH.out 0 z rfl W v' (bnd op) l n d hgz bl wb hd hn hl);have HOQ:=h_ (λ (W:World) (l:List UInt8) (n d:Nat) (bl:Below u.heap.size u W) (wb:WB W u.heap.size b l n d) (hd:d<=20) (hn:n<=16384) (hl:l.length<=16384)=>HIH.out 1 zz rfl W v2 (bnd op+1) l n d hgz' bl wb hd hn hl);have HON:=h_ (wr_both z zz op h3 n d l.length)
  have hYY:node 5 0 [] op [z.ex,zz.ex]=Y:=by
   have h:=HY.out;rw [h2,exs_two] at h;exact h
  rw [hYY] at HON;rw [show rowOf op+2=bnd op+1 by rw [hbnd],<-hbnd] at HON;have HSL:=h_ (sg_len h3);have HBI:=h_ (binding_any op w2);obtain ⟨j,rfl,hj,hsg⟩:=sign_both h3;have HBS:=h_ (λ (x y:Ex)=>both_size (j:Int) x y)
  obtain ⟨SG,hSG⟩:∃SG:ByteArray,(⟨(sgOf (j:Int)).toArray⟩:ByteArray)=SG:=⟨_,rfl⟩
  have hSL:SG.data.toList=sgOf (j:Int):=by rw [<-hSG]
  have HSGC:=h_ (λ (W:World) (hb:Below u.heap.size u W)=>(HV.out W hb).sg.cell hsg);rw [hSG] at HSGC
  obtain ⟨sl,hsl⟩:∃sl,sgOf (j:Int)=sl:=⟨_,rfl⟩
  rw [hsl] at hSL HON HSL;have HSG:=h_ hSL
  have hj':(j:Int)<16:=by omega
  have hbl:bnd (j:Int)<=6:=by rw [hbnd];omega
  obtain ⟨q,hq⟩:∃q,bnd (j:Int)=q:=⟨_,rfl⟩
  rw [hq] at HOP HOQ HON HBI hbl
  have hbl':(q:Int)<=6:=by omega
  have eq1:((q+1:Nat):Int)=(q:Int)+1:=by omega
  rw [eq1] at HOQ
  obtain ⟨P,hP⟩:∃P,pb z q=P:=⟨_,rfl⟩
  obtain ⟨P',hP'⟩:∃P,pb zz (q+1)=P:=⟨_,rfl⟩
  rw [hP] at HOP HON;rw [hP'] at HOQ HON;obtain ⟨k',num',S',op',A',len',cap',p'⟩:=v';obtain ⟨k2,num2,S2,op2,A2,len2,cap2,p2⟩:=v2;simp only [EV.val] at HOP HOQ;have HO:=h_ (HOP.out w2 l (n+1) d HA2.out.bl HA2.out.wb HD.out.1 (of_decide_eq_true HC1.out) HD.out.2.2);obtain ⟨y0,y1,y2,y3,y4,y5⟩:=HEV.out w2 HA2.out.bl;simp only at y0 y1 y2 y3 y4 y5;clear hP hP' hq eq1 hSL hSG hsl hsg hYY h2 h3 hev hev' hgz hgz' eo eo' hgo hj hA' hbnd hbl HOP;go_wp2_with fail;refine HBI.out.mono ?_;rintro e w3 ⟨rfl,rfl⟩;go_wp2_with fail;refine HO.out.mono ?_;rintro e w4 ⟨r,rfl,hq,hk⟩;have HQ:=h_ hq;have HK:=h_ hk;clear hq hk HO HBI z0 z1 z2 z3 z4 z5 y0 y1 y2 y3 y4 y5;cases r
  ·have HNO:Hid (wrP P z.ex (n+1) d l.length=none):=by
    rcases HQ.out with ⟨_,h⟩|⟨h,_⟩
    ·exact h
    ·cases h
   go_wp2_with fail;go_ret;exact ⟨false,rfl,WQ.no (HON.out.1 HNO.out),HA2.out.wk.trans HK.out⟩
  obtain ⟨e,he,hwb⟩:∃e,wrP P z.ex (n+1) d l.length=some e/\WB w4 u.heap.size b (l++par P e.tx) (n+1+e.size) d:=by
   rcases HQ.out with ⟨h,_⟩|⟨_,h⟩
   ·cases h
   ·exact h
  have HS:=h_ (wrP_some he);have HON2:=h_ (HON.out.2 e he);have HA4:=h_ (HA2.out.go HN1.out HK.out hwb)
  obtain ⟨g2,hg2⟩:∃g2,g2=w4.heap.size:=⟨_,rfl⟩
  obtain ⟨W5,hW5⟩:∃W5,W5=w4.alloc (.cells #[.string ⟨#[32]⟩,.string SG,.string ⟨#[32]⟩] 9):=⟨_,rfl⟩
  have HA5:Hid (WAt u b g1 ⟨5,0,S,(j:Int),some ⟨go',o',none⟩,2,cap,p⟩ w W5 (l++par P e.tx) (n+1+e.size) d):=by rw [hW5];exact HA4.out.alloc HN1.out _
  have HC:=h_ (put_any W5 u.heap.size b g2 3 (l++par P e.tx) (n+1+e.size) d [⟨#[32]⟩,SG,⟨#[32]⟩] HA5.out.wb (by rw [hW5,hg2];exact StR.three w4 _ _ _) rfl (by have:=HA4.out.wb.lt;omega)
   (λ t ht=>by
    have h1:SG.data.toList.length=SG.size:=rfl;rw [HSG.out] at h1;have:=HSL.out;simp only [List.mem_cons,List.not_mem_nil,or_false] at ht;rcases ht with rfl|rfl|rfl
    ·decide
    ·omega
    ·decide) (by omega) (by have:=HS.out.2.2.1;rw [List.length_append];omega) HA5.out.bl.size)
  have hfl:flat [⟨#[32]⟩,SG,⟨#[32]⟩]=32::(sl++[32]):=by rw [flat_cons,flat_cons,flat_cons,flat_nil,List.append_nil,HSG.out];rfl
  rw [hfl] at HC
  obtain ⟨c3,hc3⟩:∃c3,decide (List.length (l++par P e.tx++(32::(sl++[32])))<=16384)=c3:=⟨_,rfl⟩
  rw [hc3] at HC
  have HC3:Hid (decide (l.length+(par P e.tx).length+(sl.length+2)<=16384)=c3):=by
   show _=_;rw [<-hc3]
   congr 1
   simp only [List.length_append,List.length_cons,List.length_nil]
   all_goals
    apply propext
    constructor <;> intro h <;> omega
  have z3:=HA4.out.xp.c3;simp only at z3;have sgc:=HSGC.out w4 HA4.out.bl;clear he hwb HQ HK HA2 HA4 hfl hc3;go_wp2_with fail;rw [<-hW5,<-hg2];clear hW5 hg2;refine HC.out.mono ?_;rintro _ w6 ⟨rfl,hw,hk⟩;have HA6:=h_ (HA5.out.go HN1.out hk hw);clear hw hk HC HA5 z3 sgc;cases c3
  ·go_wp2_with fail;go_ret;exact ⟨false,rfl,WQ.no (HON2.out.1 (of_decide_eq_false HC3.out)),HA6.out.wk⟩
  have HO:=h_ (HOQ.out w6 (l++par P e.tx++(32::(sl++[32]))) (n+1+e.size) d HA6.out.bl HA6.out.wb HD.out.1 HS.out.2.2.2 (by
   have:=of_decide_eq_true HC3.out;simp only [List.length_append,List.length_cons,List.length_nil]
   omega))
  have e5:(l++par P e.tx++(32::(sl++[32]))).length=l.length+(par P e.tx).length+(sl.length+2):=by
   simp only [List.length_append,List.length_cons,List.length_nil]
   all_goals omega
  rw [e5] at HO;have z4:=HA6.out.xp.c4;simp only at z4;obtain ⟨y0,y1,y2,y3,y4,y5⟩:=HEV'.out w6 HA6.out.bl;simp only at y0 y1 y2 y3 y4 y5;clear HOQ e5;go_wp2_with fail;refine HO.out.mono ?_;rintro _ w7 ⟨r,rfl,hq,hk⟩;have HQ:=h_ hq;have HK:=h_ hk;clear hq hk HO z4 y0 y1 y2 y3 y4 y5;go_wp2_with fail;go_ret;refine ⟨r,rfl,?_,HA6.out.wk.trans HK.out⟩;rcases HQ.out with ⟨rfl,h⟩|⟨rfl,e',h,hw⟩
  ·exact WQ.no (HON2.out.2.1 h)
  ·obtain ⟨h1,h2⟩:=HON2.out.2.2 e' h;refine WQ.yes _ h1 hw ?_ ?_
   ·rw [h2];simp only [a_,List.cons_append,List.nil_append]
   ·rw [HBS.out];omega
theorem expr_all (u:World) (b:Nat) (hV:Wv u):∀(m:Nat) (x:GX),SizeOf.sizeOf x<=m->x.rng->WExp u b x
 |0,x,hm,_=>by
  obtain ⟨k,n,s,o,l,p⟩:=x;simp only [GX.mk.sizeOf_spec] at hm;omega
 |m+1,x,hm,hr=>expr_step u b hV x hr (λ i y hi=>operand_any u b y (expr_all u b hV m y (by have:=sub_size hi;omega) (by
   obtain ⟨k,n,s,o,l,p⟩:=x;rw [GX.rng] at hr
   exact rng_get hr.2.2.2 hi)))
theorem expr_any (u:World) (b:Nat) (hV:Wv u) (x:GX) (hr:x.rng):WExp u b x:=expr_all u b hV _ x (n_ _) hr
theorem WB.new' {w:World} {B:Nat} (hB:B<=w.heap.size):WB (w.alloc (.cells #[.pointer none,.slice none 0 0,.int .i64 0,.int .i64 0] 276)) B w.heap.size [] 0 0 :=
 ⟨hB,_,_,.inl rfl,heap_alloc_new w _,World.ownsRow_nil _ _ _ _,by simp [Value.ownBlock]⟩
theorem GX.right_some {x:GX} {e:Ex} (h:x.right=some e):x.ex=some e/\e.nst<=20/\e.tx.length<=16384:=by
 unfold GX.right at h
 cases hx:x.ex with
 |none=>rw [hx] at h;cases h
 |some y =>
  rw [hx] at h
  by_cases c:y.nst<=20/\y.tx.length<=16384
  ·have h':(if y.nst<=20/\y.tx.length<=16384 then some y else none)=some e:=h;rw [if_pos c] at h';injection h' with h';subst h';exact ⟨rfl,c⟩
  ·have h':(if y.nst<=20/\y.tx.length<=16384 then some y else none)=some e:=h;rw [if_neg c] at h';cases h'
theorem GX.txt_some {x:GX} {e:Ex} (h:x.right=some e):x.txt=e.tx:=by unfold GX.txt;rw [h]
theorem GX.txt_none {x:GX} (h:x.right=none):x.txt=[]:=by unfold GX.txt;rw [h]
theorem newWriter (w:World) (v:EV):∃(W0:World) (g1 b:Nat),W0=(w.alloc (.cells #[.int .i64 v.kind,.int .i64 v.num,.string v.name,.int .i64 v.op,.slice v.A v.len v.cap,.int .i64 v.p] 55)).alloc (.cells #[.pointer none,.slice none 0 0,.int .i64 0,.int .i64 0] 276) /\
  g1=w.heap.size/\b=w.heap.size+1/\Hid (WAt w b g1 v w W0 [] 0 0)/\g1≠b:=by
 have e:(w.alloc (.cells #[.int .i64 v.kind,.int .i64 v.num,.string v.name,.int .i64 v.op,.slice v.A v.len v.cap,.int .i64 v.p] 55)).heap.size=w.heap.size+1:=by simp
 refine ⟨_,_,_,rfl,rfl,rfl,?_,by omega⟩;rw [<-e];have hb:Below w.heap.size w (w.alloc (.cells #[.int .i64 v.kind,.int .i64 v.num,.string v.name,.int .i64 v.op,.slice v.A v.len v.cap,.int .i64 v.p] 55)):=(b_ _ w).alloc (n_ _) _;exact ⟨hb.alloc hb.size _,WB.new' hb.size,(XpB.new w v).alloc _,(Wk.alloc (n_ _) _).trans (Wk.alloc hb.size _)⟩
theorem etext_any (w:World) (x:GX) (v:EV) (hV:Wv w) (hr:x.rng) (hg:GV w 0 w.heap.size x v) :
  Calls Tryz.prog 201 #[v.val] w λ e w'=>e=.returned (.string ⟨x.txt.toArray⟩)/\Below w.heap.size w w':=by
 obtain ⟨W0,g1,b,hW0,hg1,hb1,HA,hne⟩:=newWriter w v;have HE:=h_ (expr_any w b hV x hr W0 v [] 0 0 hg HA.out.bl HA.out.wb (by omega) (by omega) (by decide));rw [show ([]:List UInt8).length=0 from rfl,wrX_right] at HE;have HR:=h_ (λ (e:Ex) (h:x.right=some e)=>And.intro (GX.txt_some h) (tx_Hd e (ex_some x e (GX.right_some h).1).1));have HN:=h_ (@GX.txt_none x);have HNE:=h_ hne
 obtain ⟨T,hT⟩:∃T,x.txt=T:=⟨_,rfl⟩
 rw [hT] at HR HN ⊢;obtain ⟨k,num,S,op,A,len,cap,p⟩:=v;simp only [EV.val] at HE ⊢;simp only at hW0;have z0:=HA.out.xp.c0;have z1:=HA.out.xp.c1;have z2:=HA.out.xp.c2;have z3:=HA.out.xp.c3;have z4:=HA.out.xp.c4;have z5:=HA.out.xp.c5;simp only at z0 z1 z2 z3 z4 z5;clear hV hr hg hT hne;go_enter Tryz.func201,Tryz.ntmps201;go_upto_region 2 with fail;rw [<-hW0,<-hb1,<-hg1];clear hW0 hg1 hb1;go_wp2_with fail;refine HE.out.mono ?_;rintro e w1 ⟨r,rfl,hq,hk⟩;have HQ:=h_ hq;have HK:=h_ (HA.out.wk.trans hk);clear hq hk HE z0 z1 z2 z3 z4 z5;cases r
 ·obtain rfl:T=[]:=HN.out (by
   rcases HQ.out with ⟨_,h⟩|⟨h,_⟩
   ·exact h
   ·cases h)
  go_wp2_with fail;go_ret;exact ⟨rfl,HK.out.below⟩
 ·obtain ⟨e,he,hwb⟩:∃e,x.right=some e/\WB w1 w.heap.size b e.tx e.size 0:=by
   rcases HQ.out with ⟨h,_⟩|⟨_,e,h,hw⟩
   ·cases h
   ·exact ⟨e,h,by rw [List.nil_append,Nat.zero_add] at hw;exact hw⟩
  obtain ⟨h1,h2⟩:=HR.out e he;have HS:=h_ (bstring_any w1 w.heap.size b e.tx e.size 0 hwb (by obtain ⟨c,r,h,_⟩:=h2;rw [h];simp));rw [<-h1] at HS;clear he hwb h1 h2 HR HN HQ;go_wp2_with fail;refine HS.out.mono ?_;rintro _ w2 ⟨rfl,hb⟩;go_wp2_with fail;go_ret;exact ⟨rfl,HK.out.below.trans hb⟩
theorem eright_any (w:World) (x:GX) (v:EV) (hV:Wv w) (hr:x.rng) (hg:GV w 0 w.heap.size x v) :
  Calls Tryz.prog 278 #[v.val] w λ e w'=>e=.returned (.bool x.right.isSome)/\Below w.heap.size w w':=by
 obtain ⟨W0,g1,b,hW0,hg1,hb1,HA,hne⟩:=newWriter w v;have HE:=h_ (expr_any w b hV x hr W0 v [] 0 0 hg HA.out.bl HA.out.wb (by omega) (by omega) (by decide));rw [show ([]:List UInt8).length=0 from rfl,wrX_right] at HE
 obtain ⟨Y,hY⟩:∃Y,x.right=Y:=⟨_,rfl⟩
 rw [hY] at HE ⊢;obtain ⟨k,num,S,op,A,len,cap,p⟩:=v;simp only [EV.val] at HE ⊢;simp only at hW0;have z0:=HA.out.xp.c0;have z1:=HA.out.xp.c1;have z2:=HA.out.xp.c2;have z3:=HA.out.xp.c3;have z4:=HA.out.xp.c4;have z5:=HA.out.xp.c5;simp only at z0 z1 z2 z3 z4 z5;clear hV hr hg hY hne;go_enter Tryz.func278,Tryz.ntmps278;go_wp2_with fail;rw [<-hW0,<-hb1];clear hW0 hg1 hb1;refine HE.out.mono ?_;rintro e w1 ⟨r,rfl,hq,hk⟩;have HQ:=h_ hq;have HK:=h_ (HA.out.wk.trans hk);clear hq hk HE z0 z1 z2 z3 z4 z5;go_wp2_with fail;go_ret;refine ⟨?_,HK.out.below⟩;rcases HQ.out with ⟨rfl,h⟩|⟨rfl,e,h,_⟩
 ·rw [h];rfl
 ·rw [h];rfl
def SyAct.g (a:SyAct):GA:=⟨a.kind,a.name,gxO a.value,a.at_⟩
def SyMove.g (m:SyMove):GM:=⟨m.kind,m.event,m.wait,m.guarded,gxO m.guard,m.acts.map SyAct.g,m.targets,m.at_⟩
mutual
def SyNode.g:SyNode->GN
 |.mk k n i d e l m ks p=>.mk k n i d (e.map SyAct.g) (l.map SyAct.g) (m.map SyMove.g) (SyNode.gs ks) p
def SyNode.gs:List SyNode->List GN
 |[]=>[]
 |x::l=>x.g::SyNode.gs l
end
def SyChart.g (c:SyChart):GC:=⟨c.vars,c.root.g⟩
theorem gs_map:∀l:List SyNode,SyNode.gs l=l.map SyNode.g
 |[]=>by rw [SyNode.gs];rfl
 |x::l=>by rw [SyNode.gs,gs_map l];rfl
theorem pls_flat {α β:Type} {f:α->List DV} {h:β->List DV} {g:α->β} (hf:∀a,DV.pls (f a)=h (g a)) (l:List α):DV.pls (l.flatMap f)=(l.map g).flatMap h:=by
 induction l with
 |nil=>rw [pls_map];rfl
 |cons a l ih =>
  rw [pls_map,List.flatMap_cons,List.map_append,<-pls_map,<-pls_map,hf,ih,List.map_cons,List.flatMap_cons]
theorem pls_act (o:Bool) (a:SyAct):DV.pls (dvAct o a)=gAct a.g:=by
 rw [pls_map];simp [dvAct,dvEx,gAct,gEx,SyAct.g,DV.pl]
theorem pl_acts (o:Bool) (l:List SyAct):(dvActs o l).pl=gActs (l.map SyAct.g):=by
 unfold dvActs gActs;rw [DV.pl,pls_flat (pls_act o),List.length_map]
theorem pl_strs (l:List (List UInt8)):(dvStrs l).pl=dvStrs l:=by
 unfold dvStrs;rw [DV.pl,pls_map,List.map_map]
 congr 1
theorem pls_move (o:Bool) (m:SyMove):DV.pls (dvMove o m)=gMove m.g:=by
 rw [pls_map];simp [dvMove,dvEx,gMove,gEx,SyMove.g,DV.pl,pl_acts,pl_strs]
mutual
theorem pls_node (o:Bool):∀x:SyNode,DV.pls (dvNode o x)=gNode x.g
 |.mk k n i d e l m ks p=>by
  have h:=pls_nodes o ks
  have hl:(SyNode.gs ks).length=ks.length:=by rw [gs_map,List.length_map]
  rw [pls_map,dvNode_mk,SyNode.g,gNode_mk];unfold dvMoves gMoves dvKids gKids;simp only [List.map_cons,List.map_nil,DV.pl,pl_acts,pls_flat (pls_move o),h,hl,List.length_map]
theorem pls_nodes (o:Bool):∀l:List SyNode,DV.pls (dvNodes o l)=gNodes (SyNode.gs l)
 |[]=>by rw [dvNodes,SyNode.gs,gNodes,DV.pls]
 |x::l=>by
  rw [dvNodes,SyNode.gs,gNodes,pls_map,List.map_append,<-pls_map,<-pls_map,pls_node o x,pls_nodes o l]
end
theorem pl_vars (l:List SyVar):(dvVars l).pl=dvVars l:=by
 unfold dvVars;rw [DV.pl,pls_flat (h:=dvVar) (g:=id) (λ a=>by rw [pls_map];simp [dvVar,DV.pl])];simp
theorem chart_dx {w:World} {o:Bool} {c:SyChart} {xs:List Value} {F:List Nat} (h:DvsAt w (dvChart o c) xs F):DxsAt w (gChart c.g) xs:=by
 have:=h.dx;unfold dvChart at this;rw [DV.pls,pls_node,pl_vars] at this;exact this
def nothing (x:GX):Bool:=decide (x.kind=0)&&decide (x.num=0)&&x.name.isEmpty&&decide (x.op=0)&&x.subs.isEmpty
def okA (a:GA):Bool:=isNm a.name&&(if a.kind=1∨a.kind=3 then a.val.right.isSome else decide (a.kind=2)&&nothing a.val)
def trig (m:GM):Bool:=if m.kind=1 then isNm m.event&&decide (m.wait=0) else if m.kind=2 then m.event.isEmpty&&decide (m.wait=0) else decide (m.kind=3)&&m.event.isEmpty&&decide (0<=m.wait)
def grd (m:GM):Bool:=if m.guarded then m.guard.right.isSome else nothing m.guard
def okM (m:GM):Bool:=trig m&&grd m&&m.acts.all okA&&m.targets.all isNm
mutual
def okN:Nat->GN->Bool
 |0,_=>false
 |d+1,.mk k nm ini dft en le mo ks _=>isNm nm&&(if k=3∨k=4 then isNm dft&&ini.isEmpty&&en.isEmpty&&le.isEmpty&&mo.isEmpty&&ks.isEmpty
   else decide (k=1∨k=2)&&dft.isEmpty&&(ini.isEmpty || isNm ini)&&en.all okA&&le.all okA&&mo.all okM&&okNs d ks)
def okNs:Nat->List GN->Bool
 |_,[]=>true
 |d,x::l=>okN d x&&okNs d l
end
def mvG:List GM->Nat
 |[]=>0
 |m::l=>m.acts.length+mvG l
mutual
def nN:GN->Nat
 |.mk _ _ _ _ _ _ _ ks _=>1+nNs ks
def nNs:List GN->Nat
 |[]=>0
 |x::l=>nN x+nNs l
end
mutual
def nM:GN->Nat
 |.mk _ _ _ _ _ _ mo ks _=>mo.length+nMs ks
def nMs:List GN->Nat
 |[]=>0
 |x::l=>nM x+nMs l
end
mutual
def nA:GN->Nat
 |.mk _ _ _ _ en le mo ks _=>en.length+le.length+mvG mo+nAs ks
def nAs:List GN->Nat
 |[]=>0
 |x::l=>nA x+nAs l
end
def GN.kind:GN->Int|.mk k _ _ _ _ _ _ _ _=>k
def okV (v:SyVar):Bool:=isNm v.name&&decide (v.num≠-9223372036854775808)
def okC (c:GC):Bool:=decide (c.vars.length<=16)&&c.vars.all okV&&decide (c.root.kind=1)&&okN 12 c.root&&decide (nN c.root<=64)&&decide (nM c.root<=200)&&decide (nA c.root<=400)
def GA.s (a:GA):SyAct:=⟨a.kind,a.name,a.val.right,a.at_⟩
def GM.s (m:GM):SyMove:=⟨m.kind,m.event,m.wait,m.guarded,m.guard.right,m.acts.map GA.s,m.targets,m.at_⟩
mutual
def GN.s:GN->SyNode
 |.mk k n i d e l m ks p=>.mk k n i d (e.map GA.s) (l.map GA.s) (m.map GM.s) (GN.ss ks) p
def GN.ss:List GN->List SyNode
 |[]=>[]
 |x::l=>x.s::GN.ss l
end
def GC.s (c:GC):SyChart:=⟨c.vars,c.root.s⟩
theorem ss_map:∀l:List GN,GN.ss l=l.map GN.s
 |[]=>by rw [GN.ss];rfl
 |x::l=>by rw [GN.ss,ss_map l];rfl
def prR (c:GC):List UInt8×Int:=if okC c=true then (if (chartT c.s).length<=16384 then (chartT c.s,0) else ([],2)) else ([],22)
theorem nothing_right {x:GX} (h:nothing x=true):x.right=none:=by
 obtain ⟨k,n,s,o,l,p⟩:=x;unfold nothing at h;simp only [Bool.and_eq_true,decide_eq_true_eq] at h;have hk:k=0:=h.1.1.1.1;subst hk
 have:(GX.mk 0 n s o l p).ex=none:=by
  rw [ex_mk];apply node_bad;unfold nodeOk;rw [if_neg (by decide),if_neg (by decide),if_neg (by decide),if_neg (by decide)]
 unfold GX.right;rw [this]
theorem right_may {x:GX} {e:Ex} (h:x.right=some e):e.may:=by
 obtain ⟨h1,h2,_⟩:=GX.right_some h;exact ⟨(ex_some x e h1).1,h2⟩
theorem okA_good {a:GA} (h:okA a=true):a.s.good:=by
 unfold okA at h;rw [Bool.and_eq_true] at h;obtain ⟨h1,h2⟩:=h
 by_cases hk:a.kind=1∨a.kind=3
 ·rw [if_pos hk] at h2;obtain ⟨e,he⟩:=x_ h2;refine ⟨by rcases hk with h|h;exact .inl h;exact .inr (.inr h),h1,λ hk2=>?_,λ _=>⟨e,he,right_may he⟩⟩;have:a.kind=2:=hk2;omega
 ·rw [if_neg hk,Bool.and_eq_true,decide_eq_true_eq] at h2;exact ⟨.inr (.inl h2.1),h1,λ _=>nothing_right h2.2,λ hn=>absurd h2.1 hn⟩
theorem okAs_good {l:List GA} (h:l.all okA=true):∀a∈l.map GA.s,a.good:=λ a ha=>by
 obtain ⟨b,hb,rfl⟩:=List.mem_map.1 ha;exact okA_good (List.all_eq_true.1 h b hb)
theorem okM_good {m:GM} (h:okM m=true) (hw:m.wait<=9223372036854775807):m.s.good:=by
 unfold okM at h;simp only [Bool.and_eq_true] at h;obtain ⟨⟨⟨h1,h2⟩,h3⟩,h4⟩:=h
 have hT:(m.kind=1/\isNm m.event=true/\m.wait=0)∨(m.kind=2/\m.event=[]/\m.wait=0)∨(m.kind=3/\m.event=[]/\0<=m.wait):=by
  unfold trig at h1
  by_cases k1:m.kind=1
  ·rw [if_pos k1] at h1;simp only [Bool.and_eq_true,decide_eq_true_eq] at h1;exact .inl ⟨k1,h1⟩
  ·rw [if_neg k1] at h1
   by_cases k2:m.kind=2
   ·rw [if_pos k2] at h1;simp only [Bool.and_eq_true,decide_eq_true_eq,List.isEmpty_iff] at h1;exact .inr (.inl ⟨k2,h1⟩)
   ·rw [if_neg k2] at h1;simp only [Bool.and_eq_true,decide_eq_true_eq,List.isEmpty_iff] at h1;exact .inr (.inr ⟨h1.1.1,h1.1.2,h1.2⟩)
 have hG:m.guarded=m.guard.right.isSome:=by
  unfold grd at h2
  cases hg:m.guarded with
  |true=>rw [hg,if_pos rfl] at h2;exact h2.symm
  |false=>rw [hg,if_neg (by decide)] at h2;rw [nothing_right h2];rfl
 refine ⟨?_,?_,?_,hG,λ x hx=>right_may hx,okAs_good h3,λ t ht=>List.all_eq_true.1 h4 t ht⟩
 ·rcases hT with h|h|h
  ·exact .inl h.1
  ·exact .inr (.inl h.1)
  ·exact .inr (.inr h.1)
 ·rcases hT with h|h|h
  ·exact .inl ⟨h.1,h.2.1⟩
  ·exact .inr ⟨by show m.kind≠1;omega,h.2.1⟩
  ·exact .inr ⟨by show m.kind≠1;omega,h.2.1⟩
 ·rcases hT with h|h|h
  ·exact .inr ⟨by show m.kind≠3;omega,h.2.2⟩
  ·exact .inr ⟨by show m.kind≠3;omega,h.2.2⟩
  ·exact .inl ⟨h.1,h.2.2,hw⟩
def GA.rng (a:GA):Prop:=a.name.length<=140737488351232/\a.val.rng
def GM.rng (m:GM):Prop:=m.event.length<=140737488351232/\(-9223372036854775808<=m.wait/\m.wait<=9223372036854775807)/\m.guard.rng/\(∀a∈m.acts,a.rng)/\∀t∈m.targets,t.length<=140737488351232
mutual
def GN.rng:GN->Prop
 |.mk _ nm ini dft en le mo ks _=>nm.length<=140737488351232/\ini.length<=140737488351232/\dft.length<=140737488351232/\(∀a∈en,a.rng)/\(∀a∈le,a.rng)/\(∀m∈mo,m.rng)/\GN.rngs ks
def GN.rngs:List GN->Prop
 |[]=>True
 |x::l=>x.rng/\GN.rngs l
end
def SyVar.rng (v:SyVar):Prop:=v.name.length<=140737488351232/\-9223372036854775808<=v.num/\v.num<=9223372036854775807
def GC.rng (c:GC):Prop:=(∀v∈c.vars,v.rng)/\c.root.rng
theorem GN.rngs_iff:∀{l:List GN},GN.rngs l ↔ ∀x∈l,x.rng
 |[]=>by rw [GN.rngs];simp
 |x::l=>by rw [GN.rngs,GN.rngs_iff];simp
theorem okNs_iff {d:Nat}:∀{l:List GN},okNs d l=true ↔ ∀x∈l,okN d x=true
 |[]=>by rw [okNs];simp
 |x::l=>by rw [okNs,Bool.and_eq_true,okNs_iff];simp
mutual
def layN:GN->Int->Int->Nat->List Spt
 |.mk k nm _ _ _ _ _ ks _,p,d,a=>⟨k,nm,p,d,(a:Int)+1+(nNs ks:Nat)⟩::layNs ks a (d+1) (a+1)
def layNs:List GN->Int->Int->Nat->List Spt
 |[],_,_,_=>[]
 |x::l,p,d,a=>layN x p d a++layNs l p d (a+nN x)
end
mutual
theorem layN_len:∀(x:GN) (p d:Int) (a:Nat),(layN x p d a).length=nN x
 |.mk k nm i df en le mo ks q,p,d,a=>by rw [layN,nN,List.length_cons,layNs_len ks];omega
theorem layNs_len:∀(l:List GN) (p d:Int) (a:Nat),(layNs l p d a).length=nNs l
 |[],_,_,_=>by rw [layNs,nNs];rfl
 |x::l,p,d,a=>by rw [layNs,nNs,List.length_append,layN_len x,layNs_len l]
end
mutual
theorem layN_seg:∀(x:GN) (p d:Int) (a:Nat),Seg (layN x p d a) p d a
 |.mk k nm i df en le mo ks q,p,d,a=>by
  have h:=(layNs_seg ks a (d+1) (a+1)).cons (p:=p) k nm;rw [layNs_len] at h;rw [layN];exact h
theorem layNs_seg:∀(l:List GN) (p d:Int) (a:Nat),Seg (layNs l p d a) p d a
 |[],p,d,a=>by rw [layNs];exact Seg.nil p d a
 |x::l,p,d,a=>by
  rw [layNs];refine (layN_seg x p d a).app ?_;rw [layN_len];exact layNs_seg l p d _
end
theorem lay_fo (x:GN):Fo (layN x (-1) 0 0):=by
 have h:=layN_seg x (-1) 0 0;have hl:=layN_len x (-1) 0 0
 have hpos:0<nN x:=by cases x;rw [nN];omega
 have hroot:∀s,(layN x (-1) 0 0)[0]?=some s->s.par=-1/\s.fin=(((layN x (-1) 0 0).length:Nat):Int):=λ s hs=>by
  cases x with
  |mk k nm i df en le mo ks q =>
   rw [hl];rw [layN,z_,j_] at hs;subst hs;exact ⟨rfl,by rw [nN];simp only;omega⟩
 obtain ⟨s0,hs0⟩:∃s,(layN x (-1) 0 0)[0]?=some s:=⟨_,List.getElem?_eq_getElem (by omega)⟩
 have hdep0:∀s,(layN x (-1) 0 0)[0]?=some s->s.dep=0:=λ s hs=>by
  cases x with
  |mk k nm i df en le mo ks q =>
   rw [layN,z_,j_] at hs;subst hs;rfl
 refine ⟨by omega,hroot,hdep0,λ i s hi hs=>?_,λ i s hs=>?_,λ b i s t hb hs ht hf=>?_⟩
 ·rcases (h.one i s hs).2.2 with ⟨h3,_⟩|⟨q,t,k1,k2,k3,k4,k5,k6⟩
  ·have hlt:=(List.getElem?_eq_some_iff.1 hs).1;obtain ⟨r,_,k2⟩:=h.mid 0 i s s0 hi hs hs0 (by rw [(hroot s0 hs0).2];omega);omega
  ·exact ⟨q,t,by rw [k3];omega,k1,k2,by omega,k5,k6⟩
 ·obtain ⟨h1,h2,_⟩:=h.one i s hs;exact ⟨by omega,by omega⟩
 ·obtain ⟨r,k1,k2⟩:=h.mid b i s t hb hs ht (by omega);exact ⟨r,k1,by rw [k2];omega⟩
def findN (F:List Spt) (s:List UInt8):Option Nat:=F.findIdx? λ x=>x.name==s
def findF (F:List Spt) (s:List UInt8):Int:=match findN F s with|some i=>(i:Int)|none=>-1
def isHist (k:Int):Bool:=decide (k=3) || decide (k=4)
def stF (F:List Spt) (s:List UInt8):Bool:=match findN F s with|some i=>(match F[i]? with|some x=>!isHist x.kind|none=>false)|none=>false
def vrF (V:List (List UInt8)) (s:List UInt8):Bool:=V.contains s
mutual
def exF (V:List (List UInt8)) (F:List Spt):GX->List (Int×Int)
 |.mk k _ nm _ l p=>(if (k=2/\vrF V nm=false)∨(k=3/\stF F nm=false) then [(23,p)] else [])++exsF V F l
def exsF (V:List (List UInt8)) (F:List Spt):List GX->List (Int×Int)
 |[]=>[]
 |x::l=>exF V F x++exsF V F l
end
def acF (V:List (List UInt8)) (F:List Spt) (a:GA):List (Int×Int):=(if a.kind=1/\vrF V a.name=false then [(23,a.at_)] else [])++exF V F a.val
def acsF (V:List (List UInt8)) (F:List Spt):List GA->List (Int×Int)
 |[]=>[]
 |a::l=>acF V F a++acsF V F l
def tgN (F:List Spt) (s:List UInt8):Option Int:=match findN F s with
 |some (i+1)=>(match F[i+1]? with|some x=>some (if isHist x.kind then x.par else ((i+1:Nat):Int))|none=>none)
 |_=>none
def kindF (F:List Spt) (n:Int):Int:=match spA F n with|some s=>s.kind|none=>0
def apartF (F:List Spt) (a b:Int):Bool:=!(decide (a=b)) && !inW F a b && !inW F b a&&decide (kindF F (meetF F [a,b])=2)
def tgsN (F:List Spt):List Int->List (List UInt8)->Bool
 |_,[]=>true
 |at_,s::l=>match tgN F s with
  |none=>false
  |some n=>at_.all (λ m=>apartF F n m)&&tgsN F (at_++[n]) l
def mvF (V:List (List UInt8)) (F:List Spt) (m:GM):List (Int×Int) :=
 (if m.kind=3/\(m.wait=0∨1099511627776<m.wait) then [(28,m.at_)] else [])++(exF V F m.guard++(acsF V F m.acts++(if tgsN F [] m.targets then [] else [(27,m.at_)])))
def mvsF (V:List (List UInt8)) (F:List Spt):List GM->List (Int×Int)
 |[]=>[]
 |m::l=>mvF V F m++mvsF V F l
def GN.nm:GN->List UInt8|.mk _ n _ _ _ _ _ _ _=>n
def GN.p:GN->Int|.mk _ _ _ _ _ _ _ _ p=>p
def stK:List GN->Nat
 |[]=>0
 |x::l=>(if isHist x.kind then 0 else 1)+stK l
def dfF (F:List Spt) (i:Nat) (s:List UInt8):Bool:=match findN F s,F[i]? with
 |some d,some x=>inW F (d:Int) x.par&&stF F s
 |_,_=>false
def ownFt (F:List Spt) (i:Nat):GN->List (Int×Int)
 |.mk k _ ini dft _ _ _ ks p =>
  if isHist k then (if dfF F i dft then [] else [(26,p)])
  else if (k=2/\(ini≠[]∨stK ks<2))∨(k=1/\0<stK ks/\(ks.any λ x=>x.nm==ini)=false)∨(k=1/\stK ks=0/\ini≠[]) then [(25,p)]
  else if k=1/\stK ks=0/\ks≠[] then [(26,p)] else []
mutual
def ndF (V:List (List UInt8)) (F:List Spt):Nat->GN->List (Int×Int)
 |i,.mk k nm ini dft en le mo ks p=>ownFt F i (.mk k nm ini dft en le mo ks p)++(acsF V F en++(acsF V F le++(mvsF V F mo++ndsF V F (i+1) ks)))
def ndsF (V:List (List UInt8)) (F:List Spt):Nat->List GN->List (Int×Int)
 |_,[]=>[]
 |i,x::l=>ndF V F i x++ndsF V F (i+nN x) l
end
mutual
def atsN:GN->List Int
 |.mk _ _ _ _ _ _ _ ks p=>p::atsNs ks
def atsNs:List GN->List Int
 |[]=>[]
 |x::l=>atsN x++atsNs l
end
def dbN (F:List Spt) (at_:List Int):List (Int×Int):=(List.range F.length).flatMap λ i=>match F[i]? with
 |some s=>if findN F s.name=some i then [] else [(24,at_.getD i 0)]
 |none=>[]
def dbV:List (List UInt8)->List SyVar->List (Int×Int)
 |_,[]=>[]
 |l,v::vs=>(if l.contains v.name then [(24,v.at_)] else [])++dbV (l++[v.name]) vs
def spF (c:GC):List Spt:=layN c.root (-1) 0 0
def faults (c:GC):List (Int×Int):=dbN (spF c) (atsN c.root)++(dbV [] c.vars++ndF (c.vars.map (·.name)) (spF c) 0 c.root)
def ckR (c:GC):Int×Int:=if (prR c).2=0 then (faults c).headD (0,0) else ((prR c).2,-1)
mutual
theorem exF_ne (V:List (List UInt8)) (F:List Spt):∀(x:GX),∀f∈exF V F x,f.1≠0
 |.mk k n nm o l p,f,hf=>by
  rw [exF] at hf;rcases List.mem_append.1 hf with hf|hf
  ·split at hf
   ·rw [List.mem_singleton.1 hf];simp
   ·cases hf
  ·exact exsF_ne V F l f hf
theorem exsF_ne (V:List (List UInt8)) (F:List Spt):∀(l:List GX),∀f∈exsF V F l,f.1≠0
 |[],f,hf=>by rw [exsF] at hf;cases hf
 |x::l,f,hf=>by
  rw [exsF] at hf;rcases List.mem_append.1 hf with hf|hf
  ·exact exF_ne V F x f hf
  ·exact exsF_ne V F l f hf
end
theorem acsF_ne (V:List (List UInt8)) (F:List Spt):∀(l:List GA),∀f∈acsF V F l,f.1≠0
 |[],f,hf=>by cases hf
 |a::l,f,hf=>by
  rcases List.mem_append.1 (show f∈acF V F a++acsF V F l from hf) with hf|hf
  ·rcases List.mem_append.1 (show f∈_++exF V F a.val from hf) with hf|hf
   ·split at hf
    ·rw [List.mem_singleton.1 hf];simp
    ·cases hf
   ·exact exF_ne V F _ f hf
  ·exact acsF_ne V F l f hf
theorem mvsF_ne (V:List (List UInt8)) (F:List Spt):∀(l:List GM),∀f∈mvsF V F l,f.1≠0
 |[],f,hf=>by cases hf
 |m::l,f,hf=>by
  rcases List.mem_append.1 (show f∈mvF V F m++mvsF V F l from hf) with hf|hf
  ·unfold mvF at hf;rcases List.mem_append.1 hf with hf|hf
   ·split at hf
    ·rw [List.mem_singleton.1 hf];simp
    ·cases hf
   ·rcases List.mem_append.1 hf with hf|hf
    ·exact exF_ne V F _ f hf
    ·rcases List.mem_append.1 hf with hf|hf
     ·exact acsF_ne V F _ f hf
     ·split at hf
      ·cases hf
      ·rw [List.mem_singleton.1 hf];simp
  ·exact mvsF_ne V F l f hf
theorem ownFt_ne (F:List Spt) (i:Nat):∀(x:GN),∀f∈ownFt F i x,f.1≠0
 |.mk k nm ini dft en le mo ks p,f,hf=>by
  rw [ownFt] at hf
  split at hf
  ·split at hf
   ·cases hf
   ·rw [List.mem_singleton.1 hf];simp
  ·split at hf
   ·rw [List.mem_singleton.1 hf];simp
   ·split at hf
    ·rw [List.mem_singleton.1 hf];simp
    ·cases hf
theorem dbV_ne:∀(vs:List SyVar) (l:List (List UInt8)),∀f∈dbV l vs,f.1≠0
 |[],l,f,hf=>by cases hf
 |v::vs,l,f,hf=>by
  rcases List.mem_append.1 (show f∈_++dbV (l++[v.name]) vs from hf) with hf|hf
  ·split at hf
   ·rw [List.mem_singleton.1 hf];simp
   ·cases hf
  ·exact dbV_ne vs _ f hf
end Go.Proofs.YtocecpghoncmgaaGreatDoor
