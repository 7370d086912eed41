import Derived.Test.YtpgeidpfhakgaaaGreatDoorQh
import Derived.Test.YtpgeidpfhakgaaaGreatDoorQEwE
import Derived.Test.YtpgeidpfhakgaaaGreatDoorQFoF
import Derived.Shelf.Strings.Builder1
import Derived.Shelf.Strings.Builder2
import Derived.Shelf.Small.Strs
import Derived.Shelf.Strings.BuilderF
import Derived.Shelf.Strconv.Atoi
import Derived.Shelf.Strconv.Itoa0
import Derived.Shelf.Strconv.Itoa1
import Derived.Shelf.LaysM
import Derived.Shelf.Strconv.Itoa2
import Derived.Shelf.Strconv.Itoa3
import Derived.Shelf.Strconv.AtoiErrFast
import Derived.Shelf.Strconv.ParseIntEmpty
import Derived.Shelf.Strconv.AtoiFail
import Derived.Shelf.Strconv.Clone
import Derived.Shelf.Strconv.SyntaxError
import Derived.Shelf.LaysC
import Derived.Shelf.Strconv.ToError
import Derived.Shelf.Strconv.Lower
import Derived.Shelf.Strconv.ParseUint10
import Derived.Shelf.Strconv.ParseUint10Empty
import Derived.Shelf.Strconv.ParseUint10Any
import Derived.Shelf.Strconv.ParseInt10
import Derived.Shelf.Strconv.AtoiLong
import Derived.Shelf.Strconv.AtoiInnerAll
import Derived.Shelf.Strconv.RangeError
import Derived.Shelf.Strconv.ToErrorRange
import Derived.Shelf.Strconv.AtoiAll
import Derived.Shelf.Strconv.ErrVarAll
import Derived.Shelf.Strings.Search1
import Derived.Shelf.Strings.Prefix
import Derived.Shelf.Bits.Mul64
import Derived.Shelf.Strings.Repeat
import Derived.Test.YtpgeidpfhakgaaaGreatDoorProg
import Derived.Test.YtpgeidpfhakgaaaGreatDoorQGvM
import Derived.Deep.RegionHeld3
set_option maxHeartbeats 12800000
set_option maxRecDepth 20000
namespace Go.Proofs.YtpgeidpfhakgaaaGreatDoor
open Go.RowKit
def WC (w:World) (B b:Nat) (l:List UInt8) (n:Nat) (d:ByteArray):Prop :=
 B<=b/\∃p v,(p=Value.pointer none∨p=.pointer (some ⟨b,0,none⟩))/\w.heap[b]?=some (.cells #[p,v,.int .i64 (n:Int),.string d] 69 (0,0)) /\
  w.ownsRow B 5 1 v l.length (Lib.byteCells l)/\v.ownBlock≠some b
section
variable {w w':World} {B b:Nat} {l:List UInt8} {n:Nat} {d:ByteArray}
theorem WC.lt (h:WC w B b l n d):b<w.heap.size:=by
 obtain ⟨_,p,v,_,hb,_⟩:=h;exact heap_lt hb
theorem WC.c2 (h:WC w B b l n d):w.cell? ⟨b,2,none⟩=some (.int .i64 (n:Int)):=by
 obtain ⟨_,p,v,_,hb,_⟩:=h;rw [Lib.cell_of_heap hb];rfl
theorem WC.c3 (h:WC w B b l n d):w.cell? ⟨b,3,none⟩=some (.string d):=by
 obtain ⟨_,p,v,_,hb,_⟩:=h;rw [Lib.cell_of_heap hb];rfl
theorem WC.fr (h:WC w B b l n d) (i:Nat):w.frozen? ⟨b,i,none⟩=false:=by
 obtain ⟨_,p,v,_,hb,_⟩:=h;exact Lib.frozen_of_heap hb i
theorem WC.set2 (h:WC w B b l n d) (n':Nat):WC (w.setCell ⟨b,2,none⟩ (.int .i64 (n':Int))) B b l n' d:=by
 obtain ⟨hB,p,v,hp,hb,ho,hne⟩:=h;exact ⟨hB,p,v,hp,heap_setCell_same w b 2 _ _ _ hb,owns_set ho hne,hne⟩
theorem WC.set3 (h:WC w B b l n d) (d':ByteArray):WC (w.setCell ⟨b,3,none⟩ (.string d')) B b l n d':=by
 obtain ⟨hB,p,v,hp,hb,ho,hne⟩:=h;exact ⟨hB,p,v,hp,heap_setCell_same w b 3 _ _ _ hb,owns_set ho hne,hne⟩
theorem WC.used (h:WC w B b l n d):WC (w.setCell ⟨b,0,none⟩ (.pointer (some ⟨b,0,none⟩))) B b l n d:=by
 obtain ⟨hB,p,v,hp,hb,ho,hne⟩:=h;exact ⟨hB,_,v,.inr rfl,heap_setCell_same w b 0 _ _ _ hb,owns_set ho hne,hne⟩
theorem WC.drew (h:WC w B b l n d):WC w.drew B b l n d:=h
theorem WC.alloc (h:WC w B b l n d) (o:Obj):WC (w.alloc o) B b l n d:=by
 have hlt:=h.lt;obtain ⟨hB,p,v,hp,hb,ho,hne⟩:=h;exact ⟨hB,p,v,hp,(Below.heap_alloc w o b hlt).trans hb,ho.alloc _,hne⟩
theorem WC.below {u:World} (h:WC w B b l n d) (hb':Below w.heap.size w u):WC u B b l n d:=by
 have hlt:=h.lt;obtain ⟨hB,p,v,hp,hb,ho,hne⟩:=h;refine ⟨hB,p,v,hp,(hb'.block b hlt).trans hb,?_,hne⟩;refine ⟨ho.1,?_⟩;rcases ho.2 with hh|⟨g,cap,cur,h1,h2,h3,h4⟩
 ·exact .inl hh
 ·exact .inr ⟨g,cap,cur,h1,h2,(hb'.block g (heap_lt h3)).trans h3,h4⟩
end
theorem WC.put {w:World} {B b:Nat} {l':List UInt8} {n:Nat} {d:ByteArray} {p v v':Value} (hB:B<=b) (hp:p=Value.pointer none∨p=.pointer (some ⟨b,0,none⟩)) (hb:w.heap[b]?=some (.cells #[p,v,.int .i64 (n:Int),.string d] 69 (0,0)))
  (ho:w.ownsRow B 5 1 v' l'.length (Lib.byteCells l')):WC (w.setCell ⟨b,1,none⟩ v') B b l' n d:=by
 have hne:=Lib.ownBlock_ne ho hb (by decide);exact ⟨hB,p,v',hp,heap_setCell_same w b 1 _ _ _ hb,owns_set ho hne,hne⟩
theorem WC.new (w:World):WC (w.alloc (.cells #[.pointer none,.slice none 0 0,.int .i64 0,.string ⟨#[]⟩] 69)) w.heap.size w.heap.size [] 0 ⟨#[]⟩ :=
 ⟨n_ _,_,_,.inl rfl,heap_alloc_new w _,World.ownsRow_nil _ _ _ _,by simp [Value.ownBlock]⟩
set_option maxRecDepth 100000 in
theorem pcheck_any (w:World) (B b:Nat) (l:List UInt8) (n:Nat) (d:ByteArray) (h:WC w B b l n d) :
  Calls Tryz.prog 200 #[.pointer (some ⟨b,0,none⟩)] w λ e w'=>e=.returned (.tuple #[])/\WC w' B b l n d/\Wk B b w w':=by
 have HW:=h_ h;obtain ⟨hB,p,v,hp,hb,_,_⟩:=h
 have h0:w.cell? ⟨b,0,none⟩=some p:=by rw [Lib.cell_of_heap hb];rfl
 have hfr:=HW.out.fr 0
 have hsh:w.shape? b=some (69,4):=by simp [World.shape?,hb]
 obtain ⟨j,hj,hjs⟩:=Option.map_eq_some_iff.1 (show (Tryz.prog.info? 67).map (·.size)=some 2 by kernel_rfl)
 have HL:liesAt Tryz.prog Tryz.prog.depth 69 (4 / Tryz.prog.cellsOf 69) 0 67 1=true:=by kernel_rfl
 clear hb;rcases hp with rfl|rfl
 ·go_enter Tryz.func200,Tryz.ntmps200
  go_wp2
  rw [Lib.run_to_unsafe w ⟨b,0,none⟩ Tryz.underlying64 Tryz.underlying245 hj (by rw [hjs];decide) hsh (Nat.zero_lt_succ 3)];simp only [Result.andThen];rw [Oper.upon_value]
  go_wp2
  rw [run_callFunc_extern Tryz.func226 (by kernel_rfl) (by kernel_rfl) (by kernel_rfl) (e:=Extern.AbiNoEscape.same) (by kernel_rfl)];rw [Lib.run_noEscape];simp only [Result.andThen];rw [Oper.upon_value]
  go_wp2
  rw [Lib.run_from_unsafe w ⟨b,0,none⟩ Tryz.underlying245 Tryz.underlying64 hj hsh HL];simp only [Result.andThen];rw [Oper.upon_value]
  go_wp2
  go_end0;exact ⟨rfl,HW.out.used,Wk.set hB 0 _⟩
 ·go_enter Tryz.func200,Tryz.ntmps200
  go_wp2
  rw [Lib.run_neq_ptr_same w _ Tryz.underlying64 hj]
  go_wp2
  go_end0;exact ⟨rfl,HW.out,Wk.refl B b w⟩
set_option maxRecDepth 100000 in
theorem pblen_any (w:World) (B b:Nat) (l:List UInt8) (n:Nat) (d:ByteArray) (h:WC w B b l n d) :
  Calls Tryz.prog 31 #[.pointer (some ⟨b,0,none⟩)] w λ e w'=>e=.returned (.int .i64 l.length)/\w'=w:=by
 obtain ⟨hB,p,v,hp,hb,hown,_⟩:=h
 obtain ⟨ao,cap,rfl⟩:∃ao cap,v=.slice ao l.length cap:=by
  rcases hown.2 with ⟨hv,h0⟩|⟨g,cap,cur,hv,_⟩
  ·exact ⟨none,0,by rw [hv,h0]⟩
  ·exact ⟨_,_,hv⟩
 have c1:w.cell? ⟨b,1,none⟩=some (.slice ao l.length cap):=by rw [Lib.cell_of_heap hb];rfl
 clear hb hown hp;go_enter Tryz.func31,Tryz.ntmps31
 go_wp2
 go_ret;exact ⟨rfl,rfl⟩
set_option maxRecDepth 100000 in
theorem pbwrite_any (w:World) (B b:Nat) (l:List UInt8) (n:Nat) (d:ByteArray) (s:ByteArray) (h:WC w B b l n d) (hlen:l.length+s.size<=140737488355328) (hBw:B<=w.heap.size) :
  Calls Tryz.prog 168 #[.pointer (some ⟨b,0,none⟩),.string s] w λ e w'=>e=.returned (.tuple #[.int .i64 s.size,.nilIface])/\WC w' B b (l++s.data.toList) n d/\Wk B b w w':=by
 obtain ⟨i0,hi,hz0,hz1,hz2⟩:=info_parts (show (Tryz.prog.info? 5).map (λ i=>(i.zero,i.size,i.bytes))=some (some (.int .u8 0),1,1) by kernel_rfl);have HC:=h_ (pcheck_any w B b l n d h);clear h;go_enter Tryz.func168,Tryz.ntmps168;go_wp2_with (go_at_call 200;refine HC.out.mono ?_);rintro e w1 ⟨rfl,h1,hb1⟩;obtain ⟨hB,p,v,hp,hbk,hown,hne⟩:=h1
 have c0:w1.cell? ⟨b,0,none⟩=some p:=by rw [Lib.cell_of_heap hbk];rfl
 have c1:w1.cell? ⟨b,1,none⟩=some v:=by rw [Lib.cell_of_heap hbk];rfl
 go_wp2_with (at_builtin;refine Lib.wpList_append_own_string _ rfl _ _ 65 9 rfl B 5 i0 Tryz.underlying65 Tryz.underlying9 hi hz0 hz1 hz2 _ _ _ rfl hown s rfl ?c3 ?c4 ?c5 ?_)
 case c3=>unfold maxLen;omega
 case c4=>omega
 case c5=>have:=hb1.size;omega
 intro v' w2 hown' hgrow _;have hlt:b<w1.heap.size:=heap_lt hbk
 have hb2:w2.heap[b]?=some (.cells #[p,v,.int .i64 (n:Int),.string d] 69 (0,0)):=by
  rw [hgrow.block b hlt (λ e=>hne e.symm)];exact hbk
 have d0:w2.cell? ⟨b,0,none⟩=some p:=by rw [Lib.cell_of_heap hb2];rfl
 have d1:w2.cell? ⟨b,1,none⟩=some v:=by rw [Lib.cell_of_heap hb2];rfl
 have f1:w2.frozen? ⟨b,1,none⟩=false:=Lib.frozen_of_heap hb2 1
 obtain ⟨ao,n',cap,rfl⟩:∃ao n' cap,v'=.slice ao n' cap:=by
  rcases hown'.2 with ⟨hv,_⟩|⟨g,cap,cur,hv,_⟩
  ·exact ⟨_,_,_,hv⟩
  ·exact ⟨_,_,_,hv⟩
 go_wp2
 go_ret2;refine ⟨rfl,?_,?_⟩
 ·refine WC.put hB hp hb2 ?_;rw [Lib.byteCells_append,List.length_append];exact hown'
 ·refine hb1.trans (Wk.trans ⟨(b_ B w1).grown hgrow (by have:=hb1.size;omega) (λ k hk=>(hown.lt k hk).1),λ g cs T fr hg hn ht=>?_⟩ (Wk.set hB 1 _));rw [hgrow.block g (heap_lt hg) (λ e=>?_)]
  ·exact hg
  ·rcases hown.2 with ⟨rfl,_⟩|⟨g',cap',cur,rfl,_,hg',_⟩
   ·simp [Value.ownBlock] at e
   ·simp only [Value.ownBlock,j_] at e;subst e;rw [hg'] at hg;injection hg with hg;injection hg with _ hT _;exact ht hT.symm
set_option maxRecDepth 100000 in
theorem pbstring_any (w:World) (B b:Nat) (l:List UInt8) (n:Nat) (d:ByteArray) (h:WC w B b l n d) (h0:l≠[]) :
  Calls Tryz.prog 32 #[.pointer (some ⟨b,0,none⟩)] w λ e w'=>e=.returned (.string ⟨l.toArray⟩)/\Below B w w':=by
 obtain ⟨hB,p,v,hp,hbk,hown,hne⟩:=h
 have hl0:l.length≠0:=by simpa using h0
 obtain ⟨g,cap,cur,rfl,hbg,hg,hnc,hcm,hcs,htake⟩:∃g cap cur,v=.slice (some ⟨g,0,none⟩) l.length cap/\B<=g/\w.heap[g]?=some (.cells cur 5 (0,0))/\l.length<=cap/\cap<=maxLen/\cur.size=cap*1/\cur.toList.take (l.length*1)=Lib.byteCells l:=by
  rcases hown.2 with ⟨_,hz⟩|⟨g,cap,cur,hv,r⟩
  ·exact absurd hz hl0
  ·exact ⟨g,cap,cur,hv,r⟩
 have c1:w.drew.cell? ⟨b,1,none⟩=some (.slice (some ⟨g,0,none⟩) l.length cap):=by
  have:w.drew.heap[b]?=some (.cells #[p,.slice (some ⟨g,0,none⟩) l.length cap,.int .i64 (n:Int),.string d] 69 (0,0)):=hbk;rw [Lib.cell_of_heap this];rfl
 have hSD:(Builtin.unsafeSliceData_ #[65] 109 #[.slice (some ⟨g,0,none⟩) l.length cap]).run Tryz.prog w.drew=.ok (.pointer (some ⟨g,0,none⟩)) w.drew :=
  Lib.run_unsafeSliceData_row _ _ _ _ _ _ (by omega)
 have hUS:(Builtin.unsafeString_ #[109,3] 9 #[.pointer (some ⟨g,0,none⟩),.int .i64 l.length]).run Tryz.prog w.drew=.ok (.string ⟨l.toArray⟩) (w.drew.freeze ⟨g,0,none⟩ l.length):=by
  refine Lib.run_unsafeString_row w.drew 109 3 9 5 Tryz.underlying109 (by kernel_rfl) g cur.size (by have hg':w.drew.heap[g]?=some (.cells cur 5 (0,0)):=hg;simp [World.shape?,hg']) l h0 (by omega) (by unfold maxLen at hcm;omega) ?_;intro j x hx;have:=hown.cells (g:=g) rfl j (.int .u8 x.toNat) (by simp [Lib.byteCells,hx]);exact this
 clear hbk hown hg htake;go_enter Tryz.func32,Tryz.ntmps32
 go_wp2
 go_region
 all_goals (go_wp2;go_ret;exact ⟨rfl,Lib.below_freeze (Below.drew (b_ B w)) (p:=⟨g,0,none⟩) hbg _⟩)
end Go.Proofs.YtpgeidpfhakgaaaGreatDoor
namespace Go.Proofs.YtpgeidpfhakgaaaGreatDoor
def sepW (l x:List UInt8):List UInt8:=if x=[59]∨x=[44]∨x=[93] then [] else if l=[]∨l=[91] then [] else [32]
def ptT:List UInt8->List (List UInt8)->List UInt8
 |_,[]=>[]
 |l,x::xs=>sepW l x++(x++ptT x xs)
def ptL:List UInt8->List (List UInt8)->List UInt8
 |l,[]=>l
 |_,x::xs=>ptL x xs
theorem ptT_app:∀(l:List UInt8) (xs ys:List (List UInt8)),ptT l (xs++ys)=ptT l xs++ptT (ptL l xs) ys
 |l,[],ys=>rfl
 |l,x::xs,ys=>by
  show sepW l x++(x++ptT x (xs++ys))=(sepW l x++(x++ptT x xs))++ptT (ptL x xs) ys;rw [ptT_app x xs ys];simp only [a_]
theorem ptL_app:∀(l:List UInt8) (xs ys:List (List UInt8)),ptL l (xs++ys)=ptL (ptL l xs) ys
 |_,[],_=>rfl
 |_,x::xs,ys=>ptL_app x xs ys
def PWd (x:List UInt8):Prop:=x≠[]/\x≠[59]/\x≠[44]/\x≠[93]/\x≠[91]
theorem sep_pw {l x:List UInt8} (hl:PWd l) (hx:PWd x):sepW l x=[32]:=by
 unfold sepW;rw [if_neg (by rintro (h|h|h);exact hx.2.1 h;exact hx.2.2.1 h;exact hx.2.2.2.1 h),if_neg (by rintro (h|h);exact hl.1 h;exact hl.2.2.2.2 h)]
theorem sep_first {x:List UInt8}:sepW [] x=[]:=by
 unfold sepW
 split
 ·rfl
 ·rw [if_pos (.inl rfl)]
theorem sep_semi (l:List UInt8):sepW l [59]=[]:=by unfold sepW;rw [if_pos (.inl rfl)]
theorem sep_comma (l:List UInt8):sepW l [44]=[]:=by unfold sepW;rw [if_pos (.inr (.inl rfl))]
theorem sep_shut (l:List UInt8):sepW l [93]=[]:=by unfold sepW;rw [if_pos (.inr (.inr rfl))]
theorem sep_open (x:List UInt8):sepW [91] x=[]:=by
 unfold sepW
 split
 ·rfl
 ·rw [if_pos (.inr rfl)]
theorem sep_put {l x:List UInt8} (h1:l≠[]) (h2:l≠[91]) (h3:x≠[59]) (h4:x≠[44]) (h5:x≠[93]):sepW l x=[32]:=by
 unfold sepW;rw [if_neg (by rintro (h|h|h);exact h3 h;exact h4 h;exact h5 h),if_neg (by rintro (h|h);exact h1 h;exact h2 h)]
theorem pw_head {c:UInt8} {r:List UInt8} (h1:c≠59) (h2:c≠44) (h3:c≠93) (h4:c≠91):PWd (c::r):=by
 refine ⟨by simp,?_,?_,?_,?_⟩ <;> intro h <;> injection h with h _
 ·exact h1 h
 ·exact h2 h
 ·exact h3 h
 ·exact h4 h
theorem pw_hd {t:List UInt8} (h:Hd t):PWd t:=by
 obtain ⟨c,r,rfl,hh⟩:=h
 refine pw_head ?_ ?_ ?_ ?_ <;> (rintro rfl;revert hh;decide)
theorem pw_name {s:List UInt8} (h:isNm s=true):PWd s:=pw_hd (nm_Hd h)
theorem pw_tx {e:Ex} (h:e.fine):PWd e.tx:=pw_hd (tx_Hd e h)
theorem pw_int (n:Int):PWd (Lib.itoa n):=by
 unfold Lib.itoa
 split
 ·exact pw_head (by decide) (by decide) (by decide) (by decide)
 ·have h1:=dec_digits n.toNat
  have h2:Lib.decDigits n.toNat≠[]:=by
   intro h;have:=congrArg List.length h;unfold Lib.decDigits at this
   split at this <;> simp at this
  cases hd:Lib.decDigits n.toNat with
  |nil=>exact absurd hd h2
  |cons c r =>
   have h3:=h1 c (by rw [hd];simp)
   refine pw_head ?_ ?_ ?_ ?_ <;> (rintro rfl;revert h3;decide)
theorem pw_kw {w:List UInt8} (h:kwOk w=true):PWd w:=by
 cases w with
 |nil=>cases h
 |cons c u =>
  unfold kwOk at h;simp only [Bool.and_eq_true] at h;have hc:=h.1.1.1
  refine pw_head ?_ ?_ ?_ ?_ <;> (rintro rfl;revert hc;decide)
theorem pw_eq:PWd [61]:=pw_head (by decide) (by decide) (by decide) (by decide)
theorem pw_ar:PWd [45,62]:=pw_head (by decide) (by decide) (by decide) (by decide)
theorem pw_lb:PWd [123]:=pw_head (by decide) (by decide) (by decide) (by decide)
theorem pw_rb:PWd [125]:=pw_head (by decide) (by decide) (by decide) (by decide)
theorem pt_head {w nm:List UInt8} (h1:PWd w) (h2:PWd nm):ptT [] [w,nm,[123]]=w++32::(nm++32::[123]):=by
 simp only [ptT,sep_first,sep_pw h1 h2,sep_pw h2 pw_lb,List.nil_append,List.append_nil,List.cons_append]
theorem pt_var {nm:List UInt8} (h:PWd nm) (n:Int):ptT [] [wVar,nm,[61],Lib.itoa n,[59]]=wVar++32::(nm++32::([61,32]++(Lib.itoa n++[59]))):=by
 simp only [ptT,sep_first,sep_pw (pw_kw (w:=wVar) (by decide)) h,sep_pw h pw_eq,sep_pw pw_eq (pw_int n),sep_semi,List.nil_append,List.append_nil,List.cons_append]
theorem pt_ini {nm:List UInt8} (h:PWd nm):ptT [] [wInitial,nm,[59]]=wInitial++32::(nm++[59]):=by
 simp only [ptT,sep_first,sep_pw (pw_kw (w:=wInitial) (by decide)) h,sep_semi,List.nil_append,List.append_nil,List.cons_append]
theorem pt_hist {w nm d:List UInt8} (hw:PWd w) (h:PWd nm) (hd:PWd d):ptT [] [w,nm,[45,62],d,[59]]=w++32::(nm++32::([45,62]++32::(d++[59]))):=by
 simp only [ptT,sep_first,sep_pw hw h,sep_pw h pw_ar,sep_pw pw_ar hd,sep_semi,List.nil_append,List.append_nil,List.cons_append]
theorem pt_shut:ptT [] [[125]]=[125]:=by simp only [ptT,sep_first,List.nil_append,List.append_nil]
def EW (x:List UInt8):Prop:=x≠[]/\x≠[91]
theorem PWd.e {x:List UInt8} (h:PWd x):EW x:=⟨h.1,h.2.2.2.2⟩
theorem ew_semi:EW [59]:=⟨by decide,by decide⟩
theorem ew_lb:EW [123]:=⟨by decide,by decide⟩
theorem ew_rb:EW [125]:=⟨by decide,by decide⟩
theorem ew_shut:EW [93]:=⟨by decide,by decide⟩
theorem sep_ew {l x:List UInt8} (hl:EW l) (hx:PWd x):sepW l x=[32]:=sep_put hl.1 hl.2 hx.2.1 hx.2.2.1 hx.2.2.2.1
theorem sep_eo {l:List UInt8} (hl:EW l):sepW l [91]=[32]:=sep_put hl.1 hl.2 (by decide) (by decide) (by decide)
def acW (a:SyAct):List (List UInt8):=match a.value with
 |some x=>[actW a.kind,a.name,[61],x.tx,[59]]
 |none=>[actW a.kind,a.name,[59]]
theorem pt_act {a:SyAct} (h:a.good) {l:List UInt8} (hl:EW l):ptT l (acW a)=32::actT a/\ptL l (acW a)=[59]:=by
 have hk:=pw_kw (actW_ok h.kind);have hn:=pw_name h.name;unfold acW actT valT
 cases hv:a.value with
 |none =>
  constructor
  ·simp only [ptT,sep_ew hl hk,sep_pw hk hn,sep_semi,List.nil_append,List.append_nil,List.cons_append]
  ·rfl
 |some x =>
  have hx:PWd x.tx:=by
   by_cases h2:a.kind=2
   ·rw [h.raise h2] at hv;cases hv
   ·obtain ⟨y,hy,hm⟩:=h.value h2;rw [hv] at hy;injection hy with hy;rw [hy];exact pw_tx hm.1
  constructor
  ·simp only [ptT,sep_ew hl hk,sep_pw hk hn,sep_pw hn pw_eq,sep_pw pw_eq hx,sep_semi,List.nil_append,List.append_nil,List.cons_append]
  ·rfl
def asW (l:List SyAct):List (List UInt8):=[123]::(l.flatMap acW++[[125]])
theorem pt_acts:∀(aa:List SyAct),(∀a∈aa,a.good)->∀{l:List UInt8},EW l->ptT l (aa.flatMap acW)=actsT aa/\EW (ptL l (aa.flatMap acW))
 |[],_,l,hl=>⟨rfl,hl⟩
 |a::aa,hg,l,hl=>by
  obtain ⟨h1,h2⟩:=pt_act (hg a (by simp)) hl;obtain ⟨h3,h4⟩:=pt_acts aa (λ b hb=>hg b (by simp [hb])) ew_semi;rw [List.flatMap_cons,ptT_app,ptL_app,h1,h2];exact ⟨by rw [h3];rfl,h4⟩
theorem pt_block {aa:List SyAct} (hg:∀a∈aa,a.good) {l:List UInt8} (hl:EW l):ptT l (asW aa)=32::blockT aa/\ptL l (asW aa)=[125]:=by
 obtain ⟨h1,h2⟩:=pt_acts aa hg ew_lb;unfold asW blockT;constructor
 ·show sepW l [123]++([123]++ptT [123] (aa.flatMap acW++[[125]]))=_;rw [sep_ew hl pw_lb,ptT_app,h1];simp only [ptT,sep_ew h2 pw_rb,List.cons_append,List.nil_append,List.append_nil]
 ·show ptL [123] (aa.flatMap acW++[[125]])=_;rw [ptL_app];rfl
def gdW:Option Ex->List (List UInt8)
 |none=>[]
 |some x=>[[91],x.tx,[93]]
theorem pt_guard {g:Option Ex} {l:List UInt8} (hl:EW l):ptT l (gdW g)=gdT g/\EW (ptL l (gdW g)):=by
 cases g with
 |none=>exact ⟨rfl,hl⟩
 |some x =>
  refine ⟨?_,ew_shut⟩;unfold gdW gdT;simp only [ptT,sep_eo hl,sep_open,sep_shut,List.nil_append,List.append_nil,List.cons_append]
def bkW (aa:List SyAct):List (List UInt8):=if aa=[] then [] else asW aa
theorem pt_blk {aa:List SyAct} (hg:∀a∈aa,a.good) {l:List UInt8} (hl:EW l):ptT l (bkW aa)=blkT aa/\EW (ptL l (bkW aa)):=by
 unfold bkW blkT
 split
 ·exact ⟨rfl,hl⟩
 ·obtain ⟨h1,h2⟩:=pt_block hg hl;exact ⟨h1,by rw [h2];exact ew_rb⟩
def tgW1 (l:List (List UInt8)):List (List UInt8):=l.flatMap λ t=>[[44],t]
def tgW:List (List UInt8)->List (List UInt8)
 |[]=>[]
 |t::l=>[45,62]::t::tgW1 l
theorem pt_tg1:∀(ts:List (List UInt8)),(∀t∈ts,isNm t=true)->∀{l:List UInt8},EW l->ptT l (tgW1 ts)=tgT1 ts/\EW (ptL l (tgW1 ts))
 |[],_,l,hl=>⟨rfl,hl⟩
 |t::ts,hg,l,hl=>by
  have ht:=pw_name (hg t (by simp));obtain ⟨h3,h4⟩:=pt_tg1 ts (λ b hb=>hg b (by simp [hb])) ht.e;refine ⟨?_,h4⟩;show sepW l [44]++([44]++(sepW [44] t++(t++ptT t (tgW1 ts))))=_;rw [sep_comma,sep_put (by decide) (by decide) ht.2.1 ht.2.2.1 ht.2.2.2.1,h3];rfl
theorem pt_tg {ts:List (List UInt8)} (hg:∀t∈ts,isNm t=true) {l:List UInt8} (hl:EW l):ptT l (tgW ts)=tgtT ts:=by
 cases ts with
 |nil=>rfl
 |cons t ts =>
  have ht:=pw_name (hg t (by simp));obtain ⟨h3,h4⟩:=pt_tg1 ts (λ b hb=>hg b (by simp [hb])) ht.e;show sepW l [45,62]++([45,62]++(sepW [45,62] t++(t++ptT t (tgW1 ts))))=_;rw [sep_ew hl pw_ar,sep_pw pw_ar ht,h3];rfl
def evW (m:SyMove):List (List UInt8):=if m.kind=1 then [wOn,m.event] else if m.kind=2 then [wAlways] else [wAfter,Lib.itoa m.wait]
def mvW (m:SyMove):List (List UInt8):=evW m++(gdW m.guard++(bkW m.acts++(tgW m.targets++[[59]])))
theorem pt_move {m:SyMove} (h:m.good):ptT [] (mvW m)=moveT m:=by
 have h0:ptT [] (evW m)=moveW m.kind++evT m/\EW (ptL [] (evW m)):=by
  unfold evW moveW evT;rcases h.kind with k|k|k
  ·have he:=pw_name (show isNm m.event=true by rcases h.event with e|e;exact e.2;exact absurd k e.1);rw [k];simp only [if_true,ptT,ptL,sep_first,sep_pw (pw_kw (w:=wOn) (by decide)) he,List.nil_append,List.append_nil,List.cons_append];exact ⟨trivial,he.e⟩
  ·rw [k];exact ⟨rfl,(pw_kw (w:=wAlways) (by decide)).e⟩
  ·rw [k];rw [if_neg (by decide),if_neg (by decide),if_neg (by decide),if_neg (by decide),if_neg (by decide),if_neg (by decide)];simp only [ptT,ptL,sep_first,sep_pw (pw_kw (w:=wAfter) (by decide)) (pw_int m.wait),List.nil_append,List.append_nil,List.cons_append];exact ⟨trivial,(pw_int m.wait).e⟩
 obtain ⟨h1,h2⟩:=pt_guard (g:=m.guard) h0.2;obtain ⟨h3,h4⟩:=pt_blk h.acts h2;have h5:=pt_tg h.targets h4;unfold mvW moveT;rw [ptT_app,ptT_app,ptT_app,ptT_app,h0.1,h1,h3,h5];simp only [ptT,sep_semi,List.nil_append,List.append_nil,a_]
theorem pt_clause {w:List UInt8} (hw:kwOk w=true) {aa:List SyAct} (hg:∀a∈aa,a.good):ptT [] (w::asW aa)=w++32::blockT aa:=by
 show sepW [] w++(w++ptT w (asW aa))=_;rw [sep_first,(pt_block hg (pw_kw hw).e).1];rfl
end Go.Proofs.YtpgeidpfhakgaaaGreatDoor
namespace Go.Proofs
open Go.Shelf
def Tryz.lays105_ren:Go.Shelf.Ren:=⟨λ|105=>130|212=>169|99=>170|165=>171|166=>168|170=>31|169=>32|263=>201|264=>202|206=>105|240=>200|241=>203|276=>226|277=>227|n=>n,λ|9=>9|3=>3|4=>4|20=>20|0=>0|46=>204|109=>205|5=>5|72=>67|76=>202|51=>227|146=>228|53=>118|148=>230|70=>64|37=>65|75=>201|127=>109|164=>245|80=>72|n=>n,λ|n=>n⟩
theorem Tryz.lays105:Go.Proofs.Lays.n105 Tryz.prog Tryz.lays105_ren:={
 mixed:=by kernel_rfl
 f99:=Tryz.func170.trans (congrArg some (by kernel_rfl))
 f105:=Tryz.func130.trans (congrArg some (by kernel_rfl))
 f165:=Tryz.func171.trans (congrArg some (by kernel_rfl))
 f166:=Tryz.func168.trans (congrArg some (by kernel_rfl))
 f169:=Tryz.func32.trans (congrArg some (by kernel_rfl))
 f170:=Tryz.func31.trans (congrArg some (by kernel_rfl))
 f206:=Tryz.func105.trans (congrArg some (by kernel_rfl))
 f212:=Tryz.func169.trans (congrArg some (by kernel_rfl))
 f240:=Tryz.func200.trans (congrArg some (by kernel_rfl))
 f241:=Tryz.func203.trans (congrArg some (by kernel_rfl))
 f263:=Tryz.func201.trans (congrArg some (by kernel_rfl))
 f264:=Tryz.func202.trans (congrArg some (by kernel_rfl))
 f276:=Tryz.func226.trans (congrArg some (by kernel_rfl))
 f277:=Tryz.func227.trans (congrArg some (by kernel_rfl))
 t0:=Tryz.underlying0
 a0:=Tryz.isAgg0
 z0:=Tryz.sizeOf0
 v0:=Tryz.zeroValue0
 t3:=Tryz.underlying3
 a3:=Tryz.isAgg3
 z3:=Tryz.sizeOf3
 v3:=Tryz.zeroValue3
 t4:=Tryz.underlying4
 a4:=Tryz.isAgg4
 z4:=Tryz.sizeOf4
 v4:=Tryz.zeroValue4
 t5:=Tryz.underlying5
 a5:=Tryz.isAgg5
 z5:=Tryz.sizeOf5
 v5:=Tryz.zeroValue5
 t9:=Tryz.underlying9
 a9:=Tryz.isAgg9
 z9:=Tryz.sizeOf9
 v9:=Tryz.zeroValue9
 t20:=Tryz.underlying20
 a20:=Tryz.isAgg20
 z20:=Tryz.sizeOf20
 v20:=Tryz.zeroValue20
 t37:=Tryz.underlying65
 a37:=Tryz.isAgg65
 z37:=Tryz.sizeOf65
 v37:=Tryz.zeroValue65
 t46:=Tryz.underlying204
 a46:=Tryz.isAgg204
 z46:=Tryz.sizeOf204
 v46:=Tryz.zeroValue204
 t51:=Tryz.underlying227
 a51:=Tryz.isAgg227
 z51:=Tryz.sizeOf227
 v51:=Tryz.zeroValue227
 t53:=Tryz.underlying118
 a53:=Tryz.isAgg118
 z53:=Tryz.sizeOf118
 v53:=Tryz.zeroValue118
 t70:=Tryz.underlying64
 a70:=Tryz.isAgg64
 z70:=Tryz.sizeOf64
 v70:=Tryz.zeroValue64
 t72:=Tryz.underlying67
 a72:=Tryz.isAgg67
 z72:=Tryz.sizeOf67
 v72:=Tryz.zeroValue67
 t75:=Tryz.underlying201
 a75:=Tryz.isAgg201
 z75:=Tryz.sizeOf201
 v75:=Tryz.zeroValue201
 t76:=Tryz.underlying202
 a76:=Tryz.isAgg202
 z76:=Tryz.sizeOf202
 v76:=Tryz.zeroValue202
 t109:=Tryz.underlying205
 a109:=Tryz.isAgg205
 z109:=Tryz.sizeOf205
 v109:=Tryz.zeroValue205
 t127:=Tryz.underlying109
 a127:=Tryz.isAgg109
 z127:=Tryz.sizeOf109
 v127:=Tryz.zeroValue109
 t146:=Tryz.underlying228
 a146:=Tryz.isAgg228
 z146:=Tryz.sizeOf228
 v146:=Tryz.zeroValue228
 t148:=Tryz.underlying230
 a148:=Tryz.isAgg230
 z148:=Tryz.sizeOf230
 v148:=Tryz.zeroValue230
 t164:=Tryz.underlying245
 a164:=Tryz.isAgg245
 z164:=Tryz.sizeOf245
 v164:=Tryz.zeroValue245 }
end Go.Proofs
namespace Go.Proofs.YtpgeidpfhakgaaaGreatDoor
open Go.RowKit
def Wl (l T:List UInt8):Prop:=(T.length<=16384->l=T)/\(16384<T.length->16384<l.length)/\l.length<=2000000
theorem Wl.add {l T s:List UInt8} (h:Wl l T) (hl:l.length<=16384) (hs:s.length<=1000000):Wl (l++s) (T++s):=by
 obtain ⟨h1,h2,_⟩:=h
 have hT:T.length<=16384:=by
  rcases Nat.lt_or_ge 16384 T.length with h|h
  ·have:=h2 h;omega
  ·exact h
 rw [h1 hT];exact ⟨λ _=>rfl,λ h=>h,by rw [List.length_append];omega⟩
theorem Wl.full {l T s:List UInt8} (h:Wl l T) (hl:¬l.length<=16384):Wl l (T++s):=by
 obtain ⟨h1,h2,h3⟩:=h
 have hT:16384<T.length:=by
  rcases Nat.lt_or_ge 16384 T.length with h|h
  ·exact h
  ·have:=h1 h;subst this;omega
 exact ⟨λ h=>by rw [List.length_append] at h;omega,λ _=>by omega,h3⟩
structure WS (w0 w:World) (b:Nat) (T:List UInt8) (n:Nat) (d:ByteArray):Prop where
 bl:Below w0.heap.size w0 w
 wc:∃l,Wl l T/\WC w w0.heap.size b l n d
theorem WS.lt {w0 w:World} {b n:Nat} {T:List UInt8} {d:ByteArray} (h:WS w0 w b T n d):b<w.heap.size:=by
 obtain ⟨l,_,h⟩:=h.wc;exact h.lt
theorem WS.ge {w0 w:World} {b n:Nat} {T:List UInt8} {d:ByteArray} (h:WS w0 w b T n d):w0.heap.size<=b:=by
 obtain ⟨l,_,h⟩:=h.wc;exact h.1
theorem WS.below {w0 w w':World} {b n:Nat} {T:List UInt8} {d:ByteArray} (h:WS w0 w b T n d) (hb:Below w.heap.size w w'):WS w0 w' b T n d:=by
 obtain ⟨l,h1,h2⟩:=h.wc;exact ⟨h.bl.trans (hb.mono h.bl.size),l,h1,h2.below hb⟩
theorem WS.alloc {w0 w:World} {b n:Nat} {T:List UInt8} {d:ByteArray} (h:WS w0 w b T n d) (o:Obj):WS w0 (w.alloc o) b T n d:=h.below ((b_ _ w).alloc (n_ _) o)
theorem WS.c2 {w0 w:World} {b n:Nat} {T:List UInt8} {d:ByteArray} (h:WS w0 w b T n d):w.cell? ⟨b,2,none⟩=some (.int .i64 (n:Int)):=by
 obtain ⟨l,_,h⟩:=h.wc;exact h.c2
theorem WS.c3 {w0 w:World} {b n:Nat} {T:List UInt8} {d:ByteArray} (h:WS w0 w b T n d):w.cell? ⟨b,3,none⟩=some (.string d):=by
 obtain ⟨l,_,h⟩:=h.wc;exact h.c3
theorem WS.fr {w0 w:World} {b n:Nat} {T:List UInt8} {d:ByteArray} (h:WS w0 w b T n d) (i:Nat):w.frozen? ⟨b,i,none⟩=false:=by
 obtain ⟨l,_,h⟩:=h.wc;exact h.fr i
theorem WS.set2 {w0 w:World} {b n:Nat} {T:List UInt8} {d:ByteArray} (h:WS w0 w b T n d) (n':Nat):WS w0 (w.setCell ⟨b,2,none⟩ (.int .i64 (n':Int))) b T n' d:=by
 have hg:=h.ge;obtain ⟨l,h1,h2⟩:=h.wc;exact ⟨h.bl.setCell (p:=⟨b,2,none⟩) hg _,l,h1,h2.set2 n'⟩
theorem WS.set3 {w0 w:World} {b n:Nat} {T:List UInt8} {d:ByteArray} (h:WS w0 w b T n d) (d':ByteArray):WS w0 (w.setCell ⟨b,3,none⟩ (.string d')) b T n d':=by
 have hg:=h.ge;obtain ⟨l,h1,h2⟩:=h.wc;exact ⟨h.bl.setCell (p:=⟨b,3,none⟩) hg _,l,h1,h2.set3 d'⟩
theorem CB.wk {B b:Nat} {w w':World} {g:Nat} {T:TypeId} {vs:List Value} (h:CB w g T vs) (hk:Wk B b w w') (hn:g≠b) (ht:T≠5):CB w' g T vs:=hk.keep _ _ _ _ h hn ht
theorem pwrite_any (w0 w:World) (b n:Nat) (T:List UInt8) (d s:ByteArray) (h:WS w0 w b T n d) (hs:s.size<=1000000) :
  Calls Tryz.prog 129 #[.pointer (some ⟨b,0,none⟩),.string s] w λ e w'=>e=.returned (.tuple #[])/\WS w0 w' b (T++s.data.toList) n d/\Wk w0.heap.size b w w':=by
 obtain ⟨l,hl,hw⟩:=h.wc;have HBL:=h_ h.bl;have HL:=h_ hl;have HC:=h_ (pblen_any w _ b l n d hw);have hll:l.length<=2000000:=hl.2.2;have HS:=h_ (show s.data.toList.length<=1000000 from hs);have HW:=h_ (pbwrite_any w _ b l n d s hw (by omega) h.bl.size);have HWC:=h_ hw;clear h hl hw hll hs;go_enter Tryz.func129,Tryz.ntmps129;go_wp2_with fail;refine HC.out.mono ?_;rintro e w1 ⟨rfl,rfl⟩
 by_cases hc:l.length<=16384
 ·have hc':(l.length:Int)<=16384:=by omega
  have HLC:=h_ hc;clear hc;go_wp2_with fail;refine HW.out.mono ?_;rintro e w2 ⟨rfl,hw,hk⟩
  have HF:Hid (WS w0 w2 b (T++s.data.toList) n d):=⟨HBL.out.trans hk.below,_,HL.out.add HLC.out HS.out,hw⟩
  have HK:=h_ hk;clear hw hk;go_wp2_with fail;go_end0;exact ⟨rfl,HF.out,HK.out⟩
 ·have hc':¬(l.length:Int)<=16384:=by omega
  have HF:Hid (WS w0 w1 b (T++s.data.toList) n d):=⟨HBL.out,_,HL.out.full hc,HWC.out⟩
  clear hc;go_wp2_with fail;go_end0;exact ⟨rfl,HF.out,Wk.refl _ _ _⟩
def spcB (d x:ByteArray):Bool:=!(sepW d.data.toList x.data.toList).isEmpty
theorem spc_sep {l x:List UInt8}:sepW l x=if (!(sepW l x).isEmpty)=true then [32] else []:=by
 unfold sepW
 split
 ·rfl
 ·split <;> rfl
theorem spaced_any (w:World) (d x:ByteArray) :
  Calls Tryz.prog 172 #[.string d,.string x] w λ e w'=>e=.returned (.bool (spcB d x))/\w'=w:=by
 have HR:Hid (spcB d x=if (x.toList == [59])=true then false else if (x.toList == [44])=true then false else if (x.toList == [93])=true then false else if d.toList.isEmpty=true then false else !(d.toList == [91])):=by
  show spcB d x=_;unfold spcB sepW;rw [<-Lib.toList_data,<-Lib.toList_data]
  by_cases h1:x.toList=[59]
  ·rw [if_pos (.inl h1),if_pos (by rw [h1];rfl)];rfl
  ·rw [if_neg (c:=(x.toList == [59])=true) (by simpa using h1)]
   by_cases h2:x.toList=[44]
   ·rw [if_pos (.inr (.inl h2)),if_pos (by rw [h2];rfl)];rfl
   ·rw [if_neg (c:=(x.toList == [44])=true) (by simpa using h2)]
    by_cases h3:x.toList=[93]
    ·rw [if_pos (.inr (.inr h3)),if_pos (by rw [h3];rfl)];rfl
    ·rw [if_neg (c:=(x.toList == [93])=true) (by simpa using h3),if_neg (by rintro (h|h|h);exact h1 h;exact h2 h;exact h3 h)]
     by_cases h4:d.toList=[]
     ·rw [if_pos (.inl h4),h4];rfl
     ·rw [if_neg (c:=d.toList.isEmpty=true) (by simpa using h4)]
      by_cases h5:d.toList=[91]
      ·rw [if_pos (.inr h5),h5];rfl
      ·rw [if_neg (by rintro (h|h);exact h4 h;exact h5 h)]
       have:(d.toList == [91])=false:=by simpa using h5
       rw [this];rfl
 obtain ⟨R,hR⟩:∃R,spcB d x=R:=⟨_,rfl⟩
 rw [hR] at HR ⊢;clear hR
 obtain ⟨b1,h1⟩:∃q,(x.toList == [59])=q:=⟨_,rfl⟩
 obtain ⟨b2,h2⟩:∃q,(x.toList == [44])=q:=⟨_,rfl⟩
 obtain ⟨b3,h3⟩:∃q,(x.toList == [93])=q:=⟨_,rfl⟩
 obtain ⟨b4,h4⟩:∃q,d.toList.isEmpty=q:=⟨_,rfl⟩
 obtain ⟨b5,h5⟩:∃q,(d.toList == [91])=q:=⟨_,rfl⟩
 rw [h1,h2,h3,h4,h5] at HR;go_enter Tryz.func172,Tryz.ntmps172
 cases b1 <;> cases b2 <;> cases b3 <;> cases b4 <;> cases b5 <;> (go_wp2_with fail;go_ret;exact ⟨by rw [HR.out];rfl,rfl⟩)
end Go.Proofs.YtpgeidpfhakgaaaGreatDoor
namespace Go.Proofs.YtpgeidpfhakgaaaGreatDoor
open Go.RowKit
theorem xbuild:Builder.Extra Tryz.prog Tryz.lays105_ren where
 sizeBuilder:=by kernel_rfl
 liesBuilder:=by kernel_rfl
 t5:=Tryz.underlying5
 a5:=Tryz.isAgg5
 z5:=Tryz.sizeOf5
 v5:=Tryz.zeroValue5
 infoByte:=by kernel_rfl
 cellsByte:=by kernel_rfl
 sizeByte:=by kernel_rfl
 neB5:=by decide
def blankA (n:Nat):ByteArray:=⟨(List.replicate (2*n) 32).toArray⟩
theorem blank_rep:∀n:Nat,Lib.repeatL [32,32] n=List.replicate (2*n) 32
 |0=>rfl
 |n+1=>by
  rw [Lib.repeatL,blank_rep n,show 2*(n+1)=2*n+1+1 from by omega,List.replicate_succ,List.replicate_succ];rfl
theorem blank_size (n:Nat):(blankA n).size=2*n:=by
 show (List.replicate (2*n) (32:UInt8)).toArray.size=_;simp
theorem repeat_any (w:World) (n:Nat) (hn:n<=1000) :
  Calls Tryz.prog 130 #[.string ⟨#[32,32]⟩,.int .i64 (n:Int)] w λ e w'=>e=.returned (.string (blankA n))/\Below w.heap.size w w':=by
 have h:=Any.strings_Repeat Tryz.lays105 xbuild ⟨#[32,32]⟩ n w (by omega) (by show 2*n<=_;omega);refine Calls.mono (show Calls Tryz.prog 130 _ _ _ from h) ?_;rintro e w' ⟨rfl,hb⟩;exact ⟨by rw [show (⟨#[32,32]⟩:ByteArray).data.toList=[32,32] from rfl,blank_rep];rfl,hb⟩
def wds (ss:List ByteArray):List (List UInt8):=ss.map λ s=>s.data.toList
theorem ptT_snoc (l:List UInt8) (xs:List (List UInt8)) (x:List UInt8):ptT l (xs++[x])=ptT l xs++(sepW (ptL l xs) x++x):=by
 rw [ptT_app];simp [ptT]
def lastA (d:ByteArray):List ByteArray->ByteArray
 |[]=>d
 |s::ss=>lastA s ss
theorem lastA_snoc (d:ByteArray):∀(ss:List ByteArray) (s:ByteArray),lastA d (ss++[s])=s
 |[],_=>rfl
 |t::ss,s=>lastA_snoc t ss s
theorem lastA_ptL (d:ByteArray):∀ss:List ByteArray,(lastA d ss).data.toList=ptL d.data.toList (wds ss)
 |[]=>rfl
 |s::ss=>lastA_ptL s ss
theorem pputs_any (w0 w:World) (b n g m:Nat) (T:List UInt8) (d:ByteArray) (ss:List ByteArray) (h:WS w0 w b T n d) (hs:CB w g 9 (ss.map Value.string)) (hm:ss.length=m) (hg:g≠b) (hM:∀s∈ss,s.size<=1000000) (h5:m<=5) :
  Calls Tryz.prog 131 #[.pointer (some ⟨b,0,none⟩),.slice (some ⟨g,0,none⟩) m m] w λ e w'=>e=.returned (.tuple #[])/\WS w0 w' b (T++ptT d.data.toList (wds ss)) n (lastA d ss)/\Wk w0.heap.size b w w':=by
 have HW:=h_ h;have HS:=h_ hs;have HM:=h_ hm;have HB:=h_ hM;clear h hs hm hM;go_enter Tryz.func131,Tryz.ntmps131;go_wp2_with fail
 go_loopw [8] (λ iv wr=>∃i:Nat,i<=m/\iv=.int .i64 (i:Int)/\Hid (WS w0 wr b (T++ptT d.data.toList (wds (ss.take i))) n (lastA d (ss.take i)))/\Hid (Wk w0.heap.size b w wr)) (λ iv _=>m-(intOf iv).toNat)
 case atStart=>exact ⟨0,Nat.zero_le _,rfl,by show WS _ _ _ _ _ _;rw [List.take_zero];simpa [wds,ptT,lastA] using HW.out,Wk.refl _ _ _⟩
 case round =>
  obtain ⟨i,hi,rfl,HWB,HWK⟩:=hrel
  by_cases him:i<m
  ·have him':(i:Int)<m:=by omega
   have HIM:=h_ him
   obtain ⟨s,hsi⟩:∃s,ss[i]?=some s:=⟨_,List.getElem?_eq_getElem (by rw [HM.out];exact him)⟩
   have u1:=(HS.out.wk HWK.out hg (by decide)).c i (v:=.string s) (by rw [List.getElem?_map,hsi];rfl);have HSZ:=h_ (HB.out s (List.mem_of_getElem? hsi))
   have HNX:Hid (ss.take (i+1)=ss.take i++[s]):=by show _=_;rw [List.take_add_one,hsi];rfl
   obtain ⟨D,hD⟩:∃D,lastA d (ss.take i)=D:=⟨_,rfl⟩
   have HDL:Hid (ptL d.data.toList (wds (ss.take i))=D.data.toList):=by show _=_;rw [<-hD,lastA_ptL]
   rw [hD] at HWB;have u3:=HWB.out.c3;have HSP:=h_ (spaced_any wr D s)
   obtain ⟨q,hq⟩:∃q,spcB D s=q:=⟨_,rfl⟩
   rw [hq] at HSP
   obtain ⟨X,hX⟩:∃X,T++ptT d.data.toList (wds (ss.take i))=X:=⟨_,rfl⟩
   rw [hX] at HWB
   have HTX:Hid (T++ptT d.data.toList (wds (ss.take (i+1)))=X++((if q=true then [32] else [])++s.data.toList)):=by
    show _=_;rw [HNX.out,<-hX,<-hq];show T++ptT d.data.toList ((ss.take i++[s]).map λ s=>s.data.toList)=_;rw [List.map_append];show T++ptT d.data.toList (wds (ss.take i)++[s.data.toList])=_;rw [ptT_snoc,HDL.out,a_,spc_sep];rfl
   clear hsi hD hX
   have FIN:∀(w3:World),WS w0 w3 b (X++((if q=true then [32] else [])++s.data.toList)) n D->Wk w0.heap.size b w w3->∃W4,W4=w3.setCell ⟨b,3,none⟩ (.string s)/\w3.frozen? ⟨b,3,none⟩=false/\w3.cell? ⟨b,3,none⟩=some (.string D)/\Hid (WS w0 W4 b (T++ptT d.data.toList (wds (ss.take (i+1)))) n (lastA d (ss.take (i+1))))/\Hid (Wk w0.heap.size b w W4):=λ w3 h1 h2=>by
    refine ⟨_,rfl,h1.fr 3,h1.c3,?_,h2.trans (Wk.set h1.ge 3 _)⟩;show WS _ _ _ _ _ _;rw [HTX.out,HNX.out,lastA_snoc];exact h1.set3 s
   have HFIN:=h_ FIN;clear FIN;cases q
   ·have HC:=h_ (λ W h=>pwrite_any w0 W b n X D s h HSZ.out);go_wp2_with fail;refine HSP.out.mono ?_;rintro e w2 ⟨rfl,rfl⟩;go_wp2_with fail;refine (HC.out w2 HWB.out).mono ?_;rintro e w3 ⟨rfl,h1,h2⟩;obtain ⟨W4,hW4,f3,c3,HW4,HK4⟩:=HFIN.out w3 h1 (HWK.out.trans h2);clear h1 h2 HC HWB HWK u1 u3 HSP;go_upto_region 7 with fail;rw [<-hW4];clear hW4 f3 c3;go_wp2_with fail
    go_roundw
    case rel=>exact ⟨i+1,by have:=HIM.out;omega,by go_num,HW4,HK4⟩
    case measure=>have:=HIM.out;simp [intOf];omega
   ·have HC0:=h_ (pwrite_any w0 wr b n X D ⟨#[32]⟩ HWB.out (by decide));have HC:=h_ (λ W h=>pwrite_any w0 W b n (X++[32]) D s h HSZ.out);go_wp2_with fail;refine HSP.out.mono ?_;rintro e w2 ⟨rfl,rfl⟩;go_wp2_with fail;refine HC0.out.mono ?_;rintro e w2 ⟨rfl,h1,h2⟩;have HW2:=h_ h1;have HK2:=h_ (HWK.out.trans h2);clear h1 h2 HC0 HWB HWK u3 HSP;go_wp2_with fail;refine (HC.out w2 HW2.out).mono ?_;rintro e w3 ⟨rfl,h1,h2⟩;rw [a_] at h1;obtain ⟨W4,hW4,f3,c3,HW4,HK4⟩:=HFIN.out w3 h1 (HK2.out.trans h2);clear h1 h2 HC HW2 HK2 u1;go_upto_region 7 with fail;rw [<-hW4];clear hW4 f3 c3;go_wp2_with fail
    go_roundw
    case rel=>exact ⟨i+1,by have:=HIM.out;omega,by go_num,HW4,HK4⟩
    case measure=>have:=HIM.out;simp [intOf];omega
  ·have him':¬(i:Int)<m:=by omega
   have HF:Hid (WS w0 wr b (T++ptT d.data.toList (wds ss)) n (lastA d ss)):=by
    have:=HWB.out;rw [List.take_of_length_le (by rw [HM.out];omega)] at this;exact this
   clear HWB;go_wp2_with fail;go_end0;exact ⟨rfl,HF.out,HWK.out⟩
theorem pput_nil (w:World) (b:Nat) :
  Calls Tryz.prog 131 #[.pointer (some ⟨b,0,none⟩),.slice none 0 0] w λ e w'=>e=.returned (.tuple #[])/\w'=w:=by
 go_enter Tryz.func131,Tryz.ntmps131;go_wp2_with fail
 go_loopw [8] (λ iv wr=>iv=.int .i64 0/\wr=w) (λ _ _=>0)
 case atStart=>exact ⟨rfl,rfl⟩
 case round =>
  obtain ⟨rfl,rfl⟩:=hrel;go_wp2_with fail;go_end0;exact ⟨rfl,rfl⟩
theorem pbegin_any (w0 w:World) (b n g m:Nat) (T:List UInt8) (ss:List ByteArray) (h:WS w0 w b T n ⟨#[]⟩) (hs:CB w g 9 (ss.map Value.string)) (hm:ss.length=m) (hg:g≠b) (hM:∀s∈ss,s.size<=1000000) (h5:m<=5) (hn:n<=100) :
  Calls Tryz.prog 90 #[.pointer (some ⟨b,0,none⟩),.slice (some ⟨g,0,none⟩) m m] w λ e w'=>e=.returned (.tuple #[])/\WS w0 w' b (T++(List.replicate (2*n) 32++ptT [] (wds ss))) n (lastA ⟨#[]⟩ ss)/\Wk w0.heap.size b w w':=by
 have HR:=h_ (repeat_any w n (by omega));have HW:=h_ h;have HC:=h_ (λ W hw=>pwrite_any w0 W b n T ⟨#[]⟩ (blankA n) hw (by rw [blank_size];omega));have HP:=h_ (λ (W:World) (hk:Wk w0.heap.size b w W) hw=>pputs_any w0 W b n g m (T++List.replicate (2*n) 32) ⟨#[]⟩ ss hw (hs.wk hk hg (by decide)) hm hg hM h5);have u2:=h.c2;clear h hs hm hg hM;go_enter Tryz.func90,Tryz.ntmps90;go_wp2_with fail;refine HR.out.mono ?_;rintro e w1 ⟨rfl,hb⟩;have HW1:=h_ (HW.out.below hb);have HK1:Hid (Wk w0.heap.size b w w1):=Wk.of HW.out.bl.size hb;clear hb HR u2;go_wp2_with fail;refine (HC.out w1 HW1.out).mono ?_;rintro e w2 ⟨rfl,h1,h2⟩;have HW2:=h_ h1;have HK2:=h_ (HK1.out.trans h2);clear h1 h2 HC HW1 HK1;go_wp2_with fail;refine (HP.out w2 HK2.out HW2.out).mono ?_;rintro e w3 ⟨rfl,h1,h2⟩;have HW3:=h_ h1;have HK3:=h_ (HK2.out.trans h2);clear h1 h2 HP HW2 HK2;go_wp2_with fail;go_end0;refine ⟨rfl,?_,HK3.out⟩;have:=HW3.out;rw [a_] at this;exact this
theorem pend_nil (w0 w:World) (b n:Nat) (T:List UInt8) (d:ByteArray) (h:WS w0 w b T n d) :
  Calls Tryz.prog 91 #[.pointer (some ⟨b,0,none⟩),.slice none 0 0] w λ e w'=>e=.returned (.tuple #[])/\WS w0 w' b (T++[10]) n ⟨#[]⟩/\Wk w0.heap.size b w w':=by
 have HP:=h_ (pput_nil w b);have HC:=h_ (pwrite_any w0 w b n T d ⟨#[10]⟩ h (by decide));clear h;go_enter Tryz.func91,Tryz.ntmps91;go_wp2_with fail;refine HP.out.mono ?_;rintro e w1 ⟨rfl,rfl⟩;go_wp2_with fail;refine HC.out.mono ?_;rintro e w2 ⟨rfl,h1,h2⟩;have f3:=h1.fr 3;have c3:=h1.c3
 obtain ⟨W3,hW3⟩:∃W,W=w2.setCell ⟨b,3,none⟩ (.string ⟨#[]⟩):=⟨_,rfl⟩
 have HW3:Hid (WS w0 W3 b (T++[10]) n ⟨#[]⟩):=by rw [hW3];exact h1.set3 _
 have HK3:Hid (Wk w0.heap.size b w1 W3):=by rw [hW3];exact h2.trans (Wk.set h1.ge 3 _)
 clear h1 h2 HC HP;go_wp2_with fail;rw [<-hW3];clear hW3 f3 c3;go_end0;exact ⟨rfl,HW3.out,HK3.out⟩
theorem pend_any (w0 w:World) (b n g m:Nat) (T:List UInt8) (d:ByteArray) (ss:List ByteArray) (h:WS w0 w b T n d) (hs:CB w g 9 (ss.map Value.string)) (hm:ss.length=m) (hg:g≠b) (hM:∀s∈ss,s.size<=1000000) (h5:m<=5) :
  Calls Tryz.prog 91 #[.pointer (some ⟨b,0,none⟩),.slice (some ⟨g,0,none⟩) m m] w λ e w'=>e=.returned (.tuple #[])/\WS w0 w' b (T++(ptT d.data.toList (wds ss)++[10])) n ⟨#[]⟩/\Wk w0.heap.size b w w':=by
 have HP:=h_ (pputs_any w0 w b n g m T d ss h hs hm hg hM h5);have HC:=h_ (λ W hw=>pwrite_any w0 W b n (T++ptT d.data.toList (wds ss)) (lastA d ss) ⟨#[10]⟩ hw (by decide));clear h hs hm hg hM;go_enter Tryz.func91,Tryz.ntmps91;go_wp2_with fail;refine HP.out.mono ?_;rintro e w1 ⟨rfl,h1,h2⟩;have HW1:=h_ h1;have HK1:=h_ h2;clear h1 h2 HP;go_wp2_with fail;refine (HC.out w1 HW1.out).mono ?_;rintro e w2 ⟨rfl,h1,h2⟩;have f3:=h1.fr 3;have c3:=h1.c3
 obtain ⟨W3,hW3⟩:∃W,W=w2.setCell ⟨b,3,none⟩ (.string ⟨#[]⟩):=⟨_,rfl⟩
 have HW3:Hid (WS w0 W3 b (T++(ptT d.data.toList (wds ss)++[10])) n ⟨#[]⟩):=by rw [hW3,<-a_];exact h1.set3 _
 have HK3:Hid (Wk w0.heap.size b w W3):=by rw [hW3];exact (HK1.out.trans h2).trans (Wk.set h1.ge 3 _)
 clear h1 h2 HC HW1 HK1;go_wp2_with fail;rw [<-hW3];clear hW3 f3 c3;go_end0;exact ⟨rfl,HW3.out,HK3.out⟩
theorem pline_any (w0 w:World) (b n g m:Nat) (T:List UInt8) (ss:List ByteArray) (h:WS w0 w b T n ⟨#[]⟩) (hs:CB w g 9 (ss.map Value.string)) (hm:ss.length=m) (hg:g≠b) (hM:∀s∈ss,s.size<=1000000) (h5:m<=5) (hn:n<=100) :
  Calls Tryz.prog 55 #[.pointer (some ⟨b,0,none⟩),.slice (some ⟨g,0,none⟩) m m] w λ e w'=>e=.returned (.tuple #[])/\WS w0 w' b (T++ind n (ptT [] (wds ss))) n ⟨#[]⟩/\Wk w0.heap.size b w w':=by
 have HP:=h_ (pbegin_any w0 w b n g m T ss h hs hm hg hM h5 hn);have HC:=h_ (λ W hw=>pend_nil w0 W b n (T++(List.replicate (2*n) 32++ptT [] (wds ss))) (lastA ⟨#[]⟩ ss) hw);clear h hs hm hg hM;go_enter Tryz.func55,Tryz.ntmps55;go_wp2_with fail;refine HP.out.mono ?_;rintro e w1 ⟨rfl,h1,h2⟩;have HW1:=h_ h1;have HK1:=h_ h2;clear h1 h2 HP;go_wp2_with fail;refine (HC.out w1 HW1.out).mono ?_;rintro e w2 ⟨rfl,h1,h2⟩;have HW2:=h_ h1;have HK2:=h_ (HK1.out.trans h2);clear h1 h2 HC HW1 HK1;go_wp2_with fail;go_end0;refine ⟨rfl,?_,HK2.out⟩;have:=HW2.out;unfold ind;rw [a_,a_] at this;exact this
end Go.Proofs.YtpgeidpfhakgaaaGreatDoor
namespace Go.Proofs.YtpgeidpfhakgaaaGreatDoor
open Go.RowKit
def acA (a:GA):List ByteArray:=if a.kind=2 then [⟨(actW 2).toArray⟩,⟨a.name.toArray⟩,⟨#[59]⟩] else [⟨(actW a.kind).toArray⟩,⟨a.name.toArray⟩,⟨#[61]⟩,⟨a.val.txt.toArray⟩,⟨#[59]⟩]
theorem acA_wds {a:GA} (h:okA a=true):wds (acA a)=acW a.s:=by
 have hg:=okA_good h;unfold acA
 by_cases hk:a.kind=2
 ·rw [if_pos hk];have hv:a.s.value=none:=hg.raise hk;unfold acW;rw [hv];show [_,_,_]=[actW a.kind,a.name,[59]];simp only [hk]
 ·rw [if_neg hk];obtain ⟨e,he,_⟩:=hg.value hk;have he':a.val.right=some e:=he;unfold acW;rw [he];show [_,_,_,_,_]=[actW a.kind,a.name,[61],e.tx,[59]];simp only [GX.txt_some he']
theorem txt_size (x:GX):(⟨x.txt.toArray⟩:ByteArray).size<=1000000:=by
 show x.txt.toArray.size<=_;simp only [List.size_toArray];unfold GX.txt
 split
 ·rename_i e h;have:=(GX.right_some h).2.2;omega
 ·simp
theorem nm_arr {s:List UInt8} (h:isNm s=true):(⟨s.toArray⟩:ByteArray).size<=1000000:=by
 have:=nm_size h;show s.toArray.size<=_;simp only [List.size_toArray];omega
theorem pblock_any (w0 w:World) (b n:Nat) (T:List UInt8) (d:ByteArray) (l:List GA) (A:Option Addr) (c:Nat) (hE:Ee w0) (h:WS w0 w b T n d) (hx:DxAt w0 (gActs l) (.slice A l.length c)) (hok:l.all okA=true) (hr:∀a∈l,a.rng) :
  Calls Tryz.prog 133 #[.pointer (some ⟨b,0,none⟩),.slice A l.length c] w λ e w'=>e=.returned (.tuple #[])/\WS w0 w' b (T++ptT d.data.toList (asW (l.map GA.s))) n ⟨#[125]⟩/\Wk w0.heap.size b w w':=by
 obtain ⟨N,hN⟩:∃N,l.length=N:=⟨_,rfl⟩
 have HM:Hid (N<=9223372036854775807):=by
  obtain ⟨_,c',e1,h1,h2⟩:=DxAt.slice (show DxAt w0 (.row _ 9 l.length _) _ from hx)
  have:maxLen<=9223372036854775807:=by decide
  show N<=_;omega
 have HN:=h_ hN;have HX:=h_ hx;have HOK:=h_ (λ a (ha:a∈l)=>List.all_eq_true.1 hok a ha);have HRG:=h_ hr;have HE:=h_ hE;have HGE:=h_ h.ge
 obtain ⟨W1,hW1⟩:∃W,W=w.alloc (.cells #[.string ⟨#[123]⟩] 9):=⟨_,rfl⟩
 obtain ⟨g1,hg1⟩:∃g,g=w.heap.size:=⟨_,rfl⟩
 have hal:Below w.heap.size w W1:=by rw [hW1];exact (b_ _ w).alloc (n_ _) _
 have HC1:=h_ (pputs_any w0 W1 b n g1 1 T d [⟨#[123]⟩] (h.below hal) (by rw [hW1,hg1];exact CB.new w _ [.string ⟨#[123]⟩]) rfl (by have:=h.lt;omega) (by intro s hs;simp at hs;subst hs;decide) (by decide));have HK1:Hid (Wk w0.heap.size b w W1):=Wk.of h.bl.size hal;rw [hN];clear hN hx hok hr hE h hal;go_enter Tryz.func133,Tryz.ntmps133;go_wp2_with fail;rw [<-hW1,<-hg1];clear hW1 hg1;refine HC1.out.mono ?_;rintro e w1 ⟨rfl,h1,h2⟩;have HW1:Hid (WS w0 w1 b (T++ptT d.data.toList ([123]::((l.take 0).map GA.s).flatMap acW)) n ⟨#[123]⟩):=h1;have HK2:=h_ (HK1.out.trans h2);clear h1 h2 HC1 HK1;go_wp2_with fail
 go_loopw [11] (λ iv wr=>∃(i:Nat) (D:ByteArray),i<=N/\iv=.int .i64 (i:Int)/\Hid (WS w0 wr b (T++ptT d.data.toList ([123]::((l.take i).map GA.s).flatMap acW)) n D/\D.data.toList=ptL d.data.toList ([123]::((l.take i).map GA.s).flatMap acW))/\Hid (Wk w0.heap.size b w wr)) (λ iv _=>N-(intOf iv).toNat)
 case atStart=>exact ⟨0,_,Nat.zero_le _,rfl,⟨HW1.out,rfl⟩,HK2⟩
 case round =>
  obtain ⟨i,D,hi,rfl,HWD,HWK⟩:=hrel
  by_cases him:i<N
  ·have him':(i:Int)<N:=by omega
   have HIM:=h_ him
   obtain ⟨a,ha⟩:∃a,l[i]?=some a:=⟨_,List.getElem?_eq_getElem (by rw [HN.out];exact him)⟩
   have hma:=List.mem_of_getElem? ha;have hoka:=HOK.out a hma;obtain ⟨g,o,c',ev,hv,hg,x0,x1,hev,hgv,x8⟩:=acts_at HX.out ha;rw [HN.out] at hv
   obtain rfl:A=some ⟨g,o,none⟩:=by injection hv
   have hbw:=HWD.out.1.bl
   have kb:∀{p:Addr} {u:Value},w0.cell? p=some u->wr.cell? p=some u:=λ hc=>by rw [World.cell?_of_block (hbw.block _ (World.block_lt_of_cell? w0 _ hc))];exact hc
   obtain ⟨X,hX⟩:=str_of a.name
   have HXN:Hid (X=⟨a.name.toArray⟩):=by show _=_;injection hX with hX;exact hX.symm
   rw [hX] at x1;have y0:=kb x0;have y1:=kb x1;have y8:=kb x8;obtain ⟨y2,y3,y4,y5,y6,y7⟩:=hev.same (hbw.block g hg);have HTX:=h_ (λ (W:World) (hb:Below w0.heap.size w0 W)=>etext_any W a.val ev (HE.out.below hb).wv (HRG.out a hma).2 ((GV.below hgv hb (n_ _)).mono (n_ 0) hb.size))
   have HNX:Hid (∀w4,WS w0 w4 b (T++ptT d.data.toList ([123]::((l.take i).map GA.s).flatMap acW)++ptT D.data.toList (wds (acA a))) n (lastA D (acA a))->WS w0 w4 b (T++ptT d.data.toList ([123]::((l.take (i+1)).map GA.s).flatMap acW)) n (lastA D (acA a))/\(lastA D (acA a)).data.toList=ptL d.data.toList ([123]::((l.take (i+1)).map GA.s).flatMap acW)):=by
    intro w4 h4
    have e1:[123]::((l.take (i+1)).map GA.s).flatMap acW=([123]::((l.take i).map GA.s).flatMap acW)++acW a.s:=by
     rw [List.take_add_one,ha];simp
    rw [e1,ptT_app,ptL_app,<-HWD.out.2,<-acA_wds hoka,<-a_,lastA_ptL];exact ⟨h4,rfl⟩
   have HSZ:Hid (∀s∈acA a,s.size<=1000000):=by
    have hnm:isNm a.name=true:=(okA_good hoka).name;intro s hs;unfold acA at hs
    have hactw:∀k:Int,(⟨(actW k).toArray⟩:ByteArray).size<=1000000:=λ k=>by
     unfold actW
     split
     ·decide
     ·split <;> decide
    split at hs
    ·simp only [List.mem_cons,List.not_mem_nil,or_false] at hs;rcases hs with rfl|rfl|rfl
     ·exact hactw 2
     ·exact nm_arr hnm
     ·decide
    ·simp only [List.mem_cons,List.not_mem_nil,or_false] at hs;rcases hs with rfl|rfl|rfl|rfl|rfl
     ·exact hactw a.kind
     ·exact nm_arr hnm
     ·decide
     ·exact txt_size a.val
     ·decide
   have HPT:=h_ (λ (W:World) (g5 m:Nat) (hw:WS w0 W b (T++ptT d.data.toList ([123]::((l.take i).map GA.s).flatMap acW)) n D) (hc:CB W g5 9 ((acA a).map Value.string)) (hm:(acA a).length=m) (hne:g5≠b) (h5:m<=5)=>pputs_any w0 W b n g5 m _ D (acA a) hw hc hm hne HSZ.out h5);have hkd:a.kind=1∨a.kind=2∨a.kind=3:=(okA_good hoka).kind
   obtain ⟨W5,hW5⟩:∃W,W=wr.alloc (.cells #[.int .i64 a.kind,.string X,.int .i64 ev.kind,.int .i64 ev.num,.string ev.name,.int .i64 ev.op,.slice ev.A ev.len ev.cap,.int .i64 ev.p,.int .i64 a.at_] 145):=⟨_,rfl⟩
   obtain ⟨g5,hg5⟩:∃g,g=wr.heap.size:=⟨_,rfl⟩
   have hal5:Below wr.heap.size wr W5:=by rw [hW5];exact (b_ _ wr).alloc (n_ _) _
   have HB5:Hid (CB W5 g5 145 [.int .i64 a.kind,.string X,.int .i64 ev.kind,.int .i64 ev.num,.string ev.name,.int .i64 ev.op,.slice ev.A ev.len ev.cap,.int .i64 ev.p,.int .i64 a.at_]):=by rw [hW5,hg5];exact CB.new wr _ [.int .i64 a.kind,.string X,.int .i64 ev.kind,.int .i64 ev.num,.string ev.name,.int .i64 ev.op,.slice ev.A ev.len ev.cap,.int .i64 ev.p,.int .i64 a.at_]
   have HW5:=h_ (HWD.out.1.below hal5);have HK5:Hid (Wk w0.heap.size b w W5):=HWK.out.trans (Wk.of hbw.size hal5);have HAC:Hid (a.kind=a.kind):=rfl
   have HGB5:Hid (g5≠b):=by have:=HWD.out.1.lt;rw [hg5];exact λ e=>by omega
   clear hma hoka hv hg hev hgv hbw kb hX x0 x1 x8 hal5 HWD HWK HSZ ha HAC;have HTX':=HTX;simp only [EV.val] at HTX;clear HTX';go_upto_region 4 with fail;rw [<-hW5,<-hg5];clear hW5 hg5 y0 y1 y2 y3 y4 y5 y6 y7 y8;rcases hkd with hk|hk|hk
   ·have hAC:acA a=[⟨#[115,101,116]⟩,X,⟨#[61]⟩,⟨a.val.txt.toArray⟩,⟨#[59]⟩]:=by
     unfold acA;rw [if_neg (by rw [hk];decide),hk,HXN.out];rfl
    have HQ0:Hid (CB W5 g5 145 [.int .i64 1,.string X,.int .i64 ev.kind,.int .i64 ev.num,.string ev.name,.int .i64 ev.op,.slice ev.A ev.len ev.cap,.int .i64 ev.p,.int .i64 a.at_]/\WS w0 W5 b (T++ptT d.data.toList ([123]::((l.take i).map GA.s).flatMap acW)) n D/\Wk w0.heap.size b w W5):=by rw [hk] at HB5;exact ⟨HB5.out,HW5.out,HK5.out⟩
    obtain ⟨TX,hTX⟩:∃TX:ByteArray,(⟨a.val.txt.toArray⟩:ByteArray)=TX:=⟨_,rfl⟩
    rw [hTX] at hAC HTX
    have HTXd:Hid (Calls Tryz.prog 134 #[.agg #[.int .i64 ev.kind,.int .i64 ev.num,.string ev.name,.int .i64 ev.op,.slice ev.A ev.len ev.cap,.int .i64 ev.p]] W5.drew λ e w'=>e=.returned (.string TX)/\(w'.cell? ⟨g5,1,none⟩=some (.string X)/\w'.cell? ⟨g5,2,none⟩=some (.int .i64 ev.kind)/\w'.cell? ⟨g5,3,none⟩=some (.int .i64 ev.num)/\w'.cell? ⟨g5,4,none⟩=some (.string ev.name)/\w'.cell? ⟨g5,5,none⟩=some (.int .i64 ev.op)/\w'.cell? ⟨g5,6,none⟩=some (.slice ev.A ev.len ev.cap)/\w'.cell? ⟨g5,7,none⟩=some (.int .i64 ev.p))/\((∀ob:Obj,(w'.alloc ob).cell? ⟨g5,1,none⟩=some (.string X))/\(∀ob:Obj,(w'.alloc ob).cell? ⟨g5,2,none⟩=some (.int .i64 ev.kind))/\(∀ob:Obj,(w'.alloc ob).cell? ⟨g5,3,none⟩=some (.int .i64 ev.num))/\(∀ob:Obj,(w'.alloc ob).cell? ⟨g5,4,none⟩=some (.string ev.name))/\(∀ob:Obj,(w'.alloc ob).cell? ⟨g5,5,none⟩=some (.int .i64 ev.op))/\(∀ob:Obj,(w'.alloc ob).cell? ⟨g5,6,none⟩=some (.slice ev.A ev.len ev.cap))/\(∀ob:Obj,(w'.alloc ob).cell? ⟨g5,7,none⟩=some (.int .i64 ev.p)))/\Hid (CB w' g5 145 [.int .i64 1,.string X,.int .i64 ev.kind,.int .i64 ev.num,.string ev.name,.int .i64 ev.op,.slice ev.A ev.len ev.cap,.int .i64 ev.p,.int .i64 a.at_]/\WS w0 w' b (T++ptT d.data.toList ([123]::((l.take i).map GA.s).flatMap acW)) n D/\Wk w0.heap.size b w w')):=by
     have hd:Below W5.heap.size W5 W5.drew:=(b_ _ W5).drew;refine (HTX.out W5.drew (HQ0.out.2.1.bl.trans (hd.mono HQ0.out.2.1.bl.size))).mono ?_;rintro e w6 ⟨rfl,hb⟩;have hb6:Below W5.heap.size W5 w6:=hd.trans hb;have c:=HQ0.out.1.below hb6;have ca:=λ ob=>c.alloc ob;exact ⟨rfl,⟨c.c 1 rfl,c.c 2 rfl,c.c 3 rfl,c.c 4 rfl,c.c 5 rfl,c.c 6 rfl,c.c 7 rfl⟩,⟨λ ob=>(ca ob).c 1 rfl,λ ob=>(ca ob).c 2 rfl,λ ob=>(ca ob).c 3 rfl,λ ob=>(ca ob).c 4 rfl,λ ob=>(ca ob).c 5 rfl,λ ob=>(ca ob).c 6 rfl,λ ob=>(ca ob).c 7 rfl⟩,c,HQ0.out.2.1.below hb6,HQ0.out.2.2.trans (Wk.of HQ0.out.2.1.bl.size hb6)⟩
    have HPTd:Hid (∀w6:World,Hid (CB w6 g5 145 [.int .i64 1,.string X,.int .i64 ev.kind,.int .i64 ev.num,.string ev.name,.int .i64 ev.op,.slice ev.A ev.len ev.cap,.int .i64 ev.p,.int .i64 a.at_]/\WS w0 w6 b (T++ptT d.data.toList ([123]::((l.take i).map GA.s).flatMap acW)) n D/\Wk w0.heap.size b w w6) ->
      Calls Tryz.prog 131 #[.pointer (some ⟨b,0,none⟩),.slice (some ⟨w6.heap.size,0,none⟩) 5 5] (w6.alloc (.cells #[.string ⟨#[115,101,116]⟩,.string X,.string ⟨#[61]⟩,.string TX,.string ⟨#[59]⟩] 9)) λ e w'=>e=.returned (.tuple #[])/\(w'.cell? ⟨g5,1,none⟩=some (.string X)/\w'.cell? ⟨g5,2,none⟩=some (.int .i64 ev.kind)/\w'.cell? ⟨g5,3,none⟩=some (.int .i64 ev.num)/\w'.cell? ⟨g5,4,none⟩=some (.string ev.name)/\w'.cell? ⟨g5,5,none⟩=some (.int .i64 ev.op)/\w'.cell? ⟨g5,6,none⟩=some (.slice ev.A ev.len ev.cap)/\w'.cell? ⟨g5,7,none⟩=some (.int .i64 ev.p))/\Hid (WS w0 w' b (T++ptT d.data.toList ([123]::((l.take (i+1)).map GA.s).flatMap acW)) n (lastA D (acA a))/\(lastA D (acA a)).data.toList=ptL d.data.toList ([123]::((l.take (i+1)).map GA.s).flatMap acW))/\Hid (Wk w0.heap.size b w w')):=by
     rintro w6 ⟨h1,h2,h3⟩;have hal:Below w6.heap.size w6 (w6.alloc (.cells #[.string ⟨#[115,101,116]⟩,.string X,.string ⟨#[61]⟩,.string TX,.string ⟨#[59]⟩] 9)):=(b_ _ w6).alloc (n_ _) _;refine (HPT.out _ w6.heap.size 5 (h2.below hal) (by rw [hAC];exact CB.new w6 _ [.string ⟨#[115,101,116]⟩,.string X,.string ⟨#[61]⟩,.string TX,.string ⟨#[59]⟩]) (by rw [hAC];rfl) (by have:=h2.lt;omega) (by decide)).mono ?_;rintro e w7 ⟨rfl,h4,h5⟩;have c:=(h1.below hal).wk h5 (by have:=HGB5.out;exact this) (by decide);exact ⟨rfl,⟨c.c 1 rfl,c.c 2 rfl,c.c 3 rfl,c.c 4 rfl,c.c 5 rfl,c.c 6 rfl,c.c 7 rfl⟩,HNX.out w7 h4,h3.trans ((Wk.of h2.bl.size hal).trans h5)⟩
    have z0:=HQ0.out.1.c 0 rfl;have z1:=HQ0.out.1.c 1 rfl;have z2:=HQ0.out.1.c 2 rfl;have z3:=HQ0.out.1.c 3 rfl;have z4:=HQ0.out.1.c 4 rfl;have z5:=HQ0.out.1.c 5 rfl;have z6:=HQ0.out.1.c 6 rfl;have z7:=HQ0.out.1.c 7 rfl;clear hk hAC hTX HTX HPT HNX HQ0 HB5 HW5 HK5 HXN;go_upto_region 6 with fail
    go_region_held3 (λ W=>W.cell? ⟨g5,1,none⟩=some (.string X)/\W.cell? ⟨g5,2,none⟩=some (.int .i64 ev.kind)/\W.cell? ⟨g5,3,none⟩=some (.int .i64 ev.num)/\W.cell? ⟨g5,4,none⟩=some (.string ev.name)/\W.cell? ⟨g5,5,none⟩=some (.int .i64 ev.op)/\W.cell? ⟨g5,6,none⟩=some (.slice ev.A ev.len ev.cap)/\W.cell? ⟨g5,7,none⟩=some (.int .i64 ev.p)) (go_keep) (first|(go_at_call 134;refine HTXd.out.mono ?_;rintro e w6 ⟨rfl,⟨x1,x2,x3,x4,x5,x6,x7⟩,⟨v1,v2,v3,v4,v5,v6,v7⟩,HQ6⟩)|(go_at_call 131;refine (HPTd.out _ HQ6).mono ?_;rintro e w7 ⟨rfl,⟨x1',x2',x3',x4',x5',x6',x7'⟩,HF7,HK7⟩))
    all_goals
     have HF8:=h_ HF7.out;have HK8:=h_ HK7.out;clear x1 x2 x3 x4 x5 x6 x7 v1 v2 v3 v4 v5 v6 v7 x1' x2' x3' x4' x5' x6' x7' HQ6 HF7 HK7 HTXd HPTd z0 z1 z2 z3 z4 z5 z6 z7;go_wp2_with fail
     go_roundw
     case rel=>exact ⟨i+1,_,by have:=HIM.out;omega,by have h1:=HIM.out;have h2:=HM.out;rw [Go.IntWalk.wrap64_in _ ⟨by omega,by omega⟩];rfl,HF8,HK8⟩
     case measure=>have h1:=HIM.out;have h2:=HM.out;rw [Go.IntWalk.wrap64_in _ ⟨by omega,by omega⟩];simp [intOf];omega
   ·have hAC:acA a=[⟨#[114,97,105,115,101]⟩,X,⟨#[59]⟩]:=by
     unfold acA;rw [if_pos hk,HXN.out];rfl
    have z0:=HB5.out.c 0 rfl;rw [hk] at z0;have z1:=HB5.out.c 1 rfl
    obtain ⟨W6,hW6⟩:∃W,W=W5.alloc (.cells #[.string ⟨#[114,97,105,115,101]⟩,.string X,.string ⟨#[59]⟩] 9):=⟨_,rfl⟩
    obtain ⟨g6,hg6⟩:∃g,g=W5.heap.size:=⟨_,rfl⟩
    have hal6:Below W5.heap.size W5 W6:=by rw [hW6];exact (b_ _ W5).alloc (n_ _) _
    have HP6:=h_ (HPT.out W6 g6 3 (HW5.out.below hal6) (by rw [hAC,hW6,hg6];exact CB.new W5 _ [.string ⟨#[114,97,105,115,101]⟩,.string X,.string ⟨#[59]⟩]) (by rw [hAC];rfl) (by have:=HW5.out.lt;omega) (by decide));have HK6:Hid (Wk w0.heap.size b w W6):=HK5.out.trans (Wk.of HW5.out.bl.size hal6);clear hk hAC HTX HPT HB5 HW5 HK5 HXN hal6;go_wp2_with fail;rw [<-hW6,<-hg6];clear hW6 hg6;refine HP6.out.mono ?_;rintro e w7 ⟨rfl,h1,h2⟩;have HF8:=h_ (HNX.out w7 h1);have HK8:=h_ (HK6.out.trans h2);clear h1 h2 HP6 HK6 HNX z0 z1;go_wp2_with fail
    go_roundw
    case rel=>exact ⟨i+1,_,by have:=HIM.out;omega,by have h1:=HIM.out;have h2:=HM.out;rw [Go.IntWalk.wrap64_in _ ⟨by omega,by omega⟩];rfl,HF8,HK8⟩
    case measure=>have h1:=HIM.out;have h2:=HM.out;rw [Go.IntWalk.wrap64_in _ ⟨by omega,by omega⟩];simp [intOf];omega
   ·have hAC:acA a=[⟨#[101,109,105,116]⟩,X,⟨#[61]⟩,⟨a.val.txt.toArray⟩,⟨#[59]⟩]:=by
     unfold acA;rw [if_neg (by rw [hk];decide),hk,HXN.out];rfl
    have HQ0:Hid (CB W5 g5 145 [.int .i64 3,.string X,.int .i64 ev.kind,.int .i64 ev.num,.string ev.name,.int .i64 ev.op,.slice ev.A ev.len ev.cap,.int .i64 ev.p,.int .i64 a.at_]/\WS w0 W5 b (T++ptT d.data.toList ([123]::((l.take i).map GA.s).flatMap acW)) n D/\Wk w0.heap.size b w W5):=by rw [hk] at HB5;exact ⟨HB5.out,HW5.out,HK5.out⟩
    obtain ⟨TX,hTX⟩:∃TX:ByteArray,(⟨a.val.txt.toArray⟩:ByteArray)=TX:=⟨_,rfl⟩
    rw [hTX] at hAC HTX
    have HTXd:Hid (Calls Tryz.prog 134 #[.agg #[.int .i64 ev.kind,.int .i64 ev.num,.string ev.name,.int .i64 ev.op,.slice ev.A ev.len ev.cap,.int .i64 ev.p]] W5.drew λ e w'=>e=.returned (.string TX)/\(w'.cell? ⟨g5,1,none⟩=some (.string X)/\w'.cell? ⟨g5,2,none⟩=some (.int .i64 ev.kind)/\w'.cell? ⟨g5,3,none⟩=some (.int .i64 ev.num)/\w'.cell? ⟨g5,4,none⟩=some (.string ev.name)/\w'.cell? ⟨g5,5,none⟩=some (.int .i64 ev.op)/\w'.cell? ⟨g5,6,none⟩=some (.slice ev.A ev.len ev.cap)/\w'.cell? ⟨g5,7,none⟩=some (.int .i64 ev.p))/\((∀ob:Obj,(w'.alloc ob).cell? ⟨g5,1,none⟩=some (.string X))/\(∀ob:Obj,(w'.alloc ob).cell? ⟨g5,2,none⟩=some (.int .i64 ev.kind))/\(∀ob:Obj,(w'.alloc ob).cell? ⟨g5,3,none⟩=some (.int .i64 ev.num))/\(∀ob:Obj,(w'.alloc ob).cell? ⟨g5,4,none⟩=some (.string ev.name))/\(∀ob:Obj,(w'.alloc ob).cell? ⟨g5,5,none⟩=some (.int .i64 ev.op))/\(∀ob:Obj,(w'.alloc ob).cell? ⟨g5,6,none⟩=some (.slice ev.A ev.len ev.cap))/\(∀ob:Obj,(w'.alloc ob).cell? ⟨g5,7,none⟩=some (.int .i64 ev.p)))/\Hid (CB w' g5 145 [.int .i64 3,.string X,.int .i64 ev.kind,.int .i64 ev.num,.string ev.name,.int .i64 ev.op,.slice ev.A ev.len ev.cap,.int .i64 ev.p,.int .i64 a.at_]/\WS w0 w' b (T++ptT d.data.toList ([123]::((l.take i).map GA.s).flatMap acW)) n D/\Wk w0.heap.size b w w')):=by
     have hd:Below W5.heap.size W5 W5.drew:=(b_ _ W5).drew;refine (HTX.out W5.drew (HQ0.out.2.1.bl.trans (hd.mono HQ0.out.2.1.bl.size))).mono ?_;rintro e w6 ⟨rfl,hb⟩;have hb6:Below W5.heap.size W5 w6:=hd.trans hb;have c:=HQ0.out.1.below hb6;have ca:=λ ob=>c.alloc ob;exact ⟨rfl,⟨c.c 1 rfl,c.c 2 rfl,c.c 3 rfl,c.c 4 rfl,c.c 5 rfl,c.c 6 rfl,c.c 7 rfl⟩,⟨λ ob=>(ca ob).c 1 rfl,λ ob=>(ca ob).c 2 rfl,λ ob=>(ca ob).c 3 rfl,λ ob=>(ca ob).c 4 rfl,λ ob=>(ca ob).c 5 rfl,λ ob=>(ca ob).c 6 rfl,λ ob=>(ca ob).c 7 rfl⟩,c,HQ0.out.2.1.below hb6,HQ0.out.2.2.trans (Wk.of HQ0.out.2.1.bl.size hb6)⟩
    have HPTd:Hid (∀w6:World,Hid (CB w6 g5 145 [.int .i64 3,.string X,.int .i64 ev.kind,.int .i64 ev.num,.string ev.name,.int .i64 ev.op,.slice ev.A ev.len ev.cap,.int .i64 ev.p,.int .i64 a.at_]/\WS w0 w6 b (T++ptT d.data.toList ([123]::((l.take i).map GA.s).flatMap acW)) n D/\Wk w0.heap.size b w w6) ->
      Calls Tryz.prog 131 #[.pointer (some ⟨b,0,none⟩),.slice (some ⟨w6.heap.size,0,none⟩) 5 5] (w6.alloc (.cells #[.string ⟨#[101,109,105,116]⟩,.string X,.string ⟨#[61]⟩,.string TX,.string ⟨#[59]⟩] 9)) λ e w'=>e=.returned (.tuple #[])/\(w'.cell? ⟨g5,1,none⟩=some (.string X)/\w'.cell? ⟨g5,2,none⟩=some (.int .i64 ev.kind)/\w'.cell? ⟨g5,3,none⟩=some (.int .i64 ev.num)/\w'.cell? ⟨g5,4,none⟩=some (.string ev.name)/\w'.cell? ⟨g5,5,none⟩=some (.int .i64 ev.op)/\w'.cell? ⟨g5,6,none⟩=some (.slice ev.A ev.len ev.cap)/\w'.cell? ⟨g5,7,none⟩=some (.int .i64 ev.p))/\Hid (WS w0 w' b (T++ptT d.data.toList ([123]::((l.take (i+1)).map GA.s).flatMap acW)) n (lastA D (acA a))/\(lastA D (acA a)).data.toList=ptL d.data.toList ([123]::((l.take (i+1)).map GA.s).flatMap acW))/\Hid (Wk w0.heap.size b w w')):=by
     rintro w6 ⟨h1,h2,h3⟩;have hal:Below w6.heap.size w6 (w6.alloc (.cells #[.string ⟨#[101,109,105,116]⟩,.string X,.string ⟨#[61]⟩,.string TX,.string ⟨#[59]⟩] 9)):=(b_ _ w6).alloc (n_ _) _;refine (HPT.out _ w6.heap.size 5 (h2.below hal) (by rw [hAC];exact CB.new w6 _ [.string ⟨#[101,109,105,116]⟩,.string X,.string ⟨#[61]⟩,.string TX,.string ⟨#[59]⟩]) (by rw [hAC];rfl) (by have:=h2.lt;omega) (by decide)).mono ?_;rintro e w7 ⟨rfl,h4,h5⟩;have c:=(h1.below hal).wk h5 (by have:=HGB5.out;exact this) (by decide);exact ⟨rfl,⟨c.c 1 rfl,c.c 2 rfl,c.c 3 rfl,c.c 4 rfl,c.c 5 rfl,c.c 6 rfl,c.c 7 rfl⟩,HNX.out w7 h4,h3.trans ((Wk.of h2.bl.size hal).trans h5)⟩
    have z0:=HQ0.out.1.c 0 rfl;have z1:=HQ0.out.1.c 1 rfl;have z2:=HQ0.out.1.c 2 rfl;have z3:=HQ0.out.1.c 3 rfl;have z4:=HQ0.out.1.c 4 rfl;have z5:=HQ0.out.1.c 5 rfl;have z6:=HQ0.out.1.c 6 rfl;have z7:=HQ0.out.1.c 7 rfl;clear hk hAC hTX HTX HPT HNX HQ0 HB5 HW5 HK5 HXN;go_upto_region 10 with fail
    go_region_held3 (λ W=>W.cell? ⟨g5,1,none⟩=some (.string X)/\W.cell? ⟨g5,2,none⟩=some (.int .i64 ev.kind)/\W.cell? ⟨g5,3,none⟩=some (.int .i64 ev.num)/\W.cell? ⟨g5,4,none⟩=some (.string ev.name)/\W.cell? ⟨g5,5,none⟩=some (.int .i64 ev.op)/\W.cell? ⟨g5,6,none⟩=some (.slice ev.A ev.len ev.cap)/\W.cell? ⟨g5,7,none⟩=some (.int .i64 ev.p)) (go_keep) (first|(go_at_call 134;refine HTXd.out.mono ?_;rintro e w6 ⟨rfl,⟨x1,x2,x3,x4,x5,x6,x7⟩,⟨v1,v2,v3,v4,v5,v6,v7⟩,HQ6⟩)|(go_at_call 131;refine (HPTd.out _ HQ6).mono ?_;rintro e w7 ⟨rfl,⟨x1',x2',x3',x4',x5',x6',x7'⟩,HF7,HK7⟩))
    all_goals
     have HF8:=h_ HF7.out;have HK8:=h_ HK7.out;clear x1 x2 x3 x4 x5 x6 x7 v1 v2 v3 v4 v5 v6 v7 x1' x2' x3' x4' x5' x6' x7' HQ6 HF7 HK7 HTXd HPTd z0 z1 z2 z3 z4 z5 z6 z7;go_wp2_with fail
     go_roundw
     case rel=>exact ⟨i+1,_,by have:=HIM.out;omega,by have h1:=HIM.out;have h2:=HM.out;rw [Go.IntWalk.wrap64_in _ ⟨by omega,by omega⟩];rfl,HF8,HK8⟩
     case measure=>have h1:=HIM.out;have h2:=HM.out;rw [Go.IntWalk.wrap64_in _ ⟨by omega,by omega⟩];simp [intOf];omega
  ·have him':¬(i:Int)<N:=by omega
   obtain rfl:i=N:=by omega
   have HWF:Hid (WS w0 wr b (T++ptT d.data.toList ([123]::(l.map GA.s).flatMap acW)) n D/\D.data.toList=ptL d.data.toList ([123]::(l.map GA.s).flatMap acW)):=by
    have:=HWD.out;rw [List.take_of_length_le (by rw [HN.out];exact n_ _)] at this;exact this
   obtain ⟨W6,hW6⟩:∃W,W=wr.alloc (.cells #[.string ⟨#[125]⟩] 9):=⟨_,rfl⟩
   obtain ⟨g6,hg6⟩:∃g,g=wr.heap.size:=⟨_,rfl⟩
   have hal6:Below wr.heap.size wr W6:=by rw [hW6];exact (b_ _ wr).alloc (n_ _) _
   have HP6:=h_ (pputs_any w0 W6 b n g6 1 _ D [⟨#[125]⟩] (HWF.out.1.below hal6) (by rw [hW6,hg6];exact CB.new wr _ [.string ⟨#[125]⟩]) rfl (by have:=HWF.out.1.lt;omega) (by intro s hs;simp at hs;subst hs;decide) (by decide));have HK6:Hid (Wk w0.heap.size b w W6):=HWK.out.trans (Wk.of HWF.out.1.bl.size hal6);have HDL:=h_ HWF.out.2;clear hi him HWD HWK HWF hal6;go_wp2_with fail;rw [<-hW6,<-hg6];clear hW6 hg6;refine HP6.out.mono ?_;rintro e w7 ⟨rfl,h1,h2⟩;have HF8:=h_ h1;have HK8:=h_ (HK6.out.trans h2);clear h1 h2 HP6 HK6;go_wp2_with fail;go_end0;refine ⟨rfl,?_,HK8.out⟩;have h:=HF8.out;rw [HDL.out,a_] at h;have e1:asW (l.map GA.s)=([123]::(l.map GA.s).flatMap acW)++[[125]]:=rfl;rw [e1,ptT_app];exact h
end Go.Proofs.YtpgeidpfhakgaaaGreatDoor
namespace Go.Proofs.YtpgeidpfhakgaaaGreatDoor
open Go.RowKit
theorem ind_app (n:Nat) (T x y:List UInt8):(T++(List.replicate (2*n) 32++x))++y++[10]=T++ind n (x++y):=by
 unfold ind;simp only [a_]
theorem pclause_any (w0 w:World) (b n:Nat) (T:List UInt8) (S:ByteArray) (l:List GA) (A:Option Addr) (c:Nat) (hE:Ee w0) (h:WS w0 w b T n ⟨#[]⟩) (hx:DxAt w0 (gActs l) (.slice A l.length c)) (hok:l.all okA=true) (hr:∀a∈l,a.rng) (hS:kwOk S.data.toList=true) (hsz:S.size<=1000000) (hn:n<=100) :
  Calls Tryz.prog 93 #[.pointer (some ⟨b,0,none⟩),.string S,.slice A l.length c] w λ e w'=>e=.returned (.tuple #[])/\WS w0 w' b (T++clT n S.data.toList (l.map GA.s)) n ⟨#[]⟩/\Wk w0.heap.size b w w':=by
 by_cases hl:l.length=0
 ·obtain rfl:=List.eq_nil_of_length_eq_zero hl;have HW:=h_ h;clear h hx hok hr hl;go_enter Tryz.func93,Tryz.ntmps93;go_wp2_with fail;go_end0;refine ⟨rfl,?_,Wk.refl _ _ _⟩;have e:clT n S.data.toList ([].map GA.s)=[]:=rfl;rw [e,List.append_nil];exact HW.out
 ·have HNL:Hid (∀N,l.length=N->clT n S.data.toList (l.map GA.s)=ind n (S.data.toList++32::blockT (l.map GA.s))):=λ _ _=>by
   unfold clT;rw [if_neg (by intro h;have:=congrArg List.length h;simp at this;exact hl (by rw [this];rfl))]
  obtain ⟨W1,hW1⟩:∃W,W=w.alloc (.cells #[.string S] 9):=⟨_,rfl⟩
  obtain ⟨g1,hg1⟩:∃g,g=w.heap.size:=⟨_,rfl⟩
  have hal:Below w.heap.size w W1:=by rw [hW1];exact (b_ _ w).alloc (n_ _) _
  have HC1:=h_ (pbegin_any w0 W1 b n g1 1 T [S] (h.below hal) (by rw [hW1,hg1];exact CB.new w _ [.string S]) rfl (by have:=h.lt;omega) (by intro s hs;simp at hs;subst hs;exact hsz) (by decide) hn);have HK1:Hid (Wk w0.heap.size b w W1):=Wk.of h.bl.size hal;have HC2:=h_ (λ W hw=>pblock_any w0 W b n (T++(List.replicate (2*n) 32++ptT [] (wds [S]))) S l A c hE hw hx hok hr);have HC3:=h_ (λ W hw=>pend_nil w0 W b n ((T++(List.replicate (2*n) 32++ptT [] (wds [S])))++ptT S.data.toList (asW (l.map GA.s))) ⟨#[125]⟩ hw)
  have HTX:Hid ((T++(List.replicate (2*n) 32++ptT [] (wds [S])))++ptT S.data.toList (asW (l.map GA.s))++[10]=T++clT n S.data.toList (l.map GA.s)):=by
   show _=_;rw [HNL.out _ rfl,ind_app]
   congr 2
   have:=pt_clause hS (okAs_good hok);rw [<-this];show (sepW [] S.data.toList++(S.data.toList++[]))++ptT S.data.toList (asW (l.map GA.s))=sepW [] S.data.toList++(S.data.toList++ptT S.data.toList (asW (l.map GA.s)));simp only [a_,List.append_nil]
  obtain ⟨N,hN⟩:∃N,l.length=N:=⟨_,rfl⟩
  have hN0:(N:Int) > 0:=by omega
  rw [hN] at HC2 ⊢;clear h hal hx hok hr hS hsz hn hE hl hN HNL;go_enter Tryz.func93,Tryz.ntmps93;go_wp2_with fail;rw [<-hW1,<-hg1];clear hW1 hg1;refine HC1.out.mono ?_;rintro e w1 ⟨rfl,h1,h2⟩;have HW1:Hid (WS w0 w1 b (T++(List.replicate (2*n) 32++ptT [] (wds [S]))) n S):=h1;have HK2:=h_ (HK1.out.trans h2);clear h1 h2 HC1 HK1;go_wp2_with fail;refine (HC2.out w1 HW1.out).mono ?_;rintro e w2 ⟨rfl,h1,h2⟩;have HW2:=h_ h1;have HK3:=h_ (HK2.out.trans h2);clear h1 h2 HC2 HK2 HW1;go_wp2_with fail;refine (HC3.out w2 HW2.out).mono ?_;rintro e w3 ⟨rfl,h1,h2⟩;have HW3:=h_ h1;have HK4:=h_ (HK3.out.trans h2);clear h1 h2 HC3 HK3 HW2;go_wp2_with fail;go_end0;exact ⟨rfl,by have:=HW3.out;rw [HTX.out] at this;exact this,HK4.out⟩
end Go.Proofs.YtpgeidpfhakgaaaGreatDoor
namespace Go.Proofs.YtpgeidpfhakgaaaGreatDoor
open Go.RowKit
def MS (w0 W:World) (b n:Nat) (X:List UInt8) (ws:List (List UInt8)):Prop:=∃D:ByteArray,WS w0 W b (X++ptT [] ws) n D/\D.data.toList=ptL [] ws
theorem MS.lt {w0 W:World} {b n:Nat} {X:List UInt8} {ws:List (List UInt8)} (h:MS w0 W b n X ws):b<W.heap.size:=by
 obtain ⟨D,h,_⟩:=h;exact h.lt
theorem MS.bl {w0 W:World} {b n:Nat} {X:List UInt8} {ws:List (List UInt8)} (h:MS w0 W b n X ws):Below w0.heap.size w0 W:=by
 obtain ⟨D,h,_⟩:=h;exact h.bl
theorem MS.below {w0 W W':World} {b n:Nat} {X:List UInt8} {ws:List (List UInt8)} (h:MS w0 W b n X ws) (hb:Below W.heap.size W W'):MS w0 W' b n X ws:=by
 obtain ⟨D,h,h2⟩:=h;exact ⟨D,h.below hb,h2⟩
theorem ms_begin {w0 W:World} {b n:Nat} {T:List UInt8} {ss:List ByteArray} (h:WS w0 W b (T++(List.replicate (2*n) 32++ptT [] (wds ss))) n (lastA ⟨#[]⟩ ss)):MS w0 W b n (T++List.replicate (2*n) 32) (wds ss) :=
 ⟨_,by rw [a_];exact h,lastA_ptL ⟨#[]⟩ ss⟩
theorem ms_put {w0 w:World} {b n g m:Nat} {X:List UInt8} {ws:List (List UInt8)} (ss:List ByteArray) (h:MS w0 w b n X ws) (hs:CB w g 9 (ss.map Value.string)) (hm:ss.length=m) (hg:g≠b) (hM:∀s∈ss,s.size<=1000000) (h5:m<=5) :
  Calls Tryz.prog 131 #[.pointer (some ⟨b,0,none⟩),.slice (some ⟨g,0,none⟩) m m] w λ e w'=>e=.returned (.tuple #[])/\MS w0 w' b n X (ws++wds ss)/\Wk w0.heap.size b w w':=by
 obtain ⟨D,h1,h2⟩:=h;refine (pputs_any w0 w b n g m _ D ss h1 hs hm hg hM h5).mono ?_;rintro e w' ⟨rfl,h3,h4⟩;refine ⟨rfl,⟨lastA D ss,?_,?_⟩,h4⟩
 ·rw [ptT_app,<-h2,<-a_];exact h3
 ·rw [ptL_app,<-h2];exact lastA_ptL D ss
theorem ms_block {w0 w:World} {b n:Nat} {X:List UInt8} {ws:List (List UInt8)} (l:List GA) (A:Option Addr) (c:Nat) (hE:Ee w0) (h:MS w0 w b n X ws) (hx:DxAt w0 (gActs l) (.slice A l.length c)) (hok:l.all okA=true) (hr:∀a∈l,a.rng) :
  Calls Tryz.prog 133 #[.pointer (some ⟨b,0,none⟩),.slice A l.length c] w λ e w'=>e=.returned (.tuple #[])/\MS w0 w' b n X (ws++asW (l.map GA.s))/\Wk w0.heap.size b w w':=by
 obtain ⟨D,h1,h2⟩:=h;refine (pblock_any w0 w b n _ D l A c hE h1 hx hok hr).mono ?_;rintro e w' ⟨rfl,h3,h4⟩;refine ⟨rfl,⟨⟨#[125]⟩,?_,?_⟩,h4⟩
 ·rw [ptT_app,<-h2,<-a_];exact h3
 ·rw [ptL_app];unfold asW;rw [show ([123]:List UInt8)::((l.map GA.s).flatMap acW++[[125]])=([123]::(l.map GA.s).flatMap acW)++[[125]] from rfl,ptL_app];rfl
theorem tgW1_snoc:∀(ts:List (List UInt8)) (t:List UInt8),tgW1 (ts++[t])=tgW1 ts++[[44],t]:=by
 intro ts t;unfold tgW1;rw [List.flatMap_append];rfl
def sgA (i:Nat):ByteArray:=match i with
 |0=>⟨#[45,62]⟩
 |_+1=>⟨#[44]⟩
theorem tgW_snoc (ts:List (List UInt8)) (t:List UInt8):tgW (ts++[t])=tgW ts++[(sgA ts.length).data.toList,t]:=by
 cases ts with
 |nil=>rfl
 |cons x ts =>
  show [45,62]::x::tgW1 (ts++[t])=([45,62]::x::tgW1 ts)++[[44],t];rw [tgW1_snoc];rfl
theorem sgA_size (i:Nat):(sgA i).size<=1000000:=by
 cases i with
 |zero=>decide
 |succ i=>show (⟨#[44]⟩:ByteArray).size<=_;decide
theorem itoa_arr (n:Int) (h0:-9223372036854775808<=n) (h1:n<=9223372036854775807):(⟨(Lib.itoa n).toArray⟩:ByteArray).size<=1000000:=by
 have:=itoa_short n h0 h1;show (Lib.itoa n).toArray.size<=_;simp only [List.size_toArray];omega
def mvW0 (m:SyMove):List (List UInt8):=evW m++gdW m.guard++bkW m.acts
theorem mvW_parts (m:SyMove):mvW m=mvW0 m++tgW m.targets++[[59]]:=by
 unfold mvW mvW0;simp only [a_]
theorem pmove_any (w0 w:World) (b n:Nat) (T:List UInt8) (m:GM) (xs:List Value) (hE:Ee w0) (h:WS w0 w b T n ⟨#[]⟩) (hx:DxsAt w0 (gMove m) xs) (hok:okM m=true) (hr:m.rng) (hn:n<=100) :
  Calls Tryz.prog 94 #[.pointer (some ⟨b,0,none⟩),.agg xs.toArray] w λ e w'=>e=.returned (.tuple #[])/\WS w0 w' b (T++ind n (moveT m.s)) n ⟨#[]⟩/\Wk w0.heap.size b w w':=by
 obtain ⟨ev,A1,A2,c1,c2,rfl,hg,ha,ht⟩:=move_vals' hx;have hgood:=okM_good hok hr.2.1.2;have HGD:=h_ hgood;obtain ⟨X,hX⟩:=str_of m.event
 have HXN:Hid (X=⟨m.event.toArray⟩):=by show _=_;injection hX with hX;exact hX.symm
 rw [hX]
 obtain ⟨W1,hW1⟩:∃W,W=w.alloc (.cells #[.int .i64 m.kind,.string X,.int .i64 m.wait,.bool m.guarded,.int .i64 ev.kind,.int .i64 ev.num,.string ev.name,.int .i64 ev.op,.slice ev.A ev.len ev.cap,.int .i64 ev.p,.slice A1 m.acts.length c1,.slice A2 m.targets.length c2,.int .i64 m.at_] 43):=⟨_,rfl⟩
 obtain ⟨g1,hg1⟩:∃g,g=w.heap.size:=⟨_,rfl⟩
 have hal:Below w.heap.size w W1:=by rw [hW1];exact (b_ _ w).alloc (n_ _) _
 have HB1:Hid (CB W1 g1 43 [.int .i64 m.kind,.string X,.int .i64 m.wait,.bool m.guarded,.int .i64 ev.kind,.int .i64 ev.num,.string ev.name,.int .i64 ev.op,.slice ev.A ev.len ev.cap,.int .i64 ev.p,.slice A1 m.acts.length c1,.slice A2 m.targets.length c2,.int .i64 m.at_]):=by rw [hW1,hg1];exact CB.new w _ [.int .i64 m.kind,.string X,.int .i64 m.wait,.bool m.guarded,.int .i64 ev.kind,.int .i64 ev.num,.string ev.name,.int .i64 ev.op,.slice ev.A ev.len ev.cap,.int .i64 ev.p,.slice A1 m.acts.length c1,.slice A2 m.targets.length c2,.int .i64 m.at_]
 have HW1:=h_ (h.below hal);have HK1:Hid (Wk w0.heap.size b w W1):=Wk.of h.bl.size hal
 have HGB:Hid (g1≠b):=by have:=h.lt;rw [hg1];exact λ e=>by omega
 have HE:=h_ hE;have HTX:=h_ (λ (W:World) (hb:Below w0.heap.size w0 W)=>etext_any W m.guard ev (hE.below hb).wv hr.2.2.1 ((GV.below hg hb (n_ _)).mono (n_ 0) hb.size));simp only [EV.val] at HTX;have HNT:=h_ (λ (W:World) (hb:Below w0.heap.size w0 W)=>text_any m.wait W hr.2.1.1 hr.2.1.2 (hE.below hb).pw)
 have hokp:trig m=true/\grd m=true/\m.acts.all okA=true/\m.targets.all isNm=true:=by
  unfold okM at hok;simp only [Bool.and_eq_true] at hok;exact ⟨hok.1.1.1,hok.1.1.2,hok.1.2,hok.2⟩
 have HBK:=h_ (λ (W:World) X ws (hw:MS w0 W b n X ws)=>ms_block m.acts A1 c1 hE hw ha hokp.2.2.1 hr.2.2.2.1);have HST:=h_ (strs_sl ht);have HTN:Hid (∀t∈m.targets,isNm t=true):=λ t ht=>List.all_eq_true.1 hokp.2.2.2 t ht
 have HSZ:Hid (X.size<=1000000∨m.kind≠1):=by
  show _∨_;rcases hgood.event with e|e
  ·left;rw [HXN.out];exact nm_arr e.2
  ·exact .inr e.1
 have HWT:=h_ (itoa_arr m.wait hr.2.1.1 hr.2.1.2);have hkd:m.kind=1∨m.kind=2∨m.kind=3:=hgood.kind;have HGS:Hid (m.guarded=m.guard.right.isSome):=hgood.guarded
 have HFN:Hid (T++List.replicate (2*n) 32++ptT [] (mvW m.s)++[10]=T++ind n (moveT m.s)):=by
  show _=_;rw [pt_move hgood];unfold ind;simp only [a_]
 have HN:=h_ hn
 obtain ⟨K,hK⟩:∃K,m.kind=K:=⟨_,rfl⟩
 have HKE:=h_ hK;rw [hK] at HB1 hkd hW1 HSZ ⊢;clear hK;have z0:=HB1.out.c 0 rfl;have z1:=HB1.out.c 1 rfl;have z2:=HB1.out.c 2 rfl;clear h hal hx hok hr hn hg ha ht hgood hX hE hokp;go_enter Tryz.func94,Tryz.ntmps94;go_upto_block 0 with fail;rw [<-hW1,<-hg1];clear hW1 hg1
 go_cut [] (λ wr=>Hid (MS w0 wr b n (T++List.replicate (2*n) 32) (evW m.s))/\Hid (CB wr g1 43 [.int .i64 K,.string X,.int .i64 m.wait,.bool m.guarded,.int .i64 ev.kind,.int .i64 ev.num,.string ev.name,.int .i64 ev.op,.slice ev.A ev.len ev.cap,.int .i64 ev.p,.slice A1 m.acts.length c1,.slice A2 m.targets.length c2,.int .i64 m.at_])/\Hid (Wk w0.heap.size b w wr))
 case first =>
  rcases hkd with rfl|rfl|rfl
  ·have HEV:Hid (evW m.s=wds [⟨#[111,110]⟩,X]):=by
    show _=_;unfold evW;rw [if_pos (show m.s.kind=1 from HKE.out),HXN.out];simp only [wds,List.map_cons,List.map_nil];rfl
   obtain ⟨W2,hW2⟩:∃W,W=W1.alloc (.cells #[.string ⟨#[111,110]⟩,.string X] 9):=⟨_,rfl⟩
   obtain ⟨g2,hg2⟩:∃g,g=W1.heap.size:=⟨_,rfl⟩
   have hal:Below W1.heap.size W1 W2:=by rw [hW2];exact (b_ _ W1).alloc (n_ _) _
   have HC:=h_ (pbegin_any w0 W2 b n g2 2 T [⟨#[111,110]⟩,X] (HW1.out.below hal) (by rw [hW2,hg2];exact CB.new W1 _ [.string ⟨#[111,110]⟩,.string X]) rfl (by have:=HW1.out.lt;omega) (by
    intro s hs;simp only [List.mem_cons,List.not_mem_nil,or_false] at hs;rcases hs with rfl|rfl
    ·decide
    ·rcases HSZ.out with h|h
     ·exact h
     ·exact absurd rfl h) (by decide) HN.out)
   have HB2:=h_ (HB1.out.below hal);have HK2:Hid (Wk w0.heap.size b w W2):=HK1.out.trans (Wk.of HW1.out.bl.size hal);clear hal HB1 HK1 HW1;go_wp2_with fail;rw [<-hW2,<-hg2];clear hW2 hg2 z0 z1 z2;refine HC.out.mono ?_;rintro e w3 ⟨rfl,h1,h2⟩
   have HM3:Hid (MS w0 w3 b n (T++List.replicate (2*n) 32) (evW m.s)):=by
    show MS _ _ _ _ _ _;rw [HEV.out];exact ms_begin h1
   have HB3:=h_ (HB2.out.wk h2 HGB.out (by decide));have HK3:=h_ (HK2.out.trans h2);clear h1 h2 HC HB2 HK2;go_wp2_with fail
   go_meet
   exact ⟨HM3,HB3,HK3⟩
  ·have HEV:Hid (evW m.s=wds [⟨#[97,108,119,97,121,115]⟩]):=by
    show _=_;unfold evW;rw [if_neg (show ¬m.s.kind=1 from by show ¬m.kind=1;rw [HKE.out];decide),if_pos (show m.s.kind=2 from HKE.out)];rfl
   obtain ⟨W2,hW2⟩:∃W,W=W1.alloc (.cells #[.string ⟨#[97,108,119,97,121,115]⟩] 9):=⟨_,rfl⟩
   obtain ⟨g2,hg2⟩:∃g,g=W1.heap.size:=⟨_,rfl⟩
   have hal:Below W1.heap.size W1 W2:=by rw [hW2];exact (b_ _ W1).alloc (n_ _) _
   have HC:=h_ (pbegin_any w0 W2 b n g2 1 T [⟨#[97,108,119,97,121,115]⟩] (HW1.out.below hal) (by rw [hW2,hg2];exact CB.new W1 _ [.string ⟨#[97,108,119,97,121,115]⟩]) rfl (by have:=HW1.out.lt;omega) (by intro s hs;simp at hs;subst hs;decide) (by decide) HN.out);have HB2:=h_ (HB1.out.below hal);have HK2:Hid (Wk w0.heap.size b w W2):=HK1.out.trans (Wk.of HW1.out.bl.size hal);clear hal HB1 HK1 HW1;go_wp2_with fail;rw [<-hW2,<-hg2];clear hW2 hg2 z0 z1 z2;refine HC.out.mono ?_;rintro e w3 ⟨rfl,h1,h2⟩
   have HM3:Hid (MS w0 w3 b n (T++List.replicate (2*n) 32) (evW m.s)):=by
    show MS _ _ _ _ _ _;rw [HEV.out];exact ms_begin h1
   have HB3:=h_ (HB2.out.wk h2 HGB.out (by decide));have HK3:=h_ (HK2.out.trans h2);clear h1 h2 HC HB2 HK2;go_wp2_with fail
   go_meet
   exact ⟨HM3,HB3,HK3⟩
  ·obtain ⟨NT,hNT⟩:∃NT:ByteArray,(⟨(Lib.itoa m.wait).toArray⟩:ByteArray)=NT:=⟨_,rfl⟩
   have HEV:Hid (evW m.s=wds [⟨#[97,102,116,101,114]⟩,NT]):=by
    show _=_;unfold evW;rw [if_neg (show ¬m.s.kind=1 from by show ¬m.kind=1;rw [HKE.out];decide),if_neg (show ¬m.s.kind=2 from by show ¬m.kind=2;rw [HKE.out];decide),<-hNT];simp only [wds,List.map_cons,List.map_nil];rfl
   rw [hNT] at HNT HWT;have HNC:=h_ (HNT.out W1 HW1.out.bl);clear hNT;go_wp2_with fail;refine HNC.out.mono ?_;rintro e wn ⟨rfl,hbn⟩
   obtain ⟨W2,hW2⟩:∃W,W=wn.alloc (.cells #[.string ⟨#[97,102,116,101,114]⟩,.string NT] 9):=⟨_,rfl⟩
   obtain ⟨g2,hg2⟩:∃g,g=wn.heap.size:=⟨_,rfl⟩
   have hal0:Below wn.heap.size wn W2:=by rw [hW2];exact (b_ _ wn).alloc (n_ _) _
   have hal:Below W1.heap.size W1 W2:=hbn.trans (hal0.mono hbn.size)
   have HC:=h_ (pbegin_any w0 W2 b n g2 2 T [⟨#[97,102,116,101,114]⟩,NT] (HW1.out.below hal) (by rw [hW2,hg2];exact CB.new wn _ [.string ⟨#[97,102,116,101,114]⟩,.string NT]) rfl (by have:=HW1.out.lt;have:=hbn.size;omega) (by
    intro s hs;simp only [List.mem_cons,List.not_mem_nil,or_false] at hs;rcases hs with rfl|rfl
    ·decide
    ·exact HWT.out) (by decide) HN.out)
   have HB2:=h_ (HB1.out.below hal);have HK2:Hid (Wk w0.heap.size b w W2):=HK1.out.trans (Wk.of HW1.out.bl.size hal);clear hal hal0 hbn HB1 HK1 HW1 HNC;go_wp2_with fail;rw [<-hW2,<-hg2];clear hW2 hg2 z0 z1 z2;refine HC.out.mono ?_;rintro e w3 ⟨rfl,h1,h2⟩
   have HM3:Hid (MS w0 w3 b n (T++List.replicate (2*n) 32) (evW m.s)):=by
    show MS _ _ _ _ _ _;rw [HEV.out];exact ms_begin h1
   have HB3:=h_ (HB2.out.wk h2 HGB.out (by decide));have HK3:=h_ (HK2.out.trans h2);clear h1 h2 HC HB2 HK2;go_wp2_with fail
   go_meet
   exact ⟨HM3,HB3,HK3⟩
 case rest =>
 obtain ⟨HM2,HB2,HK2⟩:=hcut;clear z0 z1 z2 HB1 HK1 HW1 HNT HWT HSZ hkd;have z3:=HB2.out.c 3 rfl;have z4:=HB2.out.c 4 rfl;have z5:=HB2.out.c 5 rfl;have z6:=HB2.out.c 6 rfl;have z7:=HB2.out.c 7 rfl;have z8:=HB2.out.c 8 rfl;have z9:=HB2.out.c 9 rfl
 obtain ⟨d,hgd⟩:∃d,m.guarded=d:=⟨_,rfl⟩
 have HGD2:=h_ hgd;rw [hgd] at z3;clear hgd;go_upto_if 30 with fail
 go_cut [] (λ wr=>Hid (MS w0 wr b n (T++List.replicate (2*n) 32) (evW m.s++gdW m.s.guard))/\Hid (CB wr g1 43 [.int .i64 K,.string X,.int .i64 m.wait,.bool m.guarded,.int .i64 ev.kind,.int .i64 ev.num,.string ev.name,.int .i64 ev.op,.slice ev.A ev.len ev.cap,.int .i64 ev.p,.slice A1 m.acts.length c1,.slice A2 m.targets.length c2,.int .i64 m.at_])/\Hid (Wk w0.heap.size b w wr))
 case first =>
  cases d
  ·have HM3:Hid (MS w0 wc b n (T++List.replicate (2*n) 32) (evW m.s++gdW m.s.guard)):=by
    show MS _ _ _ _ _ _;have h1:=HGS.out;rw [HGD2.out] at h1
    have h2:m.s.guard=none:=by
     show m.guard.right=none
     cases h:m.guard.right with
     |none=>rfl
     |some e=>rw [h] at h1;cases h1
    rw [h2];show MS w0 wc b n _ (evW m.s++[]);rw [List.append_nil];exact HM2.out
   go_wp2_with fail
   go_meet
   exact ⟨HM3,HB2,HK2⟩
  ·obtain ⟨e,he⟩:∃e,m.guard.right=some e:=x_ (by rw [<-HGS.out];exact HGD2.out)
   obtain ⟨TX,hTX⟩:∃TX:ByteArray,(⟨m.guard.txt.toArray⟩:ByteArray)=TX:=⟨_,rfl⟩
   have HGW:Hid (gdW m.s.guard=wds [⟨#[91]⟩,TX,⟨#[93]⟩]):=by
    show gdW m.guard.right=_;rw [he,<-hTX];simp only [wds,List.map_cons,List.map_nil,GX.txt_some he];rfl
   have HTS:Hid (TX.size<=1000000):=by show TX.size<=_;rw [<-hTX];exact txt_size m.guard
   rw [hTX] at HTX;have HTC:=h_ (HTX.out wc HM2.out.bl);clear he hTX;go_wp2_with fail;refine HTC.out.mono ?_;rintro e' wn ⟨rfl,hbn⟩
   obtain ⟨W2,hW2⟩:∃W,W=wn.alloc (.cells #[.string ⟨#[91]⟩,.string TX,.string ⟨#[93]⟩] 9):=⟨_,rfl⟩
   obtain ⟨g2,hg2⟩:∃g,g=wn.heap.size:=⟨_,rfl⟩
   have hal0:Below wn.heap.size wn W2:=by rw [hW2];exact (b_ _ wn).alloc (n_ _) _
   have hal:Below wc.heap.size wc W2:=hbn.trans (hal0.mono hbn.size)
   have HC:=h_ (ms_put [⟨#[91]⟩,TX,⟨#[93]⟩] (m:=3) (g:=g2) (HM2.out.below hal) (by rw [hW2,hg2];exact CB.new wn _ [.string ⟨#[91]⟩,.string TX,.string ⟨#[93]⟩]) rfl (by have:=HM2.out.lt;have:=hbn.size;omega) (by
    intro s hs;simp only [List.mem_cons,List.not_mem_nil,or_false] at hs;rcases hs with rfl|rfl|rfl
    ·decide
    ·exact HTS.out
    ·decide) (by decide))
   have HB3:=h_ (HB2.out.below hal);have HK3:Hid (Wk w0.heap.size b w W2):=HK2.out.trans (Wk.of HM2.out.bl.size hal);clear hal hal0 hbn HB2 HK2 HM2 HTC;go_wp2_with fail;rw [<-hW2,<-hg2];clear hW2 hg2 z3 z4 z5 z6 z7 z8 z9;refine HC.out.mono ?_;rintro e' w3 ⟨rfl,h1,h2⟩
   have HM4:Hid (MS w0 w3 b n (T++List.replicate (2*n) 32) (evW m.s++gdW m.s.guard)):=by
    show MS _ _ _ _ _ _;rw [HGW.out];exact h1
   have HB4:=h_ (HB3.out.wk h2 HGB.out (by decide));have HK4:=h_ (HK3.out.trans h2);clear h1 h2 HC HB3 HK3;go_wp2_with fail
   go_meet
   exact ⟨HM4,HB4,HK4⟩
 case rest =>
 obtain ⟨HM3,HB3,HK3⟩:=hcut;clear z3 z4 z5 z6 z7 z8 z9 HB2 HK2 HM2 HTX
 rename World=>wd
 have z10:=HB3.out.c 10 rfl
 obtain ⟨N,hN⟩:∃N,m.acts.length=N:=⟨_,rfl⟩
 have HNN:=h_ hN;rw [hN] at z10;clear hN
 obtain ⟨d2,hd2⟩:∃d,decide (0<N)=d:=⟨_,rfl⟩
 go_upto_if 40 with fail;have HD2:=h_ hd2;clear hd2
 go_cut [] (λ wr=>Hid (MS w0 wr b n (T++List.replicate (2*n) 32) (mvW0 m.s))/\Hid (CB wr g1 43 [.int .i64 K,.string X,.int .i64 m.wait,.bool m.guarded,.int .i64 ev.kind,.int .i64 ev.num,.string ev.name,.int .i64 ev.op,.slice ev.A ev.len ev.cap,.int .i64 ev.p,.slice A1 m.acts.length c1,.slice A2 m.targets.length c2,.int .i64 m.at_])/\Hid (Wk w0.heap.size b w wr))
 case first =>
  have HC:=h_ (HBK.out _ _ _ HM3.out);rw [HNN.out] at HC;cases d2
  ·have HM4:Hid (MS w0 wd b n (T++List.replicate (2*n) 32) (mvW0 m.s)):=by
    show MS _ _ _ _ _ _;have e1:m.acts=[]:=List.eq_nil_of_length_eq_zero (by have:=of_decide_eq_false HD2.out;rw [HNN.out];omega)
    have e2:mvW0 m.s=evW m.s++gdW m.s.guard:=by
     unfold mvW0;show _++_++bkW (m.acts.map GA.s)=_;rw [e1];show _++[]=_;rw [List.append_nil]
    rw [e2];exact HM3.out
   go_wp2_with fail
   go_meet
   exact ⟨HM4,HB3,HK3⟩
  ·have HMM:Hid (mvW0 m.s=evW m.s++gdW m.s.guard++asW (m.acts.map GA.s)):=by
    show _=_;unfold mvW0;show _++_++bkW (m.acts.map GA.s)=_;unfold bkW;rw [if_neg (by intro h;have:=congrArg List.length h;rw [List.length_map,HNN.out] at this;have h2:=of_decide_eq_true HD2.out;simp at this;omega)]
   go_wp2_with fail;refine HC.out.mono ?_;rintro e' w3 ⟨rfl,h1,h2⟩
   have HM4:Hid (MS w0 w3 b n (T++List.replicate (2*n) 32) (mvW0 m.s)):=by
    show MS _ _ _ _ _ _;rw [HMM.out];exact h1
   have HB4:=h_ (HB3.out.wk h2 HGB.out (by decide));have HK4:=h_ (HK3.out.trans h2);clear h1 h2 HC;go_wp2_with fail
   go_meet
   exact ⟨HM4,HB4,HK4⟩
 case rest =>
 obtain ⟨HM4,HB4,HK4⟩:=hcut;clear z10 HB3 HK3 HM3 HBK;have z11:=HB4.out.c 11 rfl
 obtain ⟨N,hN⟩:∃N,m.targets.length=N:=⟨_,rfl⟩
 have HN2:=h_ hN
 have HMX:Hid (N<=9223372036854775807):=by
  have h1:=HST.out.1;have h2:=HST.out.2.1
  have:maxLen<=9223372036854775807:=by decide
  show N<=_;omega
 rw [hN] at z11;clear hN;go_wp2_with fail
 go_loopw [4,48] (λ sv iv wr=>∃i:Nat,i<=N/\sv=.string (sgA i)/\iv=.int .i64 (i:Int)/\Hid (MS w0 wr b n (T++List.replicate (2*n) 32) (mvW0 m.s++tgW (m.targets.take i)))/\Hid (Wk w0.heap.size b w wr)) (λ _ iv _=>N-(intOf iv).toNat)
 case atStart=>exact ⟨0,Nat.zero_le _,rfl,rfl,by show MS _ _ _ _ _ (_++[]);rw [List.append_nil];exact HM4.out,HK4⟩
 case round =>
  obtain ⟨i,hi,rfl,rfl,HMI,HKI⟩:=hrel
  by_cases him:i<N
  ·have him':(i:Int)<N:=by omega
   have HIM:=h_ him
   obtain ⟨t,ht⟩:∃t,m.targets[i]?=some t:=⟨_,List.getElem?_eq_getElem (by rw [HN2.out];exact him)⟩
   obtain ⟨g,o,hA,hgl,hc⟩:=HST.out.2.2 i ⟨t.toArray⟩ (by rw [List.getElem?_map,ht];rfl);subst hA
   obtain ⟨Z,hZ⟩:∃Z:ByteArray,(⟨t.toArray⟩:ByteArray)=Z:=⟨_,rfl⟩
   rw [hZ] at hc
   have u1:wr.cell? ⟨g,o+i,none⟩=some (.string Z):=by rw [World.cell?_of_block (HMI.out.bl.block g hgl)];exact hc
   have HZS:Hid (Z.size<=1000000):=by show Z.size<=_;rw [<-hZ];exact nm_arr (HTN.out t (List.mem_of_getElem? ht))
   have HNX:Hid (mvW0 m.s++tgW (m.targets.take (i+1))=mvW0 m.s++tgW (m.targets.take i)++wds [sgA i,Z]):=by
    show _=_;rw [List.take_add_one,ht];show _++tgW (m.targets.take i++[t])=_;rw [tgW_snoc,List.length_take,Nat.min_eq_left (by rw [HN2.out];omega),<-hZ,a_];simp only [wds,List.map_cons,List.map_nil]
   obtain ⟨W2,hW2⟩:∃W,W=wr.alloc (.cells #[.string (sgA i),.string Z] 9):=⟨_,rfl⟩
   obtain ⟨g2,hg2⟩:∃g,g=wr.heap.size:=⟨_,rfl⟩
   have hal:Below wr.heap.size wr W2:=by rw [hW2];exact (b_ _ wr).alloc (n_ _) _
   have HC:=h_ (ms_put [sgA i,Z] (m:=2) (g:=g2) (HMI.out.below hal) (by rw [hW2,hg2];exact CB.new wr _ [.string (sgA i),.string Z]) rfl (by have:=HMI.out.lt;omega) (by
    intro s hs;simp only [List.mem_cons,List.not_mem_nil,or_false] at hs;rcases hs with rfl|rfl
    ·exact sgA_size i
    ·exact HZS.out) (by decide))
   have HK5:Hid (Wk w0.heap.size b w W2):=HKI.out.trans (Wk.of HMI.out.bl.size hal);clear hal ht hgl hc hZ HMI HKI;go_wp2_with fail;rw [<-hW2,<-hg2];clear hW2 hg2 u1;refine HC.out.mono ?_;rintro e' w3 ⟨rfl,h1,h2⟩
   have HM5:Hid (MS w0 w3 b n (T++List.replicate (2*n) 32) (mvW0 m.s++tgW (m.targets.take (i+1)))):=by
    show MS _ _ _ _ _ _;rw [HNX.out];exact h1
   have HK6:=h_ (HK5.out.trans h2);clear h1 h2 HC HK5;go_wp2_with fail
   go_roundw
   case rel=>exact ⟨i+1,by have:=HIM.out;omega,rfl,by have h1:=HIM.out;have h2:=HMX.out;rw [Go.IntWalk.wrap64_in _ ⟨by omega,by omega⟩];rfl,HM5,HK6⟩
   case measure=>have h1:=HIM.out;have h2:=HMX.out;rw [Go.IntWalk.wrap64_in _ ⟨by omega,by omega⟩];simp [intOf];omega
  ·have him':¬(i:Int)<N:=by omega
   have HM5:Hid (∃D:ByteArray,WS w0 wr b ((T++List.replicate (2*n) 32)++ptT [] (mvW0 m.s++tgW m.targets)) n D/\D.data.toList=ptL [] (mvW0 m.s++tgW m.targets)):=by
    have:=HMI.out;rw [List.take_of_length_le (by rw [HN2.out];omega)] at this;exact this
   obtain ⟨D,hD1,hD2⟩:=HM5.out
   obtain ⟨W2,hW2⟩:∃W,W=wr.alloc (.cells #[.string ⟨#[59]⟩] 9):=⟨_,rfl⟩
   obtain ⟨g2,hg2⟩:∃g,g=wr.heap.size:=⟨_,rfl⟩
   have hal:Below wr.heap.size wr W2:=by rw [hW2];exact (b_ _ wr).alloc (n_ _) _
   have HC:=h_ (pend_any w0 W2 b n g2 1 _ D [⟨#[59]⟩] (hD1.below hal) (by rw [hW2,hg2];exact CB.new wr _ [.string ⟨#[59]⟩]) rfl (by have:=hD1.lt;omega) (by intro s hs;simp at hs;subst hs;decide) (by decide));have HK5:Hid (Wk w0.heap.size b w W2):=HKI.out.trans (Wk.of hD1.bl.size hal);have HD2:=h_ hD2;clear hal hD1 hD2 HM5 HMI HKI hi him;go_wp2_with fail;rw [<-hW2,<-hg2];clear hW2 hg2;refine HC.out.mono ?_;rintro e' w3 ⟨rfl,h1,h2⟩;have HW3:=h_ h1;have HK6:=h_ (HK5.out.trans h2);clear h1 h2 HC HK5;go_wp2_with fail;go_end0;refine ⟨rfl,?_,HK6.out⟩;have h:=HW3.out;rw [HD2.out] at h;rw [<-HFN.out,mvW_parts,ptT_app]
   have e1:∀(P Q R:List UInt8),P++Q++(R++[10])=P++(Q++R)++[10]:=λ P Q R=>by simp only [a_]
   rw [e1] at h;exact h
end Go.Proofs.YtpgeidpfhakgaaaGreatDoor
