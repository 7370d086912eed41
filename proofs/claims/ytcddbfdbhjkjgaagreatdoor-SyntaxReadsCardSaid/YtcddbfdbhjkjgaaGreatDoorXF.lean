import Derived.Test.YtcddbfdbhjkjgaaGreatDoorQh
import Derived.Test.YtcddbfdbhjkjgaaGreatDoorXE
import Derived.Test.YtcddbfdbhjkjgaaGreatDoorQXS
import Derived.RegionTactic
set_option maxHeartbeats 12800000
set_option maxRecDepth 20000
namespace Go.Proofs.YtcddbfdbhjkjgaaGreatDoor
open Go.RowKit
def TkAt (w:World) (A:Option Addr) (n:Nat) (xs:List Tk):Prop:=xs.length=n∧∀(i:Nat) (t:Tk),xs[i]?=some t→∃g o,A=some ⟨g,o,none⟩ ∧
 w.cell? ⟨g,o+i*4,none⟩=some (.int .i64 t.kind)∧w.cell? ⟨g,o+i*4+1,none⟩=some (txV t.text)∧w.cell? ⟨g,o+i*4+2,none⟩=some (.int .i64 t.num)∧w.cell? ⟨g,o+i*4+3,none⟩=some (.int .i64 t.at_)
theorem TkSrc.at {w:World} {A:Option Addr} {n:Nat} {xs:List Tk} (h:TkSrc w A n xs):TkAt w A n xs :=
 ⟨h.1,fun i t hi=>by
  obtain ⟨g,e,h0,h1,h2,h3⟩:=h.2 i t hi
  exact ⟨g,0,e,by rw [Nat.zero_add];exact h0,by rw [Nat.zero_add];exact h1,by rw [Nat.zero_add];exact h2,by rw [Nat.zero_add];exact h3⟩⟩
def RdB (w:World) (b:Nat) (A:Option Addr) (n c:Nat) (q d:Nat) (code pos:Int):Prop:=w.heap[b]?=some (.cells #[.slice A n c,.int .i64 (q:Int),.int .i64 (d:Int),.int .i64 code,.int .i64 pos] 144 (0,0))
section
variable {w w':World} {b n c q d:Nat} {A:Option Addr} {code pos:Int}
theorem RdB.lt (h:RdB w b A n c q d code pos):b<w.heap.size:=by
 rcases Nat.lt_or_ge b w.heap.size with hlt|hge
 ·exact hlt
 ·unfold RdB at h;rw [Array.getElem?_eq_none hge] at h;cases h
theorem RdB.c0 (h:RdB w b A n c q d code pos):w.cell? ⟨b,0,none⟩=some (.slice A n c):=cell_of_row w b 0 _ _ _ h
theorem RdB.c1 (h:RdB w b A n c q d code pos):w.cell? ⟨b,1,none⟩=some (.int .i64 (q:Int)):=cell_of_row w b 1 _ _ _ h
theorem RdB.c2 (h:RdB w b A n c q d code pos):w.cell? ⟨b,2,none⟩=some (.int .i64 (d:Int)):=cell_of_row w b 2 _ _ _ h
theorem RdB.c3 (h:RdB w b A n c q d code pos):w.cell? ⟨b,3,none⟩=some (.int .i64 code):=cell_of_row w b 3 _ _ _ h
theorem RdB.c4 (h:RdB w b A n c q d code pos):w.cell? ⟨b,4,none⟩=some (.int .i64 pos):=cell_of_row w b 4 _ _ _ h
theorem RdB.fr (h:RdB w b A n c q d code pos) (i:Nat):w.frozen? ⟨b,i,none⟩=false:=by
 unfold RdB at h
 simp [World.frozen?,h]
theorem RdB.below (h:RdB w b A n c q d code pos) (hb:Below w.heap.size w w'):RdB w' b A n c q d code pos:=(hb.block b h.lt).trans h
theorem RdB.alloc (h:RdB w b A n c q d code pos) (o:Obj):RdB (w.alloc o) b A n c q d code pos:=(Below.heap_alloc w o b h.lt).trans h
theorem RdB.mv {g:Nat} (h:RdB w b A n c q d code pos) (hb:Mv g w w') (hn:b≠g):RdB w' b A n c q d code pos:=(hb.block h.lt hn).trans h
theorem RdB.set1 (h:RdB w b A n c q d code pos) (q':Nat):RdB (w.setCell ⟨b,1,none⟩ (.int .i64 (q':Int))) b A n c q' d code pos:=heap_setCell_same w b 1 _ _ _ h
theorem RdB.set2 (h:RdB w b A n c q d code pos) (d':Nat):RdB (w.setCell ⟨b,2,none⟩ (.int .i64 (d':Int))) b A n c q d' code pos:=heap_setCell_same w b 2 _ _ _ h
theorem RdB.set34 (h:RdB w b A n c q d code pos) (x y:Int):RdB ((w.setCell ⟨b,3,none⟩ (.int .i64 x)).setCell ⟨b,4,none⟩ (.int .i64 y)) b A n c q d x y :=
 heap_setCell_same (w.setCell ⟨b,3,none⟩ (.int .i64 x)) b 4 _ _ _ (heap_setCell_same w b 3 _ _ _ h)
end
theorem Mv.drew {b:Nat} {w w':World} (h:Mv b w w'):Mv b w w'.drew:=h.trans ⟨rfl,rfl,rfl,n_ _,fun _ _ _=>rfl⟩
theorem TkAt.get {w:World} {A:Option Addr} {n:Nat} {xs:List Tk} (h:TkAt w A n xs) {q:Nat} (hq:q<n):∃t,xs[q]?=some t:=⟨_,List.getElem?_eq_getElem (by rw [h.1];exact hq)⟩
theorem esign_any (w:World) (b n c q d:Nat) (A:Option Addr) (code pos:Int) (xs:List Tk) (t:Tk) (S:ByteArray) (h:RdB w b A n c q d code pos) (hA:TkAt w A n xs) (ht:xs[q]?=some t) :
  Calls Tryz.prog 128 #[.pointer (some ⟨b,0,none⟩),.string S] w fun e w'=>e=.returned (.bool ((code==0)&&isSg t S.data.toList))∧Below w.heap.size w w':=by
 have hq:q<n:=by rw [←hA.1];exact (List.getElem?_eq_some_iff.1 ht).1
 obtain ⟨g,o,rfl,x0,x1,x2,x3⟩:=hA.2 q t ht
 obtain ⟨X,hX⟩:∃X,txV t.text=.string X:=⟨_,rfl⟩
 have eX:X.toList=t.text:=by
  unfold txV at hX
  injection hX with hX
  rw [←hX,Lib.toList_data]
 have hsg:isSg t S.data.toList=((t.kind==4)&&(X.toList==S.toList)):=by
  rw [eX,Lib.toList_data]
  unfold isSg
  rw [Bool.eq_iff_iff]
  simp
 rw [hsg]
 rw [hX] at x1
 have r0:=h.c0
 have r1:=h.c1
 have r0':∀ob:Obj,(w.alloc ob).cell? ⟨b,0,none⟩=some (.slice (some ⟨g,o,none⟩) n c):=fun ob=>(h.alloc ob).c0
 have r1':∀o:Obj,(w.alloc o).cell? ⟨b,1,none⟩=some (.int .i64 (q:Int)):=fun o=>(h.alloc o).c1
 have r3:∀o:Obj,(w.alloc o).cell? ⟨b,3,none⟩=some (.int .i64 code):=fun o=>(h.alloc o).c3
 have ka:∀{p:Addr} {u:Value},w.cell? p=some u→∀ob:Obj,(w.alloc ob).cell? p=some u:=fun hc ob=>by rw [World.cell?_alloc_lt _ _ _ (World.block_lt_of_cell? w _ hc)];exact hc
 have y0:=ka x0
 have y1:=ka x1
 have y2:=ka x2
 have y3:=ka x3
 clear ka
 have hq':(q:Int)<n:=by omega
 obtain ⟨d0,hd0⟩:∃d0,(code==0)=d0:=⟨_,rfl⟩
 obtain ⟨d1,hd1⟩:∃d1,(t.kind==4)=d1:=⟨_,rfl⟩
 obtain ⟨d2,hd2⟩:∃d2,(X.toList==S.toList)=d2:=⟨_,rfl⟩
 rw [hd0,hd1,hd2]
 clear h hA ht hX eX hsg
 go_enter Tryz.func128,Tryz.ntmps128
 go_wp2_with fail
 go_region
 all_goals
  cases d0 <;> cases d1
  all_goals
   go_wp2_with fail
   go_ret
   exact ⟨by simp,((b_ _ w).alloc (n_ _) _).drew⟩
def wrC (t:Tk):Int:=if t.kind=5 then 3 else 4
theorem estop_set (w:World) (b n c q d:Nat) (A:Option Addr) (pos e:Int) (xs:List Tk) (t:Tk) (h:RdB w b A n c q d 0 pos) (hA:TkAt w A n xs) (ht:xs[q]?=some t) :
  Calls Tryz.prog 142 #[.pointer (some ⟨b,0,none⟩),.int .i64 e] w fun e' w'=>e'=.returned (.tuple #[])∧RdB w' b A n c q d e t.at_∧Mv b w w':=by
 have HR:=h_ h
 have hq:q<n:=by rw [←hA.1];exact (List.getElem?_eq_some_iff.1 ht).1
 obtain ⟨g,o,rfl,x0,x1,x2,x3⟩:=hA.2 q t ht
 have r0:=h.c0
 have r1:=h.c1
 have r3:=h.c3
 have r4:=h.c4
 have f3:=h.fr 3
 have f4:=h.fr 4
 have hq':(q:Int)<n:=by omega
 clear h hA ht x0 x1 x2
 go_enter Tryz.func142,Tryz.ntmps142
 go_wp2_with fail
 go_region
 all_goals
  go_wp2_with fail
  go_end0
  exact ⟨rfl,HR.out.set34 _ _,(((Mv.refl b w).set 3 _).set 4 _).drew⟩
theorem estop_not (w:World) (b n c q d:Nat) (A:Option Addr) (code pos e:Int) (h:RdB w b A n c q d code pos) (hc:code≠0) :
  Calls Tryz.prog 142 #[.pointer (some ⟨b,0,none⟩),.int .i64 e] w fun e' w'=>e'=.returned (.tuple #[])∧RdB w' b A n c q d code pos∧Mv b w w':=by
 have HR:=h_ h
 have r3:=h.c3
 have hc0:(code==0)=false:=by simpa using hc
 clear h hc
 go_enter Tryz.func142,Tryz.ntmps142
 go_wp2_with fail
 go_end0
 exact ⟨rfl,HR.out,Mv.refl b w⟩
theorem ewrong_set (w:World) (b n c q d:Nat) (A:Option Addr) (pos:Int) (xs:List Tk) (t:Tk) (h:RdB w b A n c q d 0 pos) (hA:TkAt w A n xs) (ht:xs[q]?=some t) :
  Calls Tryz.prog 132 #[.pointer (some ⟨b,0,none⟩)] w fun e' w'=>e'=.returned (.tuple #[])∧RdB w' b A n c q d (wrC t) t.at_∧Mv b w w':=by
 have HS:=h_ (fun (m:Nat) (e:Int)=>estop_set (w.drewN m) b n c q d A pos e xs t h hA ht)
 have hq:q<n:=by rw [←hA.1];exact (List.getElem?_eq_some_iff.1 ht).1
 obtain ⟨g,o,rfl,x0,_⟩:=hA.2 q t ht
 have r0:=h.c0
 have r1:=h.c1
 have hq':(q:Int)<n:=by omega
 clear h hA ht
 by_cases hk:t.kind=5
 ·have hk1:(t.kind==5)=true:=by rw [hk];rfl
  have HW:Hid (wrC t=3):=by show _=_;unfold wrC;rw [if_pos hk]
  clear hk
  go_enter Tryz.func132,Tryz.ntmps132
  go_wp2_with fail
  go_quiet (fail)
  go_wp2_with fail
  refine (HS.out _ 3).mono ?_
  rintro e w1 ⟨rfl,h1,h2⟩
  go_wp2_with fail
  refine bodyPost_ret (results_none rfl _ _ _) rfl ?_
  exact ⟨rfl,by rw [HW.out];exact h1,(Mv.of b (drewN_below w _)).trans h2⟩
 ·have hk1:(t.kind==5)=false:=by simpa using hk
  have HW:Hid (wrC t=4):=by show _=_;unfold wrC;rw [if_neg hk]
  clear hk
  go_enter Tryz.func132,Tryz.ntmps132
  go_wp2_with fail
  go_quiet (fail)
  go_wp2_with fail
  refine (HS.out _ 4).mono ?_
  rintro e w1 ⟨rfl,h1,h2⟩
  go_wp2_with fail
  go_end0
  exact ⟨rfl,by rw [HW.out];exact h1,(Mv.of b (drewN_below w _)).trans h2⟩
theorem ewrong_not (w:World) (b n c q d:Nat) (A:Option Addr) (code pos:Int) (xs:List Tk) (t:Tk) (h:RdB w b A n c q d code pos) (hc:code≠0) (hA:TkAt w A n xs) (ht:xs[q]?=some t) :
  Calls Tryz.prog 132 #[.pointer (some ⟨b,0,none⟩)] w fun e' w'=>e'=.returned (.tuple #[])∧RdB w' b A n c q d code pos∧Mv b w w':=by
 have HS:=h_ (fun (m:Nat) (e:Int)=>estop_not (w.drewN m) b n c q d A code pos e h hc)
 have hq:q<n:=by rw [←hA.1];exact (List.getElem?_eq_some_iff.1 ht).1
 obtain ⟨g,o,rfl,x0,_⟩:=hA.2 q t ht
 have r0:=h.c0
 have r1:=h.c1
 have hq':(q:Int)<n:=by omega
 clear h hA ht hc
 obtain ⟨d1,hd1⟩:∃d1,(t.kind==5)=d1:=⟨_,rfl⟩
 cases d1
 ·go_enter Tryz.func132,Tryz.ntmps132
  go_wp2_with fail
  go_quiet (fail)
  go_wp2_with fail
  refine (HS.out _ 4).mono ?_
  rintro e w1 ⟨rfl,h1,h2⟩
  go_wp2_with fail
  go_end0
  exact ⟨rfl,h1,(Mv.of b (drewN_below w _)).trans h2⟩
 ·go_enter Tryz.func132,Tryz.ntmps132
  go_wp2_with fail
  go_quiet (fail)
  go_wp2_with fail
  refine (HS.out _ 3).mono ?_
  rintro e w1 ⟨rfl,h1,h2⟩
  go_wp2_with fail
  refine bodyPost_ret (results_none rfl _ _ _) rfl ?_
  exact ⟨rfl,h1,(Mv.of b (drewN_below w _)).trans h2⟩
theorem TkAt.below {w w':World} {A:Option Addr} {n:Nat} {xs:List Tk} (h:TkAt w A n xs) (hb:Below w.heap.size w w'):TkAt w' A n xs :=
 ⟨h.1,fun i t hi=>by
  obtain ⟨g,o,e,h0,h1,h2,h3⟩:=h.2 i t hi
  exact ⟨g,o,e,by rw [hb.cell (World.block_lt_of_cell? w _ h0)];exact h0,by rw [hb.cell (World.block_lt_of_cell? w _ h1)];exact h1,by rw [hb.cell (World.block_lt_of_cell? w _ h2)];exact h2,by rw [hb.cell (World.block_lt_of_cell? w _ h3)];exact h3⟩⟩
theorem emust_yes (w:World) (b n c q d:Nat) (A:Option Addr) (pos:Int) (xs:List Tk) (t:Tk) (S:ByteArray) (h:RdB w b A n c q d 0 pos) (hA:TkAt w A n xs) (ht:xs[q]?=some t) (hs:isSg t S.data.toList=true) (hn:n≤1000000000) :
  Calls Tryz.prog 130 #[.pointer (some ⟨b,0,none⟩),.string S] w fun e' w'=>e'=.returned (.tuple #[])∧RdB w' b A n c (q+1) d 0 pos∧Mv b w w':=by
 have hq:q<n:=by rw [←hA.1];exact (List.getElem?_eq_some_iff.1 ht).1
 have HS:=h_ (esign_any w b n c q d A 0 pos xs t S h hA ht)
 rw [hs] at HS
 have HR:=h_ h
 clear h hA ht hs
 go_enter Tryz.func130,Tryz.ntmps130
 go_wp2_with fail
 refine HS.out.mono ?_
 rintro e w1 ⟨rfl,hb⟩
 have HR1:=h_ (HR.out.below hb)
 have HM:=h_ (Mv.of b hb)
 have r1:=HR1.out.c1
 have f1:=HR1.out.fr 1
 clear hb
 go_wp2_with fail
 go_end0
 refine ⟨rfl,?_,HM.out.set 1 _⟩
 have:=HR1.out.set1 (q+1)
 rw [Int.natCast_add] at this
 exact this
theorem emust_no (w:World) (b n c q d:Nat) (A:Option Addr) (pos:Int) (xs:List Tk) (t:Tk) (S:ByteArray) (h:RdB w b A n c q d 0 pos) (hA:TkAt w A n xs) (ht:xs[q]?=some t) (hs:isSg t S.data.toList=false) :
  Calls Tryz.prog 130 #[.pointer (some ⟨b,0,none⟩),.string S] w fun e' w'=>e'=.returned (.tuple #[])∧RdB w' b A n c q d (wrC t) t.at_∧Mv b w w':=by
 have HS:=h_ (esign_any w b n c q d A 0 pos xs t S h hA ht)
 rw [hs] at HS
 have HW:=h_ (fun (w':World) (hb:Below w.heap.size w w')=>ewrong_set w' b n c q d A pos xs t (h.below hb) (hA.below hb) ht)
 clear h hA ht hs
 go_enter Tryz.func130,Tryz.ntmps130
 go_wp2_with fail
 refine HS.out.mono ?_
 rintro e w1 ⟨rfl,hb⟩
 have HB:=h_ hb
 clear hb
 go_wp2_with fail
 refine (HW.out w1 HB.out).mono ?_
 rintro e w2 ⟨rfl,h1,h2⟩
 go_wp2_with fail
 refine bodyPost_ret (results_none rfl _ _ _) rfl ?_
 exact ⟨rfl,h1,(Mv.of b HB.out).trans h2⟩
theorem emust_not (w:World) (b n c q d:Nat) (A:Option Addr) (code pos:Int) (xs:List Tk) (t:Tk) (S:ByteArray) (h:RdB w b A n c q d code pos) (hc:code≠0) (hA:TkAt w A n xs) (ht:xs[q]?=some t) :
  Calls Tryz.prog 130 #[.pointer (some ⟨b,0,none⟩),.string S] w fun e' w'=>e'=.returned (.tuple #[])∧RdB w' b A n c q d code pos∧Mv b w w':=by
 have HS:=h_ (esign_any w b n c q d A code pos xs t S h hA ht)
 have hc0:(code==0)=false:=by simpa using hc
 rw [hc0,Bool.false_and] at HS
 have HW:=h_ (fun (w':World) (hb:Below w.heap.size w w')=>ewrong_not w' b n c q d A code pos xs t (h.below hb) hc (hA.below hb) ht)
 clear h hA ht hc hc0
 go_enter Tryz.func130,Tryz.ntmps130
 go_wp2_with fail
 refine HS.out.mono ?_
 rintro e w1 ⟨rfl,hb⟩
 have HB:=h_ hb
 clear hb
 go_wp2_with fail
 refine (HW.out w1 HB.out).mono ?_
 rintro e w2 ⟨rfl,h1,h2⟩
 go_wp2_with fail
 refine bodyPost_ret (results_none rfl _ _ _) rfl ?_
 exact ⟨rfl,h1,(Mv.of b HB.out).trans h2⟩
theorem edown_yes (w:World) (b n c q d:Nat) (A:Option Addr) (pos:Int) (h:RdB w b A n c q d 0 pos) (hd:d<20) (hn:q≤1000000000) :
  Calls Tryz.prog 129 #[.pointer (some ⟨b,0,none⟩)] w fun e' w'=>e'=.returned (.bool true)∧RdB w' b A n c (q+1) (d+1) 0 pos∧Mv b w w':=by
 have HR:=h_ h
 have r1:=h.c1
 have r2:=h.c2
 have f1:=h.fr 1
 have f2:=h.fr 2
 have hd0:((d:Int)==20)=false:=by rw [beq_eq_false_iff_ne];omega
 clear h
 go_enter Tryz.func129,Tryz.ntmps129
 go_wp2_with fail
 go_ret
 refine ⟨rfl,?_,((Mv.refl b w).set 2 _).set 1 _⟩
 have:=(HR.out.set2 (d+1)).set1 (q+1)
 rw [Int.natCast_add,Int.natCast_add] at this
 exact this
theorem edown_no (w:World) (b n c q:Nat) (A:Option Addr) (pos:Int) (xs:List Tk) (t:Tk) (h:RdB w b A n c q 20 0 pos) (hA:TkAt w A n xs) (ht:xs[q]?=some t) :
  Calls Tryz.prog 129 #[.pointer (some ⟨b,0,none⟩)] w fun e' w'=>e'=.returned (.bool false)∧RdB w' b A n c q 20 21 t.at_∧Mv b w w':=by
 have HS:=h_ (estop_set w b n c q 20 A pos 21 xs t h hA ht)
 have r2:=h.c2
 clear h hA ht
 go_enter Tryz.func129,Tryz.ntmps129
 go_wp2_with fail
 refine HS.out.mono ?_
 rintro e w1 ⟨rfl,h1,h2⟩
 go_wp2_with fail
 go_ret
 exact ⟨rfl,h1,h2⟩
def RowsAt (w:World) (g:Nat) (f:List UInt8×Int→Value):Prop:=∀k,k<6→∃gk,w.cell? ⟨g,k,none⟩=some (.slice (some ⟨gk,0,none⟩) (rowOps k).length (rowOps k).length)∧∀(i:Nat) (o:List UInt8×Int),(rowOps k)[i]?=some o→w.cell? ⟨gk,i,none⟩=some (f o)
theorem RowsAt.below {w w':World} {g:Nat} {f:List UInt8×Int→Value} (h:RowsAt w g f) (hb:Below w.heap.size w w'):RowsAt w' g f:=fun k hk=>by
 obtain ⟨gk,h1,h2⟩:=h k hk
 exact ⟨gk,by rw [hb.cell (World.block_lt_of_cell? w _ h1)];exact h1,fun i o ho=>by rw [hb.cell (World.block_lt_of_cell? w _ (h2 i o ho))];exact h2 i o ho⟩
def sixW (w:World) (f:List UInt8×Int→Value) (T T2:TypeId):World :=
 ((((((w.alloc (.cells ((rowOps 0).map f).toArray T)).alloc (.cells ((rowOps 1).map f).toArray T)).alloc (.cells ((rowOps 2).map f).toArray T)).alloc (.cells ((rowOps 3).map f).toArray T)).alloc (.cells ((rowOps 4).map f).toArray T)).alloc (.cells ((rowOps 5).map f).toArray T)).alloc
  (.cells #[.slice (some ⟨w.heap.size,0,none⟩) 1 1,.slice (some ⟨w.heap.size+1,0,none⟩) 1 1,.slice (some ⟨w.heap.size+2,0,none⟩) 2 2,.slice (some ⟨w.heap.size+3,0,none⟩) 4 4,.slice (some ⟨w.heap.size+4,0,none⟩) 2 2,.slice (some ⟨w.heap.size+5,0,none⟩) 3 3] T2)
theorem sixW_heap (w:World) (f:List UInt8×Int→Value) (T T2:TypeId):(∀k,k<6→(sixW w f T T2).heap[w.heap.size+k]?=some (.cells ((rowOps k).map f).toArray T (0,0))) ∧
  (sixW w f T T2).heap[w.heap.size+6]?=some (.cells #[.slice (some ⟨w.heap.size,0,none⟩) 1 1,.slice (some ⟨w.heap.size+1,0,none⟩) 1 1,.slice (some ⟨w.heap.size+2,0,none⟩) 2 2,.slice (some ⟨w.heap.size+3,0,none⟩) 4 4,.slice (some ⟨w.heap.size+4,0,none⟩) 2 2,.slice (some ⟨w.heap.size+5,0,none⟩) 3 3] T2 (0,0)):=by
 have e:∀(u:World) (o:Obj),(u.alloc o).heap=u.heap.push o:=fun _ _=>rfl
 have hn:∀(a:Array Obj) (o:Obj) (i:Nat),i=a.size→(a.push o)[i]?=some o:=fun a o i h=>by subst h;simp
 have ho:∀(a:Array Obj) (o:Obj) (i:Nat),i<a.size→(a.push o)[i]?=a[i]?:=fun a o i h=>by rw [Array.getElem?_push,if_neg (by omega)]
 constructor
 ·intro k hk
  unfold sixW
  simp only [e]
  match k,hk with
  |0,_ =>
   repeat rw [ho _ _ _ (by simp only [Array.size_push];omega)]
   exact hn _ _ _ (by simp)
  |1,_ =>
   repeat rw [ho _ _ _ (by simp only [Array.size_push];omega)]
   exact hn _ _ _ (by simp)
  |2,_ =>
   repeat rw [ho _ _ _ (by simp only [Array.size_push];omega)]
   exact hn _ _ _ (by simp)
  |3,_ =>
   repeat rw [ho _ _ _ (by simp only [Array.size_push];omega)]
   exact hn _ _ _ (by simp)
  |4,_ =>
   repeat rw [ho _ _ _ (by simp only [Array.size_push];omega)]
   exact hn _ _ _ (by simp)
  |5,_ =>
   repeat rw [ho _ _ _ (by simp only [Array.size_push];omega)]
   exact hn _ _ _ (by simp)
 ·unfold sixW
  simp only [e]
  rw [hn _ _ _ (by simp only [Array.size_push])]
theorem sixW_rows (w:World) (f:List UInt8×Int→Value) (T T2:TypeId):RowsAt (sixW w f T T2) (w.heap.size+6) f:=fun k hk=>by
 obtain ⟨h1,h2⟩:=sixW_heap w f T T2
 refine ⟨w.heap.size+k,?_,fun i o ho=>?_⟩
 ·rw [cell_of_row _ _ _ _ _ _ h2]
  match k,hk with
  |0,_=>rfl
  |1,_=>rfl
  |2,_=>rfl
  |3,_=>rfl
  |4,_=>rfl
  |5,_=>rfl
 ·rw [cell_of_row _ _ _ _ _ _ (h1 k hk)]
  simp [ho]
theorem sixW_below (w:World) (f:List UInt8×Int→Value) (T T2:TypeId):Below w.heap.size w (sixW w f T T2):=by
 unfold sixW
 exact ((((((((b_ _ w).alloc (n_ _) _).alloc (by simp) _).alloc (by simp;omega) _).alloc (by simp;omega) _).alloc (by simp;omega) _).alloc (by simp;omega) _).alloc (by simp;omega) _)
theorem erows_any (w:World) :
  Calls Tryz.prog 133 #[] w fun e w'=>e=.returned (.slice (some ⟨w.heap.size+6,0,none⟩) 6 6)∧RowsAt w' (w.heap.size+6) (fun o=>txV o.1)∧Below w.heap.size w w':=by
 go_enter Tryz.func133,Tryz.ntmps133
 go_wp2_with fail
 go_ret
 exact ⟨rfl,sixW_rows w (fun o=>txV o.1) 9 46,sixW_below w (fun o=>txV o.1) 9 46⟩
theorem enumbers_any (w:World) :
  Calls Tryz.prog 134 #[] w fun e w'=>e=.returned (.slice (some ⟨w.heap.size+6,0,none⟩) 6 6)∧RowsAt w' (w.heap.size+6) (fun o=>.int .i64 o.2)∧Below w.heap.size w w':=by
 go_enter Tryz.func134,Tryz.ntmps134
 go_wp2_with fail
 go_ret
 exact ⟨rfl,sixW_rows w (fun o=>.int .i64 o.2) 3 39,sixW_below w (fun o=>.int .i64 o.2) 3 39⟩
theorem find_yes {α:Type} {p:α→Bool}:∀{l:List α} {i:Nat} {o:α},l[i]?=some o→p o=true→(∀j x,j<i→l[j]?=some x→p x=false)→l.find? p=some o
 |[],i,o,h,_,_=>by simp at h
 |x::l,0,o,h,hp,_=>by
  have:x=o:=by simpa using h
  subst this
  rw [List.find?_cons,hp]
 |x::l,i+1,o,h,hp,hn=>by
  rw [List.find?_cons,hn 0 x (by omega) rfl]
  exact find_yes (by simpa using h) hp (fun j y hj hy=>hn (j+1) y (by omega) (by simpa using hy))
theorem find_no {α:Type} {p:α→Bool} {l:List α} (h:∀j x,j<l.length→l[j]?=some x→p x=false):l.find? p=none:=by
 rw [List.find?_eq_none]
 intro x hx
 obtain ⟨j,hj⟩:=List.getElem?_of_mem hx
 rw [h j x ((List.getElem?_eq_some_iff.1 hj).1) hj]
 decide
theorem rowOps_len (k:Nat):(rowOps k).length≤4:=by
 match k with
 |0=>decide
 |1=>decide
 |2=>decide
 |3=>decide
 |4=>decide
 |5=>decide
 |k+6=>simp [rowOps]
def rowN (code:Int) (k:Nat) (t:Tk):Int:=if code=0 then opAt k [t] else 0
theorem erow_any (w:World) (b n c q d k:Nat) (A:Option Addr) (code pos:Int) (xs:List Tk) (t:Tk) (h:RdB w b A n c q d code pos) (hA:TkAt w A n xs) (ht:xs[q]?=some t) (hk:k<6) :
  Calls Tryz.prog 121 #[.pointer (some ⟨b,0,none⟩),.int .i64 (k:Int)] w fun e w'=>e=.returned (.int .i64 (rowN code k t))∧Below w.heap.size w w':=by
 have HSG:=h_ (fun (w':World) (hb:Below w.heap.size w w') (S:ByteArray)=>esign_any w' b n c q d A code pos xs t S (h.below hb) (hA.below hb) ht)
 have H1:=h_ (erows_any w)
 have H2:=h_ (fun (w':World)=>enumbers_any w')
 have hk':(k:Int)<6:=by omega
 clear h hA ht
 obtain ⟨L,hL⟩:∃L,rowOps k=L:=⟨_,rfl⟩
 have hLl:L.length≤4:=by rw [←hL];exact rowOps_len k
 obtain ⟨m,hm⟩:∃m,L.length=m:=⟨_,rfl⟩
 have HLL:=h_ hL
 have HM:=h_ hm
 rw [hm] at hLl
 go_enter Tryz.func121,Tryz.ntmps121
 go_wp2_with fail
 refine H1.out.mono ?_
 rintro e w1 ⟨rfl,hr1,hb1⟩
 obtain ⟨gk,y1,z1⟩:=hr1 k hk
 rw [hL,hm] at y1
 rw [hL] at z1
 have HB1:=h_ hb1
 have HZ1:=h_ z1
 obtain ⟨g1,hg1⟩:∃g,w.heap.size+6=g:=⟨_,rfl⟩
 rw [hg1] at y1 ⊢
 clear hr1 hb1 z1 hg1
 go_wp2_with fail
 refine (H2.out w1).mono ?_
 rintro e w2 ⟨rfl,hr2,hb2⟩
 obtain ⟨gn,y2,z2⟩:=hr2 k hk
 rw [hL,hm] at y2
 rw [hL] at z2
 have HB2:Hid (Below w.heap.size w w2):=HB1.out.trans (hb2.mono HB1.out.size)
 have HZ1':Hid (∀(i:Nat) (o:List UInt8×Int),L[i]?=some o→w2.cell? ⟨gk,i,none⟩=some (txV o.1)):=fun i o ho=>by
  have:=HZ1.out i o ho
  rw [hb2.cell (World.block_lt_of_cell? w1 _ this)]
  exact this
 have HZ2:=h_ z2
 obtain ⟨g2,hg2⟩:∃g,w1.heap.size+6=g:=⟨_,rfl⟩
 rw [hg2] at y2 ⊢
 clear hr2 hb2 z2 hg2 HZ1 HB1 y1
 go_wp2_with fail
 go_loopw [7] (fun iv wr=>∃i:Nat,i≤m∧iv=.int .i64 (i:Int)∧Hid (∀(j:Nat) (o:List UInt8×Int),j<i→L[j]?=some o→code≠0∨isSg t o.1=false)∧Hid (Below w2.heap.size w2 wr)) (fun iv _=>m-(intOf iv).toNat)
 case atStart=>exact ⟨0,Nat.zero_le _,rfl,fun j o h=>absurd h (Nat.not_lt_zero _),b_ _ _⟩
 case round =>
  obtain ⟨i,hi,rfl,HNO,HBR⟩:=hrel
  have HBW:Hid (Below w.heap.size w wr):=HB2.out.trans (HBR.out.mono HB2.out.size)
  by_cases him:i<m
  ·have him':(i:Int)<m:=by omega
   obtain ⟨o,ho⟩:∃o,L[i]?=some o:=⟨_,List.getElem?_eq_getElem (by rw [HM.out];exact him)⟩
   obtain ⟨X,hX⟩:∃X:ByteArray,X=⟨o.1.toArray⟩:=⟨_,rfl⟩
   have hXl:X.data.toList=o.1:=by rw [hX]
   have hXv:txV o.1=.string X:=by rw [hX];rfl
   have u1:wr.cell? ⟨gk,i,none⟩=some (.string X):=by
    have:=HZ1'.out i o ho
    rw [HBR.out.cell (World.block_lt_of_cell? w2 _ this),this,hXv]
   have u2w:w2.cell? ⟨gn,i,none⟩=some (.int .i64 o.2):=HZ2.out i o ho
   have HU2:=h_ u2w
   have HS:=h_ (HSG.out wr HBW.out X)
   rw [hXl] at HS
   have HO:=h_ ho
   clear hX hXl hXv u2w ho
   obtain ⟨dd,hdd⟩:∃dd,((code==0)&&isSg t o.1)=dd:=⟨_,rfl⟩
   rw [hdd] at HS
   have HDD:=h_ hdd
   clear hdd
   go_wp2_with fail
   refine HS.out.mono ?_
   rintro e w3 ⟨rfl,hb3⟩
   have HB3:Hid (Below w2.heap.size w2 w3):=HBR.out.trans (hb3.mono HBR.out.size)
   have HB4:Hid (Below w.heap.size w w3):=HBW.out.trans (hb3.mono HBW.out.size)
   have u3:w3.cell? ⟨gn,i,none⟩=some (.int .i64 o.2):=by
    rw [HB3.out.cell (World.block_lt_of_cell? w2 _ HU2.out)]
    exact HU2.out
   clear hb3
   cases dd
   ·have HR:Hid (∀(j:Nat) (o:List UInt8×Int),j<i+1→L[j]?=some o→code≠0∨isSg t o.1=false):=fun j o' hj ho'=>by
     rcases Nat.lt_succ_iff_lt_or_eq.1 hj with h|rfl
     ·exact HNO.out j o' h ho'
     ·rw [HO.out] at ho'
      injection ho' with ho'
      subst ho'
      have:=HDD.out
      rw [Bool.and_eq_false_iff] at this
      rcases this with h|h
      ·exact .inl (by simpa using h)
      ·exact .inr h
    go_wp2_with fail
    go_roundw
    case rel=>exact ⟨i+1,by omega,by go_num,HR,HB3⟩
    case measure=>simp [intOf];omega
   ·have HR:Hid (rowN code k t=o.2):=by
     show _=_
     have:=HDD.out
     rw [Bool.and_eq_true] at this
     have hc:code=0:=by simpa using this.1
     unfold rowN
     rw [if_pos hc,opAt_cons,HLL.out,find_yes HO.out this.2 (fun j x hj hx=>(HNO.out j x hj hx).resolve_left (fun h=>h hc))]
    go_wp2_with fail
    go_ret
    exact ⟨by rw [HR.out];rfl,HB4.out⟩
  ·have him':¬(i:Int)<m:=by omega
   have HR:Hid (rowN code k t=0):=by
    show _=_
    unfold rowN
    split
    ·rename_i hc
     rw [opAt_cons,HLL.out,find_no (fun j x hj hx=>(HNO.out j x (by rw [HM.out] at hj;omega) hx).resolve_left (fun h=>h hc))]
    ·rfl
   go_wp2_with fail
   go_ret
   exact ⟨by rw [HR.out];rfl,HBW.out⟩
def XpB (w:World) (g:Nat) (v:EV):Prop:=w.heap[g]?=some (.cells #[.int .i64 v.kind,.int .i64 v.num,.string v.name,.int .i64 v.op,.slice v.A v.len v.cap,.int .i64 v.p] 54 (0,0))
def ev0:EV:=⟨0,0,⟨#[]⟩,0,none,0,0,0⟩
section
variable {w w':World} {g:Nat} {v:EV}
theorem XpB.lt (h:XpB w g v):g<w.heap.size:=by
 rcases Nat.lt_or_ge g w.heap.size with hlt|hge
 ·exact hlt
 ·unfold XpB at h;rw [Array.getElem?_eq_none hge] at h;cases h
theorem XpB.c0 (h:XpB w g v):w.cell? ⟨g,0,none⟩=some (.int .i64 v.kind):=cell_of_row w g 0 _ _ _ h
theorem XpB.c1 (h:XpB w g v):w.cell? ⟨g,1,none⟩=some (.int .i64 v.num):=cell_of_row w g 1 _ _ _ h
theorem XpB.c2 (h:XpB w g v):w.cell? ⟨g,2,none⟩=some (.string v.name):=cell_of_row w g 2 _ _ _ h
theorem XpB.c3 (h:XpB w g v):w.cell? ⟨g,3,none⟩=some (.int .i64 v.op):=cell_of_row w g 3 _ _ _ h
theorem XpB.c4 (h:XpB w g v):w.cell? ⟨g,4,none⟩=some (.slice v.A v.len v.cap):=cell_of_row w g 4 _ _ _ h
theorem XpB.c5 (h:XpB w g v):w.cell? ⟨g,5,none⟩=some (.int .i64 v.p):=cell_of_row w g 5 _ _ _ h
theorem XpB.fr (h:XpB w g v) (i:Nat):w.frozen? ⟨g,i,none⟩=false:=by
 unfold XpB at h
 simp [World.frozen?,h]
theorem XpB.below (h:XpB w g v) (hb:Below w.heap.size w w'):XpB w' g v:=(hb.block g h.lt).trans h
theorem XpB.alloc (h:XpB w g v) (o:Obj):XpB (w.alloc o) g v:=(Below.heap_alloc w o g h.lt).trans h
theorem XpB.mv {b:Nat} (h:XpB w g v) (hb:Mv b w w') (hn:g≠b):XpB w' g v:=(hb.block h.lt hn).trans h
theorem XpB.new (w:World) (v:EV):XpB (w.alloc (.cells #[.int .i64 v.kind,.int .i64 v.num,.string v.name,.int .i64 v.op,.slice v.A v.len v.cap,.int .i64 v.p] 54)) w.heap.size v:=heap_alloc_new w _
def six (w:World) (g:Nat) (u:EV):World:=(((((w.setCell ⟨g,0,none⟩ (.int .i64 u.kind)).setCell ⟨g,1,none⟩ (.int .i64 u.num)).setCell ⟨g,2,none⟩ (.string u.name)).setCell ⟨g,3,none⟩ (.int .i64 u.op)).setCell ⟨g,4,none⟩ (.slice u.A u.len u.cap)).setCell ⟨g,5,none⟩ (.int .i64 u.p)
theorem XpB.all (h:XpB w g v) (u:EV):XpB (six w g u) g u:=by
 have h0:=heap_setCell_same w g 0 _ _ (.int .i64 u.kind) h
 have h1:=heap_setCell_same _ g 1 _ _ (.int .i64 u.num) h0
 have h2:=heap_setCell_same _ g 2 _ _ (.string u.name) h1
 have h3:=heap_setCell_same _ g 3 _ _ (.int .i64 u.op) h2
 have h4:=heap_setCell_same _ g 4 _ _ (.slice u.A u.len u.cap) h3
 exact heap_setCell_same _ g 5 _ _ (.int .i64 u.p) h4
theorem six_mv (w:World) (g:Nat) (u:EV):Mv g w (six w g u):=((((((Mv.refl g w).set 0 _).set 1 _).set 2 _).set 3 _).set 4 _).set 5 _
theorem six_put {b:Nat} {u0:World} (h:Mv b u0 w) (hg:u0.heap.size≤g) (u:EV):Mv b u0 (six w g u):=(((((h.put 0 g hg _).put 1 g hg _).put 2 g hg _).put 3 g hg _).put 4 g hg _).put 5 g hg _
theorem XpB.load (h:XpB w g v):(loadVar 54 ⟨g,0,none⟩).run Tryz.prog w=.ok v.val w :=
 run_loadVar_row w g _ _ _ _ _ h Tryz.underlying54 rfl (by kernel_rfl)
theorem XpB.res {fn:Func} {p:Tmp} (hr:fn.results=#[.cell p 54]) (tmps:Array Value) (hp:tmps.getD p undef=.pointer (some ⟨g,0,none⟩)) (h:XpB w g v) :
  (results fn tmps).run Tryz.prog w=.ok v.val w:=by
 have hp':tmps[p]?.getD undef=.pointer (some ⟨g,0,none⟩):=by simpa using hp
 simp [results,hr,hp',asAddr,h.load]
end
theorem GV.mv {w w':World} {lo b:Nat} {x:GX} {v:EV} (h:GV w lo w.heap.size x v) (hm:Mv b w w') (hb:b<lo):GV w' lo w'.heap.size x v :=
 (h.same (fun g h1 h2=>hm.block h2 (by omega))).mono (n_ _) (World.grownBy.size hm)
theorem TkAt.mv {w w':World} {A:Option Addr} {n b:Nat} {xs:List Tk} (h:TkAt w A n xs) (hm:Mv b w w') (hn:∀g o,A=some ⟨g,o,none⟩→g≠b):TkAt w' A n xs :=
 ⟨h.1,fun i t hi=>by
  obtain ⟨g,o,e,h0,h1,h2,h3⟩:=h.2 i t hi
  have hb:w'.heap[g]?=w.heap[g]?:=hm.block (World.block_lt_of_cell? w _ h0) (hn g o e)
  have e':∀j,w'.cell? ⟨g,j,none⟩=w.cell? ⟨g,j,none⟩:=fun j=>World.cell?_of_block (w:=w) hb
  exact ⟨g,o,e,by rw [e'];exact h0,by rw [e'];exact h1,by rw [e'];exact h2,by rw [e'];exact h3⟩⟩
def RP (w':World) (lo b n c d:Nat) (A:Option Addr) (xs:List Tk) (v:EV):PR→Prop
 |.out=>False
 |.ok x r=>GV w' lo w'.heap.size x.gx v∧TkEnds r∧∃q,q<n∧xs.drop q=r∧RdB w' b A n c q d 0 0
 |.bad code p=>code≠0∧∃q,q<n∧RdB w' b A n c q d code p
theorem wrC_ne (t:Tk):wrC t≠0:=by unfold wrC;split <;> decide
theorem wrongAt_eq (t:Tk):wrongAt t=.bad (wrC t) t.at_:=by unfold wrongAt wrC;split <;> rfl
theorem drop_get {xs r:List Tk} {q:Nat} {t:Tk} (h:xs.drop q=t::r):xs[q]?=some t∧q<xs.length∧xs.drop (q+1)=r:=by
 have hq:q<xs.length:=by
  rcases Nat.lt_or_ge q xs.length with h1|h1
  ·exact h1
  ·rw [List.drop_of_length_le h1] at h;cases h
 rw [List.drop_eq_getElem_cons hq] at h
 injection h with h1 h2
 exact ⟨by rw [List.getElem?_eq_getElem hq,h1],hq,h2⟩
theorem ends_cons {l:List Tk} (h:TkEnds l):∃t r,l=t::r:=by
 cases l with
 |nil=>exact absurd rfl h.ne
 |cons t r=>exact ⟨t,r,rfl⟩
theorem ein_any (w:World) (b n c q d:Nat) (A:Option Addr) (xs:List Tk) (t:Tk) (r:List Tk) (h:RdB w b A n c q d 0 0) (hA:TkAt w A n xs) (hAb:∀g o,A=some ⟨g,o,none⟩→g≠b)
  (hq:xs.drop q=t::r) (he:TkEnds r) (hn:n≤1000000000) :
  Calls Tryz.prog 131 #[.pointer (some ⟨b,0,none⟩)] w fun e w'=>∃v:EV,e=.returned v.val∧RP w' w.heap.size b n c d A xs v (innP t.at_ r)∧Mv b w w':=by
 obtain ⟨ht,hql,hr⟩:=drop_get hq
 have hqn:q<n:=by rw [←hA.1];exact hql
 obtain ⟨t1,r1,rfl⟩:=ends_cons he
 obtain ⟨ht1,hql1,hr1⟩:=drop_get hr
 have hqn1:q+1<n:=by rw [←hA.1];exact hql1
 obtain ⟨W0,hW0⟩:∃W0,W0=w.alloc (.cells #[.int .i64 0,.int .i64 0,.string ⟨#[]⟩,.int .i64 0,.slice none 0 0,.int .i64 0] 54):=⟨_,rfl⟩
 obtain ⟨g1,hg1⟩:∃g,g=w.heap.size:=⟨_,rfl⟩
 have HX1:Hid (XpB W0 g1 ev0):=by rw [hW0,hg1];exact XpB.new w ev0
 have HB0:Hid (Below w.heap.size w W0):=by rw [hW0];exact (b_ _ w).alloc (n_ _) _
 have HR0:Hid (RdB W0 b A n c q d 0 0):=h.below HB0.out
 have HA0:Hid (TkAt W0 A n xs):=hA.below HB0.out
 have hbw:b<w.heap.size:=h.lt
 have hg1w:w.heap.size≤g1:=by omega
 have HAB:=h_ hAb
 obtain ⟨g,o,hAe,x0,x1,x2,x3⟩:=HA0.out.2 q t ht
 have r0':∀ob:Obj,(W0.alloc ob).cell? ⟨b,0,none⟩=some (.slice A n c):=fun ob=>(HR0.out.alloc ob).c0
 have r1':∀ob:Obj,(W0.alloc ob).cell? ⟨b,1,none⟩=some (.int .i64 (q:Int)):=fun ob=>(HR0.out.alloc ob).c1
 have f1':∀ob:Obj,(W0.alloc ob).frozen? ⟨b,1,none⟩=false:=fun ob=>(HR0.out.alloc ob).fr 1
 have r0:=HR0.out.c0
 have r1:=HR0.out.c1
 have y3:∀ob:Obj,(W0.alloc ob).cell? ⟨g,o+q*4+3,none⟩=some (.int .i64 t.at_):=fun ob=>by rw [World.cell?_alloc_lt _ _ _ (World.block_lt_of_cell? W0 _ x3)];exact x3
 have hq':(q:Int)<n:=by omega
 have HM1:=h_ (fun (W:World) (hR:RdB W b A n c (q+1) d 0 0) (hA:TkAt W A n xs) (hs:isSg t1 [40]=true)=>emust_yes W b n c (q+1) d A 0 xs t1 ⟨#[40]⟩ hR hA ht1 hs hn)
 have HM2:=h_ (fun (W:World) (hR:RdB W b A n c (q+1) d 0 0) (hA:TkAt W A n xs) (hs:isSg t1 [40]=false)=>emust_no W b n c (q+1) d A 0 xs t1 ⟨#[40]⟩ hR hA ht1 hs)
 subst hAe
 have HGL:Hid (g<w.heap.size):=by
  show _<_
  obtain ⟨ga,oa,ea,z0,_⟩:=hA.2 q t ht
  injection ea with ea
  injection ea with ea _ _
  subst ea
  exact World.block_lt_of_cell? w _ z0
 go_enter Tryz.func131,Tryz.ntmps131
 go_upto_region 1 with fail
 rw [←hW0,←hg1]
 obtain ⟨g2,hg2⟩:∃g,g=W0.heap.size:=⟨_,rfl⟩
 obtain ⟨W1,hW1⟩:∃W,W=((W0.alloc (.cells #[.int .i64 3,.int .i64 0,.string ⟨#[]⟩,.int .i64 0,.slice none 0 0,.int .i64 t.at_] 54)).setCell ⟨b,1,none⟩ (.int .i64 ((q:Int)+1))).drew:=⟨_,rfl⟩
 have HX2:Hid (XpB W1 g2 ⟨3,0,⟨#[]⟩,0,none,0,0,t.at_⟩):=by
  rw [hW1,hg2]
  exact (XpB.new W0 ⟨3,0,⟨#[]⟩,0,none,0,0,t.at_⟩).mv (w':=((W0.alloc _).setCell ⟨b,1,none⟩ _).drew) (((Mv.refl b _).set 1 _).drew) (by have:=HR0.out.lt;omega)
 have HX1':Hid (XpB W1 g1 ev0):=by
  rw [hW1]
  exact (HX1.out.alloc _).mv (w':=((W0.alloc _).setCell ⟨b,1,none⟩ _).drew) (((Mv.refl b _).set 1 _).drew) (by omega)
 have HR1:Hid (RdB W1 b (some ⟨g,o,none⟩) n c (q+1) d 0 0):=by
  rw [hW1]
  have:=(HR0.out.alloc (.cells #[.int .i64 3,.int .i64 0,.string ⟨#[]⟩,.int .i64 0,.slice none 0 0,.int .i64 t.at_] 54)).set1 (q+1)
  rw [Int.natCast_add] at this
  exact this
 have HMV1:Hid (Mv b w W1):=by
  rw [hW1]
  exact (((Mv.of b HB0.out).trans (Mv.of b ((b_ _ W0).alloc (n_ _) _))).set 1 _).drew
 have HA1:Hid (TkAt W1 (some ⟨g,o,none⟩) n xs):=by
  rw [hW1]
  exact (HA0.out.below ((b_ _ W0).alloc (n_ _) _)).mv (w':=((W0.alloc _).setCell ⟨b,1,none⟩ _).drew) (((Mv.refl b _).set 1 _).drew) HAB.out
 have hg2w:w.heap.size≤g2:=by have:=HB0.out.size;omega
 have hg12:¬g1=g2:=by have:=HX1.out.lt;omega
 have HW1E:=h_ hW1
 have HG2E:=h_ hg2
 clear hW0 hg1 hW1 hg2 h hA hAb HA0 hq hr ht ht1
 go_wp2_with fail
 go_region
 go_upto_region 3 with fail
 rw [←HW1E.out,←HG2E.out]
 have HLB:Hid (w.heap.size≤W1.heap.size):=World.grownBy.size HMV1.out
 have hne1:b≠g1:=by omega
 have hne2:b≠g2:=by omega
 clear HW1E HG2E r0 r1 r0' r1' f1' y3 x0 x1 x2 x3
 cases hs1:isSg t1 [40] with
 |false =>
  have HI:Hid (innP t.at_ (t1::r1)=.bad (wrC t1) t1.at_):=by show _=_;rw [innP_cons,if_neg (by rw [hs1];decide),wrongAt_eq]
  have HC:=h_ (HM2.out W1 HR1.out HA1.out hs1)
  clear hs1
  go_wp2_with fail
  refine HC.out.mono ?_
  rintro e w2 ⟨rfl,hr2,hm2⟩
  have HX1'':=h_ (HX1'.out.mv hm2 (Ne.symm hne1))
  have HX2'':=h_ (HX2.out.mv hm2 (Ne.symm hne2))
  have HR2:=h_ hr2
  have HM:=h_ (HMV1.out.trans hm2)
  have s3:=hr2.c3
  have hc0:(wrC t1==0)=false:=by rw [beq_eq_false_iff_ne];exact wrC_ne t1
  have a0:=HX1''.out.c0
  have a1:=HX1''.out.c1
  have a2:=HX1''.out.c2
  have a3:=HX1''.out.c3
  have a4:=HX1''.out.c4
  have a5:=HX1''.out.c5
  have f0:=HX1''.out.fr 0
  have f1:=HX1''.out.fr 1
  have f2:=HX1''.out.fr 2
  have f3:=HX1''.out.fr 3
  have f4:=HX1''.out.fr 4
  have f5:=HX1''.out.fr 5
  have d0:=HX2''.out.c0
  have d1:=HX2''.out.c1
  have d2:=HX2''.out.c2
  have d3:=HX2''.out.c3
  have d4:=HX2''.out.c4
  have d5:=HX2''.out.c5
  clear hr2 hm2
  go_wp2_with fail
  have HS:=HX1''.out.all ⟨3,0,⟨#[]⟩,0,none,0,0,t.at_⟩
  have HP:=six_put HM.out hg1w ⟨3,0,⟨#[]⟩,0,none,0,0,t.at_⟩
  have HQ:=HR2.out.mv (six_mv w2 g1 ⟨3,0,⟨#[]⟩,0,none,0,0,t.at_⟩) hne1
  unfold six at HS HP HQ
  dsimp only at HS HP HQ
  refine bodyPost_ret (XpB.res (v:=⟨3,0,⟨#[]⟩,0,none,0,0,t.at_⟩) rfl _ rfl HS) rfl ?_
  refine ⟨⟨3,0,⟨#[]⟩,0,none,0,0,t.at_⟩,rfl,?_,HP⟩
  rw [HI.out]
  exact ⟨wrC_ne t1,q+1,hqn1,HQ⟩
 |true =>
  have HI:Hid (innP t.at_ (t1::r1)=nameP t.at_ r1):=by show _=_;rw [innP_cons,if_pos hs1]
  have HC:=h_ (HM1.out W1 HR1.out HA1.out hs1)
  have ht1k:t1.kind≠5:=by
   intro e
   simp [isSg,e] at hs1
  obtain ⟨t2,r2,rfl⟩:=ends_cons (he.tail ht1k)
  obtain ⟨ht2,hql2,hr2⟩:=drop_get hr1
  have hqn2:q+1+1<n:=by rw [←HA1.out.1];exact hql2
  have HE2:=h_ (he.tail ht1k)
  clear hs1 HM1 HM2 he hr1
  go_wp2_with fail
  refine HC.out.mono ?_
  rintro e w2 ⟨rfl,hr2',hm2⟩
  have HX1'':=h_ (HX1'.out.mv hm2 (Ne.symm hne1))
  have HX2'':=h_ (HX2.out.mv hm2 (Ne.symm hne2))
  have HR2:=h_ hr2'
  have HM:=h_ (HMV1.out.trans hm2)
  have HA2:=h_ (HA1.out.mv hm2 HAB.out)
  obtain ⟨g',o',hgo,x0,x1,x2,x3⟩:=HA2.out.2 _ t2 ht2
  injection hgo with hgo
  injection hgo with hg_ ho_ _
  subst hg_ ho_
  have r0:=hr2'.c0
  have r1_:=hr2'.c1
  have s3:=hr2'.c3
  have rf1:=hr2'.fr 1
  obtain ⟨X,hX⟩:∃X,txV t2.text=.string X:=⟨_,rfl⟩
  have eX:X.data.toList=t2.text:=by
   unfold txV at hX
   injection hX with hX
   rw [←hX]
  rw [hX] at x1
  have hq2':((q+1+1:Nat):Int)<n:=by omega
  have hqb:q+1+1<1000000000:=by omega
  have a0:=HX1''.out.c0
  have a1:=HX1''.out.c1
  have a2:=HX1''.out.c2
  have a3:=HX1''.out.c3
  have a4:=HX1''.out.c4
  have a5:=HX1''.out.c5
  have f0:=HX1''.out.fr 0
  have f1:=HX1''.out.fr 1
  have f2:=HX1''.out.fr 2
  have f3:=HX1''.out.fr 3
  have f4:=HX1''.out.fr 4
  have f5:=HX1''.out.fr 5
  have d0:=HX2''.out.c0
  have d1:=HX2''.out.c1
  have d2:=HX2''.out.c2
  have d3:=HX2''.out.c3
  have d4:=HX2''.out.c4
  have d5:=HX2''.out.c5
  have df2:=HX2''.out.fr 2
  have HW:=h_ (fun (W:World) (hR:RdB W b (some ⟨g,o,none⟩) n c (q+1+1) d 0 0) (hA:TkAt W (some ⟨g,o,none⟩) n xs)=>ewrong_set W b n c (q+1+1) d (some ⟨g,o,none⟩) 0 xs t2 hR hA ht2)
  clear hr2' hm2 HX1' HX2 HR1 HMV1 HA1 HX1 HR0 HB0
  obtain ⟨dk,hdk⟩:∃dk,(t2.kind==1)=dk:=⟨_,rfl⟩
  go_wp2_with fail
  go_region
  cases dk with
  |false =>
   have hk:¬t2.kind=1:=beq_eq_false_iff_ne.1 hdk
   have HI2:Hid (nameP t.at_ (t2::r2)=.bad (wrC t2) t2.at_):=by show _=_;rw [nameP_cons,if_neg hk,wrongAt_eq]
   have HC2:=h_ (HW.out w2.drew HR2.out HA2.out)
   clear hdk
   go_wp2_with fail
   refine HC2.out.mono ?_
   rintro e w3 ⟨rfl,hr3,hm3⟩
   have HX1a:=h_ (HX1''.out.mv (Mv.trans ((Mv.refl b w2).drew) hm3) (Ne.symm hne1))
   have HX2a:=h_ (HX2''.out.mv (Mv.trans ((Mv.refl b w2).drew) hm3) (Ne.symm hne2))
   have HR3:=h_ hr3
   have HM3:=h_ ((HM.out.drew).trans hm3)
   have a0:=HX1a.out.c0
   have a1:=HX1a.out.c1
   have a2:=HX1a.out.c2
   have a3:=HX1a.out.c3
   have a4:=HX1a.out.c4
   have a5:=HX1a.out.c5
   have f0:=HX1a.out.fr 0
   have f1:=HX1a.out.fr 1
   have f2:=HX1a.out.fr 2
   have f3:=HX1a.out.fr 3
   have f4:=HX1a.out.fr 4
   have f5:=HX1a.out.fr 5
   have d0:=HX2a.out.c0
   have d1:=HX2a.out.c1
   have d2:=HX2a.out.c2
   have d3:=HX2a.out.c3
   have d4:=HX2a.out.c4
   have d5:=HX2a.out.c5
   clear hr3 hm3 HR2 HX1'' HX2'' HA2 HW HM
   go_wp2_with fail
   have HS:=HX1a.out.all ⟨3,0,⟨#[]⟩,0,none,0,0,t.at_⟩
   have HP:=six_put HM3.out hg1w ⟨3,0,⟨#[]⟩,0,none,0,0,t.at_⟩
   have HQ:=HR3.out.mv (six_mv w3 g1 ⟨3,0,⟨#[]⟩,0,none,0,0,t.at_⟩) hne1
   unfold six at HS HP HQ
   dsimp only at HS HP HQ
   refine bodyPost_ret (XpB.res (v:=⟨3,0,⟨#[]⟩,0,none,0,0,t.at_⟩) rfl _ rfl HS) rfl ?_
   refine ⟨⟨3,0,⟨#[]⟩,0,none,0,0,t.at_⟩,rfl,?_,HP⟩
   rw [HI.out,HI2.out]
   exact ⟨wrC_ne t2,q+1+1,hqn2,HQ⟩
  |true =>
   have hk:t2.kind=1:=by simpa using hdk
   have ht2k:t2.kind≠5:=by omega
   obtain ⟨t3,r3,rfl⟩:=ends_cons (HE2.out.tail ht2k)
   obtain ⟨ht3,hql3,hr3⟩:=drop_get hr2
   have hqn3:q+1+1+1<n:=by rw [←HA2.out.1];exact hql3
   have HE3:=h_ (HE2.out.tail ht2k)
   go_wp2_with fail
   go_region
   go_wp2_with fail
   obtain ⟨W3,hW3⟩:∃W,W=((w2.setCell ⟨g2,2,none⟩ (.string X)).setCell ⟨b,1,none⟩ (.int .i64 ((q:Int)+1+1+1))).drew.drew:=⟨_,rfl⟩
   rw [←hW3]
   have hm2a:Mv g2 w2 (w2.setCell ⟨g2,2,none⟩ (.string X)):=(Mv.refl g2 w2).set 2 _
   have hm2b:Mv b (w2.setCell ⟨g2,2,none⟩ (.string X)) W3:=by rw [hW3];exact (((Mv.refl b _).set 1 _).drew).drew
   have HX2b:Hid (XpB W3 g2 ⟨3,0,X,0,none,0,0,t.at_⟩):=by
    have h0:XpB (w2.setCell ⟨g2,2,none⟩ (.string X)) g2 ⟨3,0,X,0,none,0,0,t.at_⟩:=heap_setCell_same w2 g2 2 _ _ (.string X) HX2''.out
    exact h0.mv hm2b (Ne.symm hne2)
   have HX1b:Hid (XpB W3 g1 ev0):=(HX1''.out.mv hm2a hg12).mv hm2b (Ne.symm hne1)
   have HR3:Hid (RdB W3 b (some ⟨g,o,none⟩) n c (q+1+1+1) d 0 0):=by
    rw [hW3]
    have:=(HR2.out.mv hm2a hne2).set1 (q+1+1+1)
    rw [Int.natCast_add,Int.natCast_add,Int.natCast_add] at this
    exact this
   have HM3:Hid (Mv b w W3):=by
    rw [hW3]
    exact (((HM.out.put 2 g2 hg2w _).set 1 _).drew).drew
   have HA3:Hid (TkAt W3 (some ⟨g,o,none⟩) n xs):=(HA2.out.mv hm2a (fun g' o' e=>by
    injection e with e
    injection e with e _ _
    have:=HGL.out
    omega)).mv hm2b HAB.out
   clear hW3 hm2a hm2b HM HX1'' HX2'' HR2 HA2 HW hdk r0 r1_ s3 rf1 x0 x1 x2 x3 a0 a1 a2 a3 a4 a5 f0 f1 f2 f3 f4 f5 d0 d1 d2 d3 d4 d5 df2
   have HI2:Hid (nameP t.at_ (t2::t3::r3)=shutP (.inn t2.text t.at_) (t3::r3)):=by show _=_;rw [nameP_cons,if_pos hk]
   cases hs3:isSg t3 [41] with
   |false =>
    have HC3:=h_ (emust_no W3 b n c (q+1+1+1) d (some ⟨g,o,none⟩) 0 xs t3 ⟨#[41]⟩ HR3.out HA3.out ht3 hs3)
    have HI3:Hid (shutP (.inn t2.text t.at_) (t3::r3)=.bad (wrC t3) t3.at_):=by show _=_;rw [shutP_cons,if_neg (by rw [hs3];decide),wrongAt_eq]
    clear hs3
    ·refine HC3.out.mono ?_
     rintro e w4 ⟨rfl,hr4,hm4⟩
     have HX1a:=h_ (HX1b.out.mv hm4 (Ne.symm hne1))
     have HX2a:=h_ (HX2b.out.mv hm4 (Ne.symm hne2))
     have HR4:=h_ hr4
     have HM4:=h_ (HM3.out.trans hm4)
     have a0:=HX1a.out.c0
     have a1:=HX1a.out.c1
     have a2:=HX1a.out.c2
     have a3:=HX1a.out.c3
     have a4:=HX1a.out.c4
     have a5:=HX1a.out.c5
     have f0:=HX1a.out.fr 0
     have f1:=HX1a.out.fr 1
     have f2:=HX1a.out.fr 2
     have f3:=HX1a.out.fr 3
     have f4:=HX1a.out.fr 4
     have f5:=HX1a.out.fr 5
     have d0:=HX2a.out.c0
     have d1:=HX2a.out.c1
     have d2:=HX2a.out.c2
     have d3:=HX2a.out.c3
     have d4:=HX2a.out.c4
     have d5:=HX2a.out.c5
     clear hr4 hm4 HX1b HX2b
     go_wp2_with fail
     have HS:=HX1a.out.all ⟨3,0,X,0,none,0,0,t.at_⟩
     have HP:=six_put HM4.out hg1w ⟨3,0,X,0,none,0,0,t.at_⟩
     have HQ:=HR4.out.mv (six_mv w4 g1 ⟨3,0,X,0,none,0,0,t.at_⟩) hne1
     unfold six at HS HP HQ
     dsimp only at HS HP HQ
     refine bodyPost_ret (XpB.res (v:=⟨3,0,X,0,none,0,0,t.at_⟩) rfl _ rfl HS) rfl ?_
     refine ⟨⟨3,0,X,0,none,0,0,t.at_⟩,rfl,?_,HP⟩
     rw [HI.out,HI2.out]
     rw [HI3.out]
     exact ⟨wrC_ne t3,q+1+1+1,hqn3,HQ⟩
   |true =>
    have HC3:=h_ (emust_yes W3 b n c (q+1+1+1) d (some ⟨g,o,none⟩) 0 xs t3 ⟨#[41]⟩ HR3.out HA3.out ht3 hs3 hn)
    have HI3:Hid (shutP (.inn t2.text t.at_) (t3::r3)=.ok (.inn t2.text t.at_) r3):=by show _=_;rw [shutP_cons,if_pos hs3]
    have ht3k:t3.kind≠5:=by
     intro e
     simp [isSg,e] at hs3
    have HE4:=h_ (HE3.out.tail ht3k)
    obtain ⟨t4,r4,hr4e⟩:=ends_cons HE4.out
    have hqn4:q+1+1+1+1<n:=by rw [←HA3.out.1];exact (drop_get (hr3.trans hr4e)).2.1
    clear hs3
    ·refine HC3.out.mono ?_
     rintro e w4 ⟨rfl,hr4,hm4⟩
     have HX1a:=h_ (HX1b.out.mv hm4 (Ne.symm hne1))
     have HX2a:=h_ (HX2b.out.mv hm4 (Ne.symm hne2))
     have HR4:=h_ hr4
     have HM4:=h_ (HM3.out.trans hm4)
     have a0:=HX1a.out.c0
     have a1:=HX1a.out.c1
     have a2:=HX1a.out.c2
     have a3:=HX1a.out.c3
     have a4:=HX1a.out.c4
     have a5:=HX1a.out.c5
     have f0:=HX1a.out.fr 0
     have f1:=HX1a.out.fr 1
     have f2:=HX1a.out.fr 2
     have f3:=HX1a.out.fr 3
     have f4:=HX1a.out.fr 4
     have f5:=HX1a.out.fr 5
     have d0:=HX2a.out.c0
     have d1:=HX2a.out.c1
     have d2:=HX2a.out.c2
     have d3:=HX2a.out.c3
     have d4:=HX2a.out.c4
     have d5:=HX2a.out.c5
     clear hr4 hm4 HX1b HX2b
     go_wp2_with fail
     have HS:=HX1a.out.all ⟨3,0,X,0,none,0,0,t.at_⟩
     have HP:=six_put HM4.out hg1w ⟨3,0,X,0,none,0,0,t.at_⟩
     have HQ:=HR4.out.mv (six_mv w4 g1 ⟨3,0,X,0,none,0,0,t.at_⟩) hne1
     unfold six at HS HP HQ
     dsimp only at HS HP HQ
     refine bodyPost_ret (XpB.res (v:=⟨3,0,X,0,none,0,0,t.at_⟩) rfl _ rfl HS) rfl ?_
     refine ⟨⟨3,0,X,0,none,0,0,t.at_⟩,rfl,?_,HP⟩
     rw [HI.out,HI2.out]
     rw [HI3.out]
     refine ⟨?_,HE4.out,q+1+1+1+1,hqn4,hr3,HQ⟩
     have:=GV.leaf (((((((w4.setCell ⟨g1,0,none⟩ (.int .i64 3)).setCell ⟨g1,1,none⟩ (.int .i64 0)).setCell ⟨g1,2,none⟩ (.string X)).setCell ⟨g1,3,none⟩ (.int .i64 0)).setCell ⟨g1,4,none⟩ (.slice none 0 0)).setCell ⟨g1,5,none⟩ (.int .i64 t.at_))) w.heap.size (((((((w4.setCell ⟨g1,0,none⟩ (.int .i64 3)).setCell ⟨g1,1,none⟩ (.int .i64 0)).setCell ⟨g1,2,none⟩ (.string X)).setCell ⟨g1,3,none⟩ (.int .i64 0)).setCell ⟨g1,4,none⟩ (.slice none 0 0)).setCell ⟨g1,5,none⟩ (.int .i64 t.at_))).heap.size 3 0 0 t.at_ X
     rw [eX] at this
     exact this
def EOne (m:Nat):Prop:=∀(w:World) (b n c q d:Nat) (A:Option Addr) (xs r:List Tk),r.length≤m→RdB w b A n c q d 0 0→TkAt w A n xs→(∀g o,A=some ⟨g,o,none⟩→g≠b)→xs.drop q=r→TkEnds r→n≤1000000000→d≤20 →
  Calls Tryz.prog 120 #[.pointer (some ⟨b,0,none⟩)] w fun e w'=>∃v:EV,e=.returned v.val∧RP w' w.heap.size b n c d A xs v (Po d r)∧Mv b w w'
def EFrom (m k:Nat):Prop:=∀(w:World) (b n c q d:Nat) (A:Option Addr) (xs r:List Tk),r.length≤m→RdB w b A n c q d 0 0→TkAt w A n xs→(∀g o,A=some ⟨g,o,none⟩→g≠b)→xs.drop q=r→TkEnds r→n≤1000000000→d≤20 →
  Calls Tryz.prog 111 #[.pointer (some ⟨b,0,none⟩),.int .i64 (k:Int)] w fun e w'=>∃v:EV,e=.returned v.val∧RP w' w.heap.size b n c d A xs v (Pf k d r)∧Mv b w w'
theorem RP.rd {w':World} {lo b n c d:Nat} {A:Option Addr} {xs:List Tk} {v:EV} {e:PR} (h:RP w' lo b n c d A xs v e):∃q code pos,q<n∧RdB w' b A n c q d code pos:=by
 cases e with
 |out=>exact absurd h (by intro h;exact h)
 |ok x r=>obtain ⟨_,_,q,hq,_,hr⟩:=h;exact ⟨q,0,0,hq,hr⟩
 |bad code p=>obtain ⟨_,q,hq,hr⟩:=h;exact ⟨q,code,p,hq,hr⟩
def xob (v:EV):Obj:=.cells #[.int .i64 v.kind,.int .i64 v.num,.string v.name,.int .i64 v.op,.slice v.A v.len v.cap,.int .i64 v.p] 54
theorem RP.one {W:World} {lo lo' b n c d g:Nat} {A:Option Addr} {xs:List Tk} {v:EV} {e:PR} (h:RP W lo' b n c (d+1) A xs v e) (hb:b<lo') (hg:g<lo') (hlo:lo≤lo') (h5:lo'≤W.heap.size) (hne:b≠g) (op p:Int) :
  RP (six (((W.setCell ⟨b,2,none⟩ (.int .i64 (d:Int))).alloc (xob v)).alloc (xob v)) g ⟨4,0,⟨#[]⟩,op,some ⟨W.heap.size+1,0,none⟩,1,1,p⟩) lo b n c d A xs ⟨4,0,⟨#[]⟩,op,some ⟨W.heap.size+1,0,none⟩,1,1,p⟩
   (e.andThen fun x r'=>.ok (.one op x p) r'):=by
 cases e with
 |out=>exact absurd h (by intro h;exact h)
 |bad code q =>
  obtain ⟨hc,q',hq,hr⟩:=h
  exact ⟨hc,q',hq,(((hr.set2 d).alloc _).alloc _).mv (six_mv _ g _) hne⟩
 |ok x r =>
  obtain ⟨hv,he,q',hq,hx,hr⟩:=h
  refine ⟨?_,he,q',hq,hx,(((hr.set2 d).alloc _).alloc _).mv (six_mv _ g _) hne⟩
  have hm:Mv b W (W.setCell ⟨b,2,none⟩ (.int .i64 (d:Int))):=(Mv.refl b W).set 2 _
  have h1:=hv.mv hm hb
  have hs1:=World.grownBy.size hm
  obtain ⟨W1,hW1⟩:∃W1,W1=W.setCell ⟨b,2,none⟩ (.int .i64 (d:Int)):=⟨_,rfl⟩
  have hsz:W1.heap.size=W.heap.size:=by rw [hW1];simp [World.setCell]
  rw [←hW1] at h1 hs1 ⊢
  have h2:GV (W1.alloc (xob v)) lo' (W1.alloc (xob v)).heap.size x.gx v:=(h1.below ((b_ _ W1).alloc (n_ _) _) (n_ _)).mono (n_ _) (by simp)
  have hsz2:(W1.alloc (xob v)).heap.size=W.heap.size+1:=by simp [hsz]
  have h3:=h2.one_new (by omega) 54 op p
  rw [hsz2] at h3
  have h4:GV ((W1.alloc (xob v)).alloc (xob v)) lo' ((W1.alloc (xob v)).alloc (xob v)).heap.size (.mk 4 0 [] op [x.gx] p) ⟨4,0,⟨#[]⟩,op,some ⟨W.heap.size+1,0,none⟩,1,1,p⟩:=by
   have e:((W1.alloc (xob v)).alloc (xob v)).heap.size=W.heap.size+1+1:=by simp [hsz]
   rw [e]
   exact h3
  exact (h4.mv (six_mv _ g _) hg).mono hlo (n_ _)
theorem RP.put {W:World} {lo lo' b n c d g:Nat} {A:Option Addr} {xs:List Tk} {v:EV} {e:PR} (h:RP W lo' b n c d A xs v e) (hg:g<lo') (hlo:lo≤lo') (hne:b≠g):RP (six W g v) lo b n c d A xs v e:=by
 cases e with
 |out=>exact absurd h (by intro h;exact h)
 |bad code q =>
  obtain ⟨hc,q',hq,hr⟩:=h
  exact ⟨hc,q',hq,hr.mv (six_mv _ g _) hne⟩
 |ok x r =>
  obtain ⟨hv,he,q',hq,hx,hr⟩:=h
  exact ⟨(hv.mv (six_mv _ g _) hg).mono hlo (n_ _),he,q',hq,hx,hr.mv (six_mv _ g _) hne⟩
theorem RP.alloc {W:World} {lo b n c d:Nat} {A:Option Addr} {xs:List Tk} {v:EV} {e:PR} (h:RP W lo b n c d A xs v e) (ob:Obj):RP (W.alloc ob) lo b n c d A xs v e:=by
 cases e with
 |out=>exact absurd h (by intro h;exact h)
 |bad code q =>
  obtain ⟨hc,q',hq,hr⟩:=h
  exact ⟨hc,q',hq,hr.alloc _⟩
 |ok x r =>
  obtain ⟨hv,he,q',hq,hx,hr⟩:=h
  exact ⟨(hv.below ((b_ _ W).alloc (n_ _) _) (n_ _)).mono (n_ _) (by simp),he,q',hq,hx,hr.alloc _⟩
theorem RP.up {W:World} {lo b n c d:Nat} {A:Option Addr} {xs:List Tk} {v:EV} {e:PR} (h:RP W lo b n c (d+1) A xs v e) (hb:b<lo):RP (W.setCell ⟨b,2,none⟩ (.int .i64 (d:Int))) lo b n c d A xs v e:=by
 cases e with
 |out=>exact absurd h (by intro h;exact h)
 |bad code q =>
  obtain ⟨hc,q',hq,hr⟩:=h
  exact ⟨hc,q',hq,hr.set2 d⟩
 |ok x r =>
  obtain ⟨hv,he,q',hq,hx,hr⟩:=h
  exact ⟨hv.mv ((Mv.refl b W).set 2 _) hb,he,q',hq,hx,hr.set2 d⟩
theorem emust_rp {W:World} {lo b n c d:Nat} {A:Option Addr} {xs:List Tk} {v:EV} {e:PR} (h:RP W lo b n c d A xs v e) (hA:TkAt W A n xs) (hb:b<lo) (hn:n≤1000000000) :
  Calls Tryz.prog 130 #[.pointer (some ⟨b,0,none⟩),.string ⟨#[41]⟩] W fun e' w'=>e'=.returned (.tuple #[])∧RP w' lo b n c d A xs v (e.andThen fun x r=>shutP x r)∧Mv b W w':=by
 cases e with
 |out=>exact absurd h (by intro h;exact h)
 |bad code p =>
  obtain ⟨hc,q',hq,hr⟩:=h
  obtain ⟨t,ht⟩:=hA.get hq
  refine (emust_not W b n c q' d A code p xs t ⟨#[41]⟩ hr hc hA ht).mono ?_
  rintro e w1 ⟨rfl,h1,h2⟩
  exact ⟨rfl,⟨hc,q',hq,h1⟩,h2⟩
 |ok x r =>
  obtain ⟨hv,he,q',hq,hx,hr⟩:=h
  obtain ⟨t,r,rfl⟩:=ends_cons he
  obtain ⟨ht,hql,hr'⟩:=drop_get hx
  show Calls _ _ _ _ fun e' w'=>e'=_∧RP w' lo b n c d A xs v (shutP x (t::r))∧_
  rw [shutP_cons]
  cases hs:isSg t [41] with
  |false =>
   rw [if_neg (by decide),wrongAt_eq]
   refine (emust_no W b n c q' d A 0 xs t ⟨#[41]⟩ hr hA ht hs).mono ?_
   rintro e w1 ⟨rfl,h1,h2⟩
   exact ⟨rfl,⟨wrC_ne t,q',hq,h1⟩,h2⟩
  |true =>
   rw [if_pos rfl]
   have htk:t.kind≠5:=by
    intro e
    simp [isSg,e] at hs
   obtain ⟨t1,r1,e1⟩:=ends_cons (he.tail htk)
   have hqn1:q' + 1<n:=by rw [←hA.1];exact (drop_get (hr'.trans e1)).2.1
   refine (emust_yes W b n c q' d A 0 xs t ⟨#[41]⟩ hr hA ht hs hn).mono ?_
   rintro e w1 ⟨rfl,h1,h2⟩
   exact ⟨rfl,⟨hv.mv h2 hb,he.tail htk,q' + 1,hqn1,hr',h1⟩,h2⟩
theorem eone_any (m:Nat) (IH1:EOne m) (IH0:EFrom m 0):EOne (m+1):=by
 intro w b n c q d A xs r hm h hA hAb hq he hn hd
 obtain ⟨t,r,rfl⟩:=ends_cons he
 obtain ⟨ht,hql,hr⟩:=drop_get hq
 have hqn:q<n:=by rw [←hA.1];exact hql
 have hS:=h_ (fun (W:World) (hb:Below w.heap.size w W) (S:ByteArray)=>esign_any W b n c q d A 0 0 xs t S (h.below hb) (hA.below hb) ht)
 have HH:=h_ (fun (W:World) (hb:Below w.heap.size w W)=>h.below hb)
 have HHA:=h_ (fun (W:World) (hb:Below w.heap.size w W)=>hA.below hb)
 have HAB:=h_ hAb
 obtain ⟨g,o,hAe,x0,x1,x2,x3⟩:=hA.2 q t ht
 obtain ⟨X,hX⟩:∃X,txV t.text=.string X:=⟨_,rfl⟩
 have eX:X.data.toList=t.text:=by
  unfold txV at hX
  injection hX with hX
  rw [←hX]
 rw [hX] at x1
 obtain ⟨W0,hW0⟩:∃W0,W0=w.alloc (.cells #[.int .i64 0,.int .i64 0,.string ⟨#[]⟩,.int .i64 0,.slice none 0 0,.int .i64 0] 54):=⟨_,rfl⟩
 obtain ⟨g1,hg1⟩:∃g,g=w.heap.size:=⟨_,rfl⟩
 have HX1:Hid (XpB W0 g1 ev0):=by rw [hW0,hg1];exact XpB.new w ev0
 have HB0:Hid (Below w.heap.size w W0):=by rw [hW0];exact (b_ _ w).alloc (n_ _) _
 have hbw:b<w.heap.size:=h.lt
 have hg1w:w.heap.size≤g1:=by omega
 have hne1:b≠g1:=by omega
 have hgw:g<w.heap.size:=World.block_lt_of_cell? w _ x0
 have kb:∀{p:Addr} {u:Value},w.cell? p=some u→W0.cell? p=some u:=fun hc=>by rw [hW0,World.cell?_alloc_lt _ _ _ (World.block_lt_of_cell? w _ hc)];exact hc
 have ka:∀{p:Addr} {u:Value},w.cell? p=some u→∀ob:Obj,(W0.alloc ob).cell? p=some u:=fun hc ob=>by rw [World.cell?_alloc_lt _ _ _ (World.block_lt_of_cell? W0 _ (kb hc))];exact kb hc
 have r0:=kb h.c0
 have r1:=kb h.c1
 have r0':=ka h.c0
 have r1':=ka h.c1
 have y0:=ka x0
 have y1:=ka x1
 have y2:=ka x2
 have y3:=ka x3
 replace x0:=kb x0
 replace x1:=kb x1
 replace x2:=kb x2
 replace x3:=kb x3
 clear ka kb
 have hq':(q:Int)<n:=by omega
 subst hAe
 have HQR:=h_ hr
 have HTT:=h_ ht
 have HQ0:=h_ hq
 have HM:=h_ hm
 have HE:=h_ (fun (hk:t.kind≠5)=>he.tail hk)
 clear h hA hAb hq hr ht hm he
 go_enter Tryz.func120,Tryz.ntmps120
 go_upto_region 1 with fail
 rw [←hW0,←hg1]
 clear hW0 hg1
 go_wp2_with fail
 go_region
 obtain ⟨g2,hg2⟩:∃g,g=W0.heap.size:=⟨_,rfl⟩
 obtain ⟨W1,hW1⟩:∃W,W=(W0.alloc (.cells #[.int .i64 t.kind,.string X,.int .i64 t.num,.int .i64 t.at_] 45)).drew:=⟨_,rfl⟩
 rw [←hW1,←hg2]
 have HT1:Hid (TkB W1 g2 (.int .i64 t.kind) (.string X) (.int .i64 t.num) (.int .i64 t.at_)):=by
  rw [hW1,hg2]
  exact TkB.new W0 _ _ _ _
 have HX1':Hid (XpB W1 g1 ev0):=by rw [hW1];exact HX1.out.alloc _
 have HB1:Hid (Below w.heap.size w W1):=by rw [hW1];exact (HB0.out.alloc HB0.out.size _).drew
 have hne2:b≠g2:=by have:=HB0.out.size;omega
 have hg2w:w.heap.size≤g2:=by have:=HB0.out.size;omega
 have hg12:¬g1=g2:=by have:=HX1.out.lt;omega
 clear hW1 hg2 HX1 HB0 r0 r1 r0' r1' x0 x1 x2 x3 y0 y1 y2 y3
 go_wp2_with fail
 refine (hS.out W1 HB1.out ⟨#[45]⟩).mono ?_
 rintro e W2 ⟨rfl,hb2⟩
 have HT2:=h_ (HT1.out.below hb2)
 have HX2:=h_ (HX1'.out.below hb2)
 have HB2:=h_ (HB1.out.trans (hb2.mono HB1.out.size))
 clear hb2 HT1 HX1' HB1
 go_wp2_with fail
 refine (hS.out W2 HB2.out ⟨#[33]⟩).mono ?_
 rintro e W3 ⟨rfl,hb3⟩
 have HT3:=h_ (HT2.out.below hb3)
 have HX3:=h_ (HX2.out.below hb3)
 have HB3:=h_ (HB2.out.trans (hb3.mono HB2.out.size))
 clear hb3 HT2 HX2 HB2
 go_wp2_with fail
 refine (hS.out W3 HB3.out ⟨#[40]⟩).mono ?_
 rintro e W4 ⟨rfl,hb4⟩
 have HT4:=h_ (HT3.out.below hb4)
 have HX4:=h_ (HX3.out.below hb4)
 have HB4:=h_ (HB3.out.trans (hb4.mono HB3.out.size))
 have HR4:=h_ (HH.out W4 HB4.out)
 have HA4:=h_ (HHA.out W4 HB4.out)
 clear hb4 HT3 HX3 HB3 HH HHA hS
 have s3:=HR4.out.c3
 have r1:=HR4.out.c1
 have rf1:=HR4.out.fr 1
 have y0:=HT4.out.c0
 have y1:=HT4.out.c1
 have y2:=HT4.out.c2
 have y3:=HT4.out.c3
 obtain ⟨n1,hn1⟩:∃n1,isSg t [45]=n1:=⟨_,rfl⟩
 obtain ⟨n2,hn2⟩:∃n2,isSg t [33]=n2:=⟨_,rfl⟩
 obtain ⟨n3,hn3⟩:∃n3,isSg t [40]=n3:=⟨_,rfl⟩
 have HAY:=h_ (HA4.out)
 have HMV4:=h_ (Mv.of b HB4.out)
 dsimp only
 rw [hn1,hn2,hn3]
 have a0:=HX4.out.c0
 have a1:=HX4.out.c1
 have a2:=HX4.out.c2
 have a3:=HX4.out.c3
 have a4:=HX4.out.c4
 have a5:=HX4.out.c5
 have f0:=HX4.out.fr 0
 have f1:=HX4.out.fr 1
 have f2:=HX4.out.fr 2
 have f3:=HX4.out.fr 3
 have f4:=HX4.out.fr 4
 have f5:=HX4.out.fr 5
 clear HAY
 cases n1 with
 |true =>
  cases n2 with
  |true =>
   exfalso
   simp [isSg] at hn1 hn2
   have:=hn1.2.symm.trans hn2.2
   simp at this
  |false =>
   rcases Nat.lt_or_ge d 20 with hd20|hd20
   ·have HD:=h_ (edown_yes W4 b n c q d (some ⟨g,o,none⟩) 0 HR4.out hd20 (by omega))
    clear y0 y1 y2 y3 r1 rf1 HR4 a0 a1 a2 a3 a4 a5 f0 f1 f2 f3 f4 f5
    go_wp2_with fail
    refine HD.out.mono ?_
    rintro e W5 ⟨rfl,hr5,hm5⟩
    have HR5:=h_ hr5
    have HX5:=h_ (HX4.out.mv hm5 (Ne.symm hne1))
    have HT5:=h_ (HT4.out.mv hm5 (Ne.symm hne2))
    have HA5:=h_ (HA4.out.mv hm5 HAB.out)
    have HM5:=h_ (HMV4.out.trans hm5)
    have htk:t.kind≠5:=by
     intro e
     simp [isSg,e] at hn1
    have hg15:g1<W5.heap.size:=HX5.out.lt
    have hb5:b<W5.heap.size:=HR5.out.lt
    have hw5:w.heap.size≤W5.heap.size:=World.grownBy.size HM5.out
    have HC:=h_ (IH1 W5 b n c (q+1) (d+1) (some ⟨g,o,none⟩) xs r (by have:=HM.out;simp only [List.length_cons] at this;omega) HR5.out HA5.out HAB.out HQR.out (HE.out htk) hn (by omega))
    clear hr5 hm5 HX4 HT4 HA4 HMV4 HD s3
    go_wp2_with fail
    refine HC.out.mono ?_
    rintro e W6 ⟨v,rfl,hp6,hm6⟩
    have HP6:=h_ hp6
    obtain ⟨q6,c6,p6,hq6,hr6⟩:=hp6.rd
    have HR6:=h_ hr6
    have HX6:=h_ (HX5.out.mv hm6 (Ne.symm hne1))
    have HT6:=h_ (HT5.out.mv hm6 (Ne.symm hne2))
    have HM6:=h_ (HM5.out.trans hm6)
    have h56:W5.heap.size≤W6.heap.size:=World.grownBy.size hm6
    have r2:∀ob:Obj,(W6.alloc ob).cell? ⟨b,2,none⟩=some (.int .i64 ((d+1:Nat):Int)):=fun ob=>(hr6.alloc ob).c2
    have rf2:∀ob:Obj,(W6.alloc ob).frozen? ⟨b,2,none⟩=false:=fun ob=>(hr6.alloc ob).fr 2
    rw [Int.natCast_add] at r2
    have hdd:((d:Int)+1)≤20:=by omega
    have hbs:b<W6.heap.size:=hr6.lt
    have hT7:∀ob ob':Obj,TkB (((W6.setCell ⟨b,2,none⟩ (.int .i64 (d:Int))).alloc ob).alloc ob') g2 _ _ _ _:=fun ob ob'=>((HT6.out.mv ((Mv.refl b W6).set 2 _) (Ne.symm hne2)).alloc ob).alloc ob'
    have hX7:∀ob ob':Obj,XpB (((W6.setCell ⟨b,2,none⟩ (.int .i64 (d:Int))).alloc ob).alloc ob') g1 ev0:=fun ob ob'=>((HX6.out.mv ((Mv.refl b W6).set 2 _) (Ne.symm hne1)).alloc ob).alloc ob'
    have y3:=fun ob ob'=>(hT7 ob ob').c3
    have a0:=fun ob ob'=>(hX7 ob ob').c0
    have a1:=fun ob ob'=>(hX7 ob ob').c1
    have a2:=fun ob ob'=>(hX7 ob ob').c2
    have a3:=fun ob ob'=>(hX7 ob ob').c3
    have a4:=fun ob ob'=>(hX7 ob ob').c4
    have a5:=fun ob ob'=>(hX7 ob ob').c5
    have f0:=fun ob ob'=>(hX7 ob ob').fr 0
    have f1:=fun ob ob'=>(hX7 ob ob').fr 1
    have f2:=fun ob ob'=>(hX7 ob ob').fr 2
    have f3:=fun ob ob'=>(hX7 ob ob').fr 3
    have f4:=fun ob ob'=>(hX7 ob ob').fr 4
    have f5:=fun ob ob'=>(hX7 ob ob').fr 5
    have HX7:=h_ hX7
    clear hT7 hX7 hp6 hr6 hm6 HX5 HT5 HA5 HR5 HM5
    have hvv:v.val=.agg #[.int .i64 v.kind,.int .i64 v.num,.string v.name,.int .i64 v.op,.slice v.A v.len v.cap,.int .i64 v.p]:=rfl
    rw [hvv]
    go_wp2_with fail
    have HS:=(HX7.out (xob v) (xob v)).all ⟨4,0,⟨#[]⟩,14,some ⟨W6.heap.size+1,0,none⟩,1,1,t.at_⟩
    have hM7:Mv b w (((W6.setCell ⟨b,2,none⟩ (.int .i64 (d:Int))).alloc (xob v)).alloc (xob v)):=((HM6.out.set 2 _).trans (Mv.of b ((b_ _ _).alloc (n_ _) _))).trans (Mv.of b ((b_ _ _).alloc (n_ _) _))
    have HP:=six_put hM7 hg1w ⟨4,0,⟨#[]⟩,14,some ⟨W6.heap.size+1,0,none⟩,1,1,t.at_⟩
    have HQ:=HP6.out.one hb5 hg15 hw5 h56 hne1 14 t.at_
    unfold six xob at HS HP HQ
    dsimp only at HS HP HQ
    refine bodyPost_ret (XpB.res (v:=⟨4,0,⟨#[]⟩,14,some ⟨W6.heap.size+1,0,none⟩,1,1,t.at_⟩) rfl _ rfl HS) rfl ?_
    refine ⟨⟨4,0,⟨#[]⟩,14,some ⟨W6.heap.size+1,0,none⟩,1,1,t.at_⟩,rfl,?_,HP⟩
    rw [Po_cons,if_pos (Or.inl hn1),if_neg (by omega),if_neg (by rw [hn2];decide)]
    exact HQ
   ·have hd':d=20:=by omega
    subst hd'
    have HD:=h_ (edown_no W4 b n c q (some ⟨g,o,none⟩) 0 xs t HR4.out HA4.out HTT.out)
    clear y0 y1 y2 y3 r1 rf1 HR4 a0 a1 a2 a3 a4 a5 f0 f1 f2 f3 f4 f5
    go_wp2_with fail
    refine HD.out.mono ?_
    rintro e W5 ⟨rfl,hr5,hm5⟩
    have HR5:=h_ hr5
    have HX5:=h_ (HX4.out.mv hm5 (Ne.symm hne1))
    have HM5:=h_ (HMV4.out.trans hm5)
    have a0:=HX5.out.c0
    have a1:=HX5.out.c1
    have a2:=HX5.out.c2
    have a3:=HX5.out.c3
    have a4:=HX5.out.c4
    have a5:=HX5.out.c5
    have f0:=HX5.out.fr 0
    have f1:=HX5.out.fr 1
    have f2:=HX5.out.fr 2
    have f3:=HX5.out.fr 3
    have f4:=HX5.out.fr 4
    have f5:=HX5.out.fr 5
    clear hr5 hm5 HX4 HT4 HA4 HMV4 HD s3
    go_wp2_with fail
    have HS:=HX5.out.all ⟨0,0,⟨#[]⟩,0,none,0,0,0⟩
    have HP:=six_put HM5.out hg1w ⟨0,0,⟨#[]⟩,0,none,0,0,0⟩
    have HQ:=HR5.out.mv (six_mv W5 g1 ⟨0,0,⟨#[]⟩,0,none,0,0,0⟩) hne1
    unfold six at HS HP HQ
    dsimp only at HS HP HQ
    refine bodyPost_ret (XpB.res (v:=⟨0,0,⟨#[]⟩,0,none,0,0,0⟩) rfl _ rfl HS) rfl ?_
    refine ⟨⟨0,0,⟨#[]⟩,0,none,0,0,0⟩,rfl,?_,HP⟩
    rw [Po_cons,if_pos (Or.inl hn1),if_pos rfl]
    exact ⟨by decide,q,hqn,HQ⟩
 |false =>
  cases n2 with
  |true =>
   rcases Nat.lt_or_ge d 20 with hd20|hd20
   ·have HD:=h_ (edown_yes W4 b n c q d (some ⟨g,o,none⟩) 0 HR4.out hd20 (by omega))
    clear y0 y1 y2 y3 r1 rf1 HR4 a0 a1 a2 a3 a4 a5 f0 f1 f2 f3 f4 f5
    go_wp2_with fail
    refine HD.out.mono ?_
    rintro e W5 ⟨rfl,hr5,hm5⟩
    have HR5:=h_ hr5
    have HX5:=h_ (HX4.out.mv hm5 (Ne.symm hne1))
    have HT5:=h_ (HT4.out.mv hm5 (Ne.symm hne2))
    have HA5:=h_ (HA4.out.mv hm5 HAB.out)
    have HM5:=h_ (HMV4.out.trans hm5)
    have htk:t.kind≠5:=by
     intro e
     simp [isSg,e] at hn2
    have hg15:g1<W5.heap.size:=HX5.out.lt
    have hb5:b<W5.heap.size:=HR5.out.lt
    have hw5:w.heap.size≤W5.heap.size:=World.grownBy.size HM5.out
    have HC:=h_ (IH1 W5 b n c (q+1) (d+1) (some ⟨g,o,none⟩) xs r (by have:=HM.out;simp only [List.length_cons] at this;omega) HR5.out HA5.out HAB.out HQR.out (HE.out htk) hn (by omega))
    clear hr5 hm5 HX4 HT4 HA4 HMV4 HD s3
    go_wp2_with fail
    refine HC.out.mono ?_
    rintro e W6 ⟨v,rfl,hp6,hm6⟩
    have HP6:=h_ hp6
    obtain ⟨q6,c6,p6,hq6,hr6⟩:=hp6.rd
    have HR6:=h_ hr6
    have HX6:=h_ (HX5.out.mv hm6 (Ne.symm hne1))
    have HT6:=h_ (HT5.out.mv hm6 (Ne.symm hne2))
    have HM6:=h_ (HM5.out.trans hm6)
    have h56:W5.heap.size≤W6.heap.size:=World.grownBy.size hm6
    have r2:∀ob:Obj,(W6.alloc ob).cell? ⟨b,2,none⟩=some (.int .i64 ((d+1:Nat):Int)):=fun ob=>(hr6.alloc ob).c2
    have rf2:∀ob:Obj,(W6.alloc ob).frozen? ⟨b,2,none⟩=false:=fun ob=>(hr6.alloc ob).fr 2
    rw [Int.natCast_add] at r2
    have hdd:((d:Int)+1)≤20:=by omega
    have hbs:b<W6.heap.size:=hr6.lt
    have hT7:∀ob ob':Obj,TkB (((W6.setCell ⟨b,2,none⟩ (.int .i64 (d:Int))).alloc ob).alloc ob') g2 _ _ _ _:=fun ob ob'=>((HT6.out.mv ((Mv.refl b W6).set 2 _) (Ne.symm hne2)).alloc ob).alloc ob'
    have hX7:∀ob ob':Obj,XpB (((W6.setCell ⟨b,2,none⟩ (.int .i64 (d:Int))).alloc ob).alloc ob') g1 ev0:=fun ob ob'=>((HX6.out.mv ((Mv.refl b W6).set 2 _) (Ne.symm hne1)).alloc ob).alloc ob'
    have y3:=fun ob ob'=>(hT7 ob ob').c3
    have a0:=fun ob ob'=>(hX7 ob ob').c0
    have a1:=fun ob ob'=>(hX7 ob ob').c1
    have a2:=fun ob ob'=>(hX7 ob ob').c2
    have a3:=fun ob ob'=>(hX7 ob ob').c3
    have a4:=fun ob ob'=>(hX7 ob ob').c4
    have a5:=fun ob ob'=>(hX7 ob ob').c5
    have f0:=fun ob ob'=>(hX7 ob ob').fr 0
    have f1:=fun ob ob'=>(hX7 ob ob').fr 1
    have f2:=fun ob ob'=>(hX7 ob ob').fr 2
    have f3:=fun ob ob'=>(hX7 ob ob').fr 3
    have f4:=fun ob ob'=>(hX7 ob ob').fr 4
    have f5:=fun ob ob'=>(hX7 ob ob').fr 5
    have HX7:=h_ hX7
    clear hT7 hX7 hp6 hr6 hm6 HX5 HT5 HA5 HR5 HM5
    have hvv:v.val=.agg #[.int .i64 v.kind,.int .i64 v.num,.string v.name,.int .i64 v.op,.slice v.A v.len v.cap,.int .i64 v.p]:=rfl
    rw [hvv]
    go_wp2_with fail
    have HS:=(HX7.out (xob v) (xob v)).all ⟨4,0,⟨#[]⟩,15,some ⟨W6.heap.size+1,0,none⟩,1,1,t.at_⟩
    have hM7:Mv b w (((W6.setCell ⟨b,2,none⟩ (.int .i64 (d:Int))).alloc (xob v)).alloc (xob v)):=((HM6.out.set 2 _).trans (Mv.of b ((b_ _ _).alloc (n_ _) _))).trans (Mv.of b ((b_ _ _).alloc (n_ _) _))
    have HP:=six_put hM7 hg1w ⟨4,0,⟨#[]⟩,15,some ⟨W6.heap.size+1,0,none⟩,1,1,t.at_⟩
    have HQ:=HP6.out.one hb5 hg15 hw5 h56 hne1 15 t.at_
    unfold six xob at HS HP HQ
    dsimp only at HS HP HQ
    refine bodyPost_ret (XpB.res (v:=⟨4,0,⟨#[]⟩,15,some ⟨W6.heap.size+1,0,none⟩,1,1,t.at_⟩) rfl _ rfl HS) rfl ?_
    refine ⟨⟨4,0,⟨#[]⟩,15,some ⟨W6.heap.size+1,0,none⟩,1,1,t.at_⟩,rfl,?_,HP⟩
    rw [Po_cons,if_pos (Or.inr hn2),if_neg (by omega),if_pos hn2]
    exact HQ
   ·have hd':d=20:=by omega
    subst hd'
    have HD:=h_ (edown_no W4 b n c q (some ⟨g,o,none⟩) 0 xs t HR4.out HA4.out HTT.out)
    clear y0 y1 y2 y3 r1 rf1 HR4 a0 a1 a2 a3 a4 a5 f0 f1 f2 f3 f4 f5
    go_wp2_with fail
    refine HD.out.mono ?_
    rintro e W5 ⟨rfl,hr5,hm5⟩
    have HR5:=h_ hr5
    have HX5:=h_ (HX4.out.mv hm5 (Ne.symm hne1))
    have HM5:=h_ (HMV4.out.trans hm5)
    have a0:=HX5.out.c0
    have a1:=HX5.out.c1
    have a2:=HX5.out.c2
    have a3:=HX5.out.c3
    have a4:=HX5.out.c4
    have a5:=HX5.out.c5
    have f0:=HX5.out.fr 0
    have f1:=HX5.out.fr 1
    have f2:=HX5.out.fr 2
    have f3:=HX5.out.fr 3
    have f4:=HX5.out.fr 4
    have f5:=HX5.out.fr 5
    clear hr5 hm5 HX4 HT4 HA4 HMV4 HD s3
    go_wp2_with fail
    have HS:=HX5.out.all ⟨0,0,⟨#[]⟩,0,none,0,0,0⟩
    have HP:=six_put HM5.out hg1w ⟨0,0,⟨#[]⟩,0,none,0,0,0⟩
    have HQ:=HR5.out.mv (six_mv W5 g1 ⟨0,0,⟨#[]⟩,0,none,0,0,0⟩) hne1
    unfold six at HS HP HQ
    dsimp only at HS HP HQ
    refine bodyPost_ret (XpB.res (v:=⟨0,0,⟨#[]⟩,0,none,0,0,0⟩) rfl _ rfl HS) rfl ?_
    refine ⟨⟨0,0,⟨#[]⟩,0,none,0,0,0⟩,rfl,?_,HP⟩
    rw [Po_cons,if_pos (Or.inr hn2),if_pos rfl]
    exact ⟨by decide,q,hqn,HQ⟩
  |false =>
   cases n3 with
   |true =>
    rcases Nat.lt_or_ge d 20 with hd20|hd20
    ·have HD:=h_ (edown_yes W4 b n c q d (some ⟨g,o,none⟩) 0 HR4.out hd20 (by omega))
     clear y0 y1 y2 y3 r1 rf1 HR4 a0 a1 a2 a3 a4 a5 f0 f1 f2 f3 f4 f5
     go_wp2_with fail
     refine HD.out.mono ?_
     rintro e W5 ⟨rfl,hr5,hm5⟩
     have HR5:=h_ hr5
     have HX5:=h_ (HX4.out.mv hm5 (Ne.symm hne1))
     have HA5:=h_ (HA4.out.mv hm5 HAB.out)
     have HM5:=h_ (HMV4.out.trans hm5)
     have htk:t.kind≠5:=by
      intro e
      simp [isSg,e] at hn3
     have hg15:g1<W5.heap.size:=HX5.out.lt
     have hb5:b<W5.heap.size:=HR5.out.lt
     have hw5:w.heap.size≤W5.heap.size:=World.grownBy.size HM5.out
     have HC:=h_ (IH0 W5 b n c (q+1) (d+1) (some ⟨g,o,none⟩) xs r (by have:=HM.out;simp only [List.length_cons] at this;omega) HR5.out HA5.out HAB.out HQR.out (HE.out htk) hn (by omega))
     clear hr5 hm5 HX4 HT4 HA4 HMV4 HD s3
     go_wp2_with fail
     refine HC.out.mono ?_
     rintro e W6 ⟨v,rfl,hp6,hm6⟩
     have hvv:v.val=.agg #[.int .i64 v.kind,.int .i64 v.num,.string v.name,.int .i64 v.op,.slice v.A v.len v.cap,.int .i64 v.p]:=rfl
     rw [hvv]
     have HMU:=h_ (emust_rp (hp6.alloc (xob v)) ((HA5.out.mv hm6 HAB.out).below ((b_ _ W6).alloc (n_ _) (xob v))) hb5 hn)
     have HX6:=h_ ((HX5.out.mv hm6 (Ne.symm hne1)).alloc (xob v))
     have HXV:Hid (XpB (W6.alloc (xob v)) W6.heap.size v):=XpB.new W6 v
     have h56:W5.heap.size≤W6.heap.size:=World.grownBy.size hm6
     have HM6:=h_ ((HM5.out.trans hm6).trans (Mv.of b ((b_ _ W6).alloc (n_ _) (xob v))))
     clear hp6 hm6 HX5 HA5 HR5 HM5 HC hvv
     obtain ⟨g3,hg3⟩:∃g,g=W6.heap.size:=⟨_,rfl⟩
     rw [←hg3] at HXV
     obtain ⟨W7,hW7⟩:∃W,W=W6.alloc (xob v):=⟨_,rfl⟩
     rw [←hW7] at HXV HMU HX6 HM6
     unfold xob at hW7
     have hne3:b≠g3:=by omega
     have hne13:g1≠g3:=by omega
     go_upto_region 17 with fail
     rw [←hW7,←hg3]
     clear hW7 hg3
     refine HMU.out.mono ?_
     rintro e W8 ⟨rfl,hp8,hm8⟩
     obtain ⟨q8,c8,p8,hq8,hr8⟩:=hp8.rd
     have HP8:=h_ (hp8.up hb5)
     have r2:=hr8.c2
     have rf2:=hr8.fr 2
     rw [Int.natCast_add] at r2
     have hdd:((d:Int)+1)≤20:=by omega
     have HX9:=h_ ((HX6.out.mv hm8 (Ne.symm hne1)).mv ((Mv.refl b W8).set 2 (.int .i64 (d:Int))) (Ne.symm hne1))
     have HXV9:=h_ ((HXV.out.mv hm8 (Ne.symm hne3)).mv ((Mv.refl b W8).set 2 (.int .i64 (d:Int))) (Ne.symm hne3))
     have HM9:=h_ ((HM6.out.trans hm8).set 2 (.int .i64 (d:Int)))
     have a0:=HX9.out.c0
     have a1:=HX9.out.c1
     have a2:=HX9.out.c2
     have a3:=HX9.out.c3
     have a4:=HX9.out.c4
     have a5:=HX9.out.c5
     have f0:=HX9.out.fr 0
     have f1:=HX9.out.fr 1
     have f2:=HX9.out.fr 2
     have f3:=HX9.out.fr 3
     have f4:=HX9.out.fr 4
     have f5:=HX9.out.fr 5
     have e0:=HXV9.out.c0
     have e1:=HXV9.out.c1
     have e2:=HXV9.out.c2
     have e3:=HXV9.out.c3
     have e4:=HXV9.out.c4
     have e5:=HXV9.out.c5
     clear hp8 hr8 hm8 HX6 HXV HM6 HMU
     go_wp2_with fail
     have HS:=HX9.out.all v
     have HP:=six_put HM9.out hg1w v
     have HQ:=HP8.out.put hg15 hw5 hne1
     unfold six at HS HP HQ
     refine bodyPost_ret (XpB.res (v:=v) rfl _ rfl HS) rfl ?_
     refine ⟨v,rfl,?_,HP⟩
     rw [Po_cons,if_neg (by rw [hn1,hn2];decide),if_pos hn3,if_neg (by omega)]
     exact HQ
    ·have hd':d=20:=by omega
     subst hd'
     have HD:=h_ (edown_no W4 b n c q (some ⟨g,o,none⟩) 0 xs t HR4.out HA4.out HTT.out)
     clear y0 y1 y2 y3 r1 rf1 HR4 a0 a1 a2 a3 a4 a5 f0 f1 f2 f3 f4 f5
     go_wp2_with fail
     refine HD.out.mono ?_
     rintro e W5 ⟨rfl,hr5,hm5⟩
     have HR5:=h_ hr5
     have HX5:=h_ (HX4.out.mv hm5 (Ne.symm hne1))
     have HM5:=h_ (HMV4.out.trans hm5)
     have a0:=HX5.out.c0
     have a1:=HX5.out.c1
     have a2:=HX5.out.c2
     have a3:=HX5.out.c3
     have a4:=HX5.out.c4
     have a5:=HX5.out.c5
     have f0:=HX5.out.fr 0
     have f1:=HX5.out.fr 1
     have f2:=HX5.out.fr 2
     have f3:=HX5.out.fr 3
     have f4:=HX5.out.fr 4
     have f5:=HX5.out.fr 5
     clear hr5 hm5 HX4 HT4 HA4 HMV4 HD s3
     go_wp2_with fail
     have HS:=HX5.out.all ⟨0,0,⟨#[]⟩,0,none,0,0,0⟩
     have HP:=six_put HM5.out hg1w ⟨0,0,⟨#[]⟩,0,none,0,0,0⟩
     have HQ:=HR5.out.mv (six_mv W5 g1 ⟨0,0,⟨#[]⟩,0,none,0,0,0⟩) hne1
     unfold six at HS HP HQ
     dsimp only at HS HP HQ
     refine bodyPost_ret (XpB.res (v:=⟨0,0,⟨#[]⟩,0,none,0,0,0⟩) rfl _ rfl HS) rfl ?_
     refine ⟨⟨0,0,⟨#[]⟩,0,none,0,0,0⟩,rfl,?_,HP⟩
     rw [Po_cons,if_neg (by rw [hn1,hn2];decide),if_pos hn3,if_pos rfl]
     exact ⟨by decide,q,hqn,HQ⟩
   |false =>
    obtain ⟨k3,hk3⟩:∃k,(t.kind==3)=k:=⟨_,rfl⟩
    obtain ⟨k1,hk1⟩:∃k,(t.kind==1)=k:=⟨_,rfl⟩
    obtain ⟨k2,hk2⟩:∃k,(t.kind==2)=k:=⟨_,rfl⟩
    obtain ⟨kt,hkt⟩:∃k,(X.toList == [105,110])=k:=⟨_,rfl⟩
    have hend:t.kind≠5→q+1<n:=fun hk=>by
     obtain ⟨t1,r1,e1⟩:=ends_cons (HE.out hk)
     rw [←HA4.out.1]
     exact (drop_get (HQR.out.trans e1)).2.1
    cases k3 with
    |true =>
     have e3:t.kind=3:=by simpa using hk3
     have htk:t.kind≠5:=by omega
     have hqn1:=hend htk
     clear hend
     clear a0 a1 a2 a3 a4 a5 f0 f1 f2 f3 f4 f5
     have HX5:=h_ (HX4.out.mv ((Mv.refl b W4).set 1 (.int .i64 ((q:Int)+1))) (Ne.symm hne1))
     have HT5:=h_ (HT4.out.mv ((Mv.refl b W4).set 1 (.int .i64 ((q:Int)+1))) (Ne.symm hne2))
     have HM5:=h_ (HMV4.out.set 1 (.int .i64 ((q:Int)+1)))
     have HR5:Hid (RdB (W4.setCell ⟨b,1,none⟩ (.int .i64 ((q:Int)+1))) b (some ⟨g,o,none⟩) n c (q+1) d 0 0):=by
      have:=HR4.out.set1 (q+1)
      rw [Int.natCast_add] at this
      exact this
     have z0:=HT5.out.c0
     have z1:=HT5.out.c1
     have z2:=HT5.out.c2
     have z3:=HT5.out.c3
     have a0:=HX5.out.c0
     have a1:=HX5.out.c1
     have a2:=HX5.out.c2
     have a3:=HX5.out.c3
     have a4:=HX5.out.c4
     have a5:=HX5.out.c5
     have f0:=HX5.out.fr 0
     have f1:=HX5.out.fr 1
     have f2:=HX5.out.fr 2
     have f3:=HX5.out.fr 3
     have f4:=HX5.out.fr 4
     have f5:=HX5.out.fr 5
     clear HX4 HT4 HMV4 HR4
     go_wp2_with fail
     have HS:=HX5.out.all ⟨1,t.num,⟨#[]⟩,0,none,0,0,t.at_⟩
     have HP:=six_put HM5.out hg1w ⟨1,t.num,⟨#[]⟩,0,none,0,0,t.at_⟩
     have HQ:=HR5.out.mv (six_mv _ g1 ⟨1,t.num,⟨#[]⟩,0,none,0,0,t.at_⟩) hne1
     have HG:=GV.leaf (six (W4.setCell ⟨b,1,none⟩ (.int .i64 ((q:Int)+1))) g1 ⟨1,t.num,⟨#[]⟩,0,none,0,0,t.at_⟩) w.heap.size (six (W4.setCell ⟨b,1,none⟩ (.int .i64 ((q:Int)+1))) g1 ⟨1,t.num,⟨#[]⟩,0,none,0,0,t.at_⟩).heap.size 1 t.num 0 t.at_ ⟨#[]⟩
     unfold six at HS HP HQ HG
     dsimp only at HS HP HQ HG
     refine bodyPost_ret (XpB.res (v:=⟨1,t.num,⟨#[]⟩,0,none,0,0,t.at_⟩) rfl _ rfl HS) rfl ?_
     refine ⟨⟨1,t.num,⟨#[]⟩,0,none,0,0,t.at_⟩,rfl,?_,HP⟩
     rw [Po_cons,if_neg (by rw [hn1,hn2];decide),if_neg (by rw [hn3];decide),if_pos e3]
     exact ⟨HG,HE.out htk,q+1,hqn1,HQR.out,HQ⟩
    |false =>
     have e3:¬t.kind=3:=beq_eq_false_iff_ne.1 hk3
     cases k1 with
     |true =>
      have e1:t.kind=1:=by simpa using hk1
      have htk:t.kind≠5:=by omega
      have hqn1:=hend htk
      clear hend
      clear a0 a1 a2 a3 a4 a5 f0 f1 f2 f3 f4 f5
      have HX5:=h_ (HX4.out.mv ((Mv.refl b W4).set 1 (.int .i64 ((q:Int)+1))) (Ne.symm hne1))
      have HT5:=h_ (HT4.out.mv ((Mv.refl b W4).set 1 (.int .i64 ((q:Int)+1))) (Ne.symm hne2))
      have HM5:=h_ (HMV4.out.set 1 (.int .i64 ((q:Int)+1)))
      have HR5:Hid (RdB (W4.setCell ⟨b,1,none⟩ (.int .i64 ((q:Int)+1))) b (some ⟨g,o,none⟩) n c (q+1) d 0 0):=by
       have:=HR4.out.set1 (q+1)
       rw [Int.natCast_add] at this
       exact this
      have z0:=HT5.out.c0
      have z1:=HT5.out.c1
      have z2:=HT5.out.c2
      have z3:=HT5.out.c3
      have a0:=HX5.out.c0
      have a1:=HX5.out.c1
      have a2:=HX5.out.c2
      have a3:=HX5.out.c3
      have a4:=HX5.out.c4
      have a5:=HX5.out.c5
      have f0:=HX5.out.fr 0
      have f1:=HX5.out.fr 1
      have f2:=HX5.out.fr 2
      have f3:=HX5.out.fr 3
      have f4:=HX5.out.fr 4
      have f5:=HX5.out.fr 5
      clear HX4 HT4 HMV4 HR4
      go_wp2_with fail
      have HS:=HX5.out.all ⟨2,0,X,0,none,0,0,t.at_⟩
      have HP:=six_put HM5.out hg1w ⟨2,0,X,0,none,0,0,t.at_⟩
      have HQ:=HR5.out.mv (six_mv _ g1 ⟨2,0,X,0,none,0,0,t.at_⟩) hne1
      have HG:=GV.leaf (six (W4.setCell ⟨b,1,none⟩ (.int .i64 ((q:Int)+1))) g1 ⟨2,0,X,0,none,0,0,t.at_⟩) w.heap.size (six (W4.setCell ⟨b,1,none⟩ (.int .i64 ((q:Int)+1))) g1 ⟨2,0,X,0,none,0,0,t.at_⟩).heap.size 2 0 0 t.at_ X
      unfold six at HS HP HQ HG
      dsimp only at HS HP HQ HG
      refine bodyPost_ret (XpB.res (v:=⟨2,0,X,0,none,0,0,t.at_⟩) rfl _ rfl HS) rfl ?_
      refine ⟨⟨2,0,X,0,none,0,0,t.at_⟩,rfl,?_,HP⟩
      rw [eX] at HG
      rw [Po_cons,if_neg (by rw [hn1,hn2];decide),if_neg (by rw [hn3];decide),if_neg e3,if_pos e1]
      exact ⟨HG,HE.out htk,q+1,hqn1,HQR.out,HQ⟩
     |false =>
      have e1:¬t.kind=1:=beq_eq_false_iff_ne.1 hk1
      clear hend
      cases k2 with
      |false =>
       have HW:=h_ (ewrong_set W4 b n c q d (some ⟨g,o,none⟩) 0 xs t HR4.out HA4.out HTT.out)
       clear a0 a1 a2 a3 a4 a5 f0 f1 f2 f3 f4 f5 r1 rf1
       go_wp2_with fail
       refine HW.out.mono ?_
       rintro e W5 ⟨rfl,hr5,hm5⟩
       have HR5:=h_ hr5
       have HX5:=h_ (HX4.out.mv hm5 (Ne.symm hne1))
       have HM5:=h_ (HMV4.out.trans hm5)
       have a0:=HX5.out.c0
       have a1:=HX5.out.c1
       have a2:=HX5.out.c2
       have a3:=HX5.out.c3
       have a4:=HX5.out.c4
       have a5:=HX5.out.c5
       have f0:=HX5.out.fr 0
       have f1:=HX5.out.fr 1
       have f2:=HX5.out.fr 2
       have f3:=HX5.out.fr 3
       have f4:=HX5.out.fr 4
       have f5:=HX5.out.fr 5
       clear hr5 hm5 HX4 HT4 HA4 HMV4 HW HR4
       go_wp2_with fail
       have HS:=HX5.out.all ⟨0,0,⟨#[]⟩,0,none,0,0,0⟩
       have HP:=six_put HM5.out hg1w ⟨0,0,⟨#[]⟩,0,none,0,0,0⟩
       have HQ:=HR5.out.mv (six_mv W5 g1 ⟨0,0,⟨#[]⟩,0,none,0,0,0⟩) hne1
       unfold six at HS HP HQ
       dsimp only at HS HP HQ
       refine bodyPost_ret (XpB.res (v:=⟨0,0,⟨#[]⟩,0,none,0,0,0⟩) rfl _ rfl HS) rfl ?_
       refine ⟨⟨0,0,⟨#[]⟩,0,none,0,0,0⟩,rfl,?_,HP⟩
       rw [Po_cons,if_neg (by rw [hn1,hn2];decide),if_neg (by rw [hn3];decide),if_neg e3,if_neg e1,if_neg (fun h=>beq_eq_false_iff_ne.1 hk2 h.1),wrongAt_eq]
       exact ⟨wrC_ne t,q,hqn,HQ⟩
      |true =>
       cases kt with
       |false =>
        have ent:¬(t.kind=2∧t.text=[105,110]):=by
         rintro ⟨_,h⟩
         refine beq_eq_false_iff_ne.1 hkt ?_
         rw [Lib.toList_data,eX]
         exact h
        have HW:=h_ (ewrong_set W4 b n c q d (some ⟨g,o,none⟩) 0 xs t HR4.out HA4.out HTT.out)
        clear a0 a1 a2 a3 a4 a5 f0 f1 f2 f3 f4 f5 r1 rf1
        go_wp2_with fail
        refine HW.out.mono ?_
        rintro e W5 ⟨rfl,hr5,hm5⟩
        have HR5:=h_ hr5
        have HX5:=h_ (HX4.out.mv hm5 (Ne.symm hne1))
        have HM5:=h_ (HMV4.out.trans hm5)
        have a0:=HX5.out.c0
        have a1:=HX5.out.c1
        have a2:=HX5.out.c2
        have a3:=HX5.out.c3
        have a4:=HX5.out.c4
        have a5:=HX5.out.c5
        have f0:=HX5.out.fr 0
        have f1:=HX5.out.fr 1
        have f2:=HX5.out.fr 2
        have f3:=HX5.out.fr 3
        have f4:=HX5.out.fr 4
        have f5:=HX5.out.fr 5
        clear hr5 hm5 HX4 HT4 HA4 HMV4 HW HR4
        go_wp2_with fail
        have HS:=HX5.out.all ⟨0,0,⟨#[]⟩,0,none,0,0,0⟩
        have HP:=six_put HM5.out hg1w ⟨0,0,⟨#[]⟩,0,none,0,0,0⟩
        have HQ:=HR5.out.mv (six_mv W5 g1 ⟨0,0,⟨#[]⟩,0,none,0,0,0⟩) hne1
        unfold six at HS HP HQ
        dsimp only at HS HP HQ
        refine bodyPost_ret (XpB.res (v:=⟨0,0,⟨#[]⟩,0,none,0,0,0⟩) rfl _ rfl HS) rfl ?_
        refine ⟨⟨0,0,⟨#[]⟩,0,none,0,0,0⟩,rfl,?_,HP⟩
        rw [Po_cons,if_neg (by rw [hn1,hn2];decide),if_neg (by rw [hn3];decide),if_neg e3,if_neg e1,if_neg (ent),wrongAt_eq]
        exact ⟨wrC_ne t,q,hqn,HQ⟩
       |true =>
        have e2:t.kind=2:=by simpa using hk2
        have et:t.text=[105,110]:=by
         have:=eq_of_beq hkt
         rw [Lib.toList_data,eX] at this
         exact this
        have htk:t.kind≠5:=by omega
        have hg14:g1<W4.heap.size:=HX4.out.lt
        have hw4:w.heap.size≤W4.heap.size:=HB4.out.size
        have HC:=h_ (ein_any W4 b n c q d (some ⟨g,o,none⟩) xs t r HR4.out HA4.out HAB.out HQ0.out (HE.out htk) hn)
        clear a0 a1 a2 a3 a4 a5 f0 f1 f2 f3 f4 f5 r1 rf1
        go_wp2_with fail
        refine HC.out.mono ?_
        rintro e W5 ⟨v,rfl,hp5,hm5⟩
        have hvv:v.val=.agg #[.int .i64 v.kind,.int .i64 v.num,.string v.name,.int .i64 v.op,.slice v.A v.len v.cap,.int .i64 v.p]:=rfl
        rw [hvv]
        have HP5:=h_ hp5
        have HX5:=h_ (HX4.out.mv hm5 (Ne.symm hne1))
        have HM5:=h_ (HMV4.out.trans hm5)
        have a0:=HX5.out.c0
        have a1:=HX5.out.c1
        have a2:=HX5.out.c2
        have a3:=HX5.out.c3
        have a4:=HX5.out.c4
        have a5:=HX5.out.c5
        have f0:=HX5.out.fr 0
        have f1:=HX5.out.fr 1
        have f2:=HX5.out.fr 2
        have f3:=HX5.out.fr 3
        have f4:=HX5.out.fr 4
        have f5:=HX5.out.fr 5
        clear hp5 hm5 HX4 HT4 HA4 HMV4 HC HR4 hvv
        go_wp2_with fail
        have HS:=HX5.out.all v
        have HP:=six_put HM5.out hg1w v
        have HQ:=HP5.out.put hg14 hw4 hne1
        unfold six at HS HP HQ
        refine bodyPost_ret (XpB.res (v:=v) rfl _ rfl HS) rfl ?_
        refine ⟨v,rfl,?_,HP⟩
        rw [Po_cons,if_neg (by rw [hn1,hn2];decide),if_neg (by rw [hn3];decide),if_neg e3,if_neg e1,if_pos ⟨e2,et⟩]
        exact HQ
theorem efrom_six (m:Nat) (IH1:EOne m):EFrom m 6:=by
 intro w b n c q d A xs r hm h hA hAb hq he hn hd
 obtain ⟨W0,hW0⟩:∃W0,W0=w.alloc (.cells #[.int .i64 0,.int .i64 0,.string ⟨#[]⟩,.int .i64 0,.slice none 0 0,.int .i64 0] 54):=⟨_,rfl⟩
 obtain ⟨g1,hg1⟩:∃g,g=w.heap.size:=⟨_,rfl⟩
 have HX1:Hid (XpB W0 g1 ev0):=by rw [hW0,hg1];exact XpB.new w ev0
 have HB0:Hid (Below w.heap.size w W0):=by rw [hW0];exact (b_ _ w).alloc (n_ _) _
 have hne1:b≠g1:=by have:=h.lt;omega
 have hg1w:w.heap.size≤g1:=by omega
 have hg10:g1<W0.heap.size:=HX1.out.lt
 have HC:=h_ (IH1 W0 b n c q d A xs r hm (h.below HB0.out) (hA.below HB0.out) hAb hq he hn hd)
 have HMV:=h_ (Mv.of b HB0.out)
 clear h hA hAb hq he hm
 go_enter Tryz.func111,Tryz.ntmps111
 go_upto_region 1 with fail
 rw [←hW0,←hg1]
 clear hW0 hg1
 go_wp2_with fail
 refine HC.out.mono ?_
 rintro e W5 ⟨v,rfl,hp5,hm5⟩
 have hvv:v.val=.agg #[.int .i64 v.kind,.int .i64 v.num,.string v.name,.int .i64 v.op,.slice v.A v.len v.cap,.int .i64 v.p]:=rfl
 rw [hvv]
 have HP5:=h_ hp5
 have HX5:=h_ (HX1.out.mv hm5 (Ne.symm hne1))
 have HM5:=h_ (HMV.out.trans hm5)
 have hw0:w.heap.size≤W0.heap.size:=HB0.out.size
 have a0:=HX5.out.c0
 have a1:=HX5.out.c1
 have a2:=HX5.out.c2
 have a3:=HX5.out.c3
 have a4:=HX5.out.c4
 have a5:=HX5.out.c5
 have f0:=HX5.out.fr 0
 have f1:=HX5.out.fr 1
 have f2:=HX5.out.fr 2
 have f3:=HX5.out.fr 3
 have f4:=HX5.out.fr 4
 have f5:=HX5.out.fr 5
 clear hp5 hm5 HX1 HMV HC hvv
 go_wp2_with fail
 have HS:=HX5.out.all v
 have HP:=six_put HM5.out hg1w v
 have HQ:=HP5.out.put hg10 hw0 hne1
 unfold six at HS HP HQ
 refine bodyPost_ret (XpB.res (v:=v) rfl _ rfl HS) rfl ?_
 refine ⟨v,rfl,?_,HP⟩
 rw [Pf_six]
 exact HQ
theorem RP.below {W W':World} {lo b n c d:Nat} {A:Option Addr} {xs:List Tk} {v:EV} {e:PR} (h:RP W lo b n c d A xs v e) (hb:Below W.heap.size W W'):RP W' lo b n c d A xs v e:=by
 cases e with
 |out=>exact absurd h (by intro h;exact h)
 |bad code q =>
  obtain ⟨hc,q',hq,hr⟩:=h
  exact ⟨hc,q',hq,hr.below hb⟩
 |ok x r =>
  obtain ⟨hv,he,q',hq,hx,hr⟩:=h
  exact ⟨(hv.below hb (n_ _)).mono (n_ _) hb.size,he,q',hq,hx,hr.below hb⟩
def opN (k:Nat):PR→Int
 |.ok _ r=>opAt k r
 |_=>0
theorem erow_rp {W:World} {lo b n c d k:Nat} {A:Option Addr} {xs:List Tk} {v:EV} {e:PR} (h:RP W lo b n c d A xs v e) (hA:TkAt W A n xs) (hk:k<6) :
  Calls Tryz.prog 121 #[.pointer (some ⟨b,0,none⟩),.int .i64 (k:Int)] W fun e' w'=>e'=.returned (.int .i64 (opN k e))∧Below W.heap.size W w':=by
 cases e with
 |out=>exact absurd h (by intro h;exact h)
 |bad code p =>
  obtain ⟨hc,q',hq,hr⟩:=h
  obtain ⟨t,ht⟩:=hA.get hq
  have:=erow_any W b n c q' d k A code p xs t hr hA ht hk
  unfold rowN at this
  rw [if_neg hc] at this
  exact this
 |ok x r =>
  obtain ⟨hv,he,q',hq,hx,hr⟩:=h
  obtain ⟨t,r,rfl⟩:=ends_cons he
  obtain ⟨ht,_,_⟩:=drop_get hx
  have:=erow_any W b n c q' d k A 0 0 xs t hr hA ht hk
  unfold rowN at this
  rw [if_pos rfl] at this
  exact this
theorem GV.pos {w:World} {lo hi:Nat}:∀{x:GX} {v:EV},GV w lo hi x v→v.p=x.p
 |.mk _ _ _ _ _ _,_,h=>by
  unfold GV at h
  exact h.2.2.2.2.1
def xob2 (v u:EV):Obj:=.cells #[.int .i64 v.kind,.int .i64 v.num,.string v.name,.int .i64 v.op,.slice v.A v.len v.cap,.int .i64 v.p,.int .i64 u.kind,.int .i64 u.num,.string u.name,.int .i64 u.op,.slice u.A u.len u.cap,.int .i64 u.p] 54
theorem RP.both {W:World} {lo lo' b n c d:Nat} {A:Option Addr} {xs:List Tk} {x:Ex} {v u:EV} {e:PR} (hx:GV W lo W.heap.size x.gx v) (h:RP W lo' b n c d A xs u e) (hlo:lo≤lo') (h5:lo'≤W.heap.size) (op:Int) :
  RP (W.alloc (xob2 v u)) lo b n c d A xs ⟨5,0,⟨#[]⟩,op,some ⟨W.heap.size,0,none⟩,2,2,v.p⟩ (e.andThen fun y r=>.ok (.both op x y) r):=by
 cases e with
 |out=>exact absurd h (by intro h;exact h)
 |bad code q =>
  obtain ⟨hc,q',hq,hr⟩:=h
  exact ⟨hc,q',hq,hr.alloc _⟩
 |ok y r =>
  obtain ⟨hv,he,q',hq,hd,hr⟩:=h
  refine ⟨?_,he,q',hq,hd,hr.alloc _⟩
  have h1:=hx.both_new (hv.mono hlo (n_ _)) (Nat.le_trans hlo h5) 54 op v.p
  have e:(W.alloc (xob2 v u)).heap.size=W.heap.size+1:=by simp
  rw [e]
  have hp:=hx.pos
  rw [gx_p] at hp
  show GV _ lo _ (.mk 5 0 [] op [x.gx,y.gx] x.pos) _
  rw [←hp]
  exact h1
theorem opN_more {k d:Nat} (hk:k<6) {x:Ex} {r:List Tk} (h:opN k (.ok x r)≠0):Pm k d x r=((Pf (k+1) d r.tail).andThen fun y r'=>.ok (.both (opN k (.ok x r)) x y) r').andThen fun z r'=>Pm k d z r':=by
 have h':¬opAt k r=0:=h
 rw [Pm_eq hk,if_neg h']
 show _=((Pf (k+1) d r.tail).andThen fun y r'=>.ok (.both (opAt k r) x y) r').andThen _
 cases Pf (k+1) d r.tail <;> rfl
theorem opN_none {k d:Nat} (hk:k<6) {e:PR} (h:opN k e=0):(e.andThen fun z r=>Pm k d z r)=e:=by
 cases e with
 |out=>rfl
 |bad _ _=>rfl
 |ok x r =>
  show Pm k d x r=_
  rw [Pm_eq hk,if_pos (show opAt k r=0 from h)]
def NX (w:World) (lo g:Nat) (x:GX) (v:EV):Prop:=∀W':World,(∀i,lo≤i→i<w.heap.size→i≠g→W'.heap[i]?=w.heap[i]?)→GV W' lo w.heap.size x v
theorem NX.gv {w:World} {lo g:Nat} {x:GX} {v:EV} (h:NX w lo g x v):GV w lo w.heap.size x v:=h w (fun _ _ _ _=>rfl)
theorem NX.new {W:World} {lo:Nat} {x:GX} {v:EV} (h:GV W lo W.heap.size x v) (ob:Obj):NX (W.alloc ob) lo W.heap.size x v:=fun W' hs =>
 (h.same (fun i h1 h2=>(hs i h1 (by simp;omega) (by omega)).trans (Below.heap_alloc W ob i h2))).mono (n_ _) (by simp)
theorem NX.mv {w w':World} {lo g b:Nat} {x:GX} {v:EV} (h:NX w lo g x v) (hm:Mv b w w') (hb:b<lo∨b=g):NX w' lo g x v:=fun W' hs=>by
 have hsz:=World.grownBy.size hm
 exact (h W' (fun i h1 h2 h3=>(hs i h1 (by omega) h3).trans (hm.block h2 (by omega)))).mono (n_ _) hsz
theorem NX.both {W:World} {lo lo' g:Nat} {x y:GX} {v u:EV} (hx:NX W lo g x v) (hy:GV W lo' W.heap.size y u) (hg:g<lo') (hlo:lo≤lo') (h5:lo'≤W.heap.size) (op p:Int) :
  NX (W.alloc (xob2 v u)) lo g (.mk 5 0 [] op [x,y] p) ⟨5,0,⟨#[]⟩,op,some ⟨W.heap.size,0,none⟩,2,2,p⟩:=fun W' hs=>by
 have e:(W.alloc (xob2 v u)).heap.size=W.heap.size+1:=by simp
 rw [e] at hs ⊢
 have ha:W'.heap[W.heap.size]?=some (xob2 v u):=(hs _ (by omega) (by omega) (by omega)).trans (heap_alloc_new W _)
 have hs':∀i,lo≤i→i<W.heap.size→i≠g→W'.heap[i]?=W.heap[i]?:=fun i h1 h2 h3=>(hs i h1 (by omega) h3).trans (Below.heap_alloc W _ i h2)
 have h1:=(hx W' hs').mono (n_ lo) (Nat.le_succ _)
 have h2:=((hy.same (fun i h1 h2=>hs' i (by omega) h2 (by omega)))).mono hlo (Nat.le_succ _)
 unfold xob2 at ha
 unfold GV
 refine ⟨rfl,rfl,rfl,rfl,rfl,rfl,n_ _,(by decide:2≤maxLen),?_⟩
 unfold GRow GRow GRow
 refine ⟨⟨W.heap.size,0,v,rfl,by omega,by omega,?_,h1⟩,⟨W.heap.size,0,u,rfl,by omega,by omega,?_,h2⟩,trivial⟩
 ·exact ⟨cell_of_row W' _ 0 _ _ _ ha,cell_of_row W' _ 1 _ _ _ ha,cell_of_row W' _ 2 _ _ _ ha,cell_of_row W' _ 3 _ _ _ ha,cell_of_row W' _ 4 _ _ _ ha,cell_of_row W' _ 5 _ _ _ ha⟩
 ·exact ⟨cell_of_row W' _ 6 _ _ _ ha,cell_of_row W' _ 7 _ _ _ ha,cell_of_row W' _ 8 _ _ _ ha,cell_of_row W' _ 9 _ _ _ ha,cell_of_row W' _ 10 _ _ _ ha,cell_of_row W' _ 11 _ _ _ ha⟩
def RX (w':World) (lo b n c d g:Nat) (A:Option Addr) (xs:List Tk) (v:EV):PR→Prop
 |.out=>False
 |.ok x r=>NX w' lo g x.gx v∧TkEnds r∧∃q,q<n∧xs.drop q=r∧RdB w' b A n c q d 0 0
 |.bad code p=>code≠0∧∃q,q<n∧RdB w' b A n c q d code p
section
variable {W W':World} {lo lo' b n c d g:Nat} {A:Option Addr} {xs:List Tk} {v u:EV} {e:PR}
theorem RX.rp (h:RX W lo b n c d g A xs v e):RP W lo b n c d A xs v e:=by
 cases e with
 |out=>exact absurd h (by intro h;exact h)
 |bad code q=>exact h
 |ok x r=>obtain ⟨hv,h2⟩:=h;exact ⟨hv.gv,h2⟩
theorem RX.new (h:RP W lo b n c d A xs v e) (ob:Obj):RX (W.alloc ob) lo b n c d W.heap.size A xs v e:=by
 cases e with
 |out=>exact absurd h (by intro h;exact h)
 |bad code q=>obtain ⟨hc,q',hq,hr⟩:=h;exact ⟨hc,q',hq,hr.alloc _⟩
 |ok x r=>obtain ⟨hv,he,q',hq,hx,hr⟩:=h;exact ⟨NX.new hv ob,he,q',hq,hx,hr.alloc _⟩
theorem RX.mv {b':Nat} (h:RX W lo b n c d g A xs v e) (hm:Mv b' W W') (hb:b'=g) (hne:b≠b'):RX W' lo b n c d g A xs v e:=by
 cases e with
 |out=>exact absurd h (by intro h;exact h)
 |bad code q=>obtain ⟨hc,q',hq,hr⟩:=h;exact ⟨hc,q',hq,hr.mv hm hne⟩
 |ok x r=>obtain ⟨hv,he,q',hq,hx,hr⟩:=h;exact ⟨hv.mv hm (.inr hb),he,q',hq,hx,hr.mv hm hne⟩
theorem RX.below (h:RX W lo b n c d g A xs v e) (hb:Below W.heap.size W W') (hbl:b<lo):RX W' lo b n c d g A xs v e:=by
 cases e with
 |out=>exact absurd h (by intro h;exact h)
 |bad code q=>obtain ⟨hc,q',hq,hr⟩:=h;exact ⟨hc,q',hq,hr.below hb⟩
 |ok x r=>obtain ⟨hv,he,q',hq,hx,hr⟩:=h;exact ⟨hv.mv (Mv.of b hb) (.inl hbl),he,q',hq,hx,hr.below hb⟩
theorem RX.both {x:Ex} (hx:NX W lo g x.gx v) (h:RP W lo' b n c d A xs u e) (hg:g<lo') (hlo:lo≤lo') (h5:lo'≤W.heap.size) (op:Int) :
  RX (W.alloc (xob2 v u)) lo b n c d g A xs ⟨5,0,⟨#[]⟩,op,some ⟨W.heap.size,0,none⟩,2,2,v.p⟩ (e.andThen fun y r=>.ok (.both op x y) r):=by
 cases e with
 |out=>exact absurd h (by intro h;exact h)
 |bad code q=>obtain ⟨hc,q',hq,hr⟩:=h;exact ⟨hc,q',hq,hr.alloc _⟩
 |ok y r =>
  obtain ⟨hv,he,q',hq,hd,hr⟩:=h
  refine ⟨?_,he,q',hq,hd,hr.alloc _⟩
  have hp:=hx.gv.pos
  rw [gx_p] at hp
  show NX _ lo g (.mk 5 0 [] op [x.gx,y.gx] x.pos) _
  rw [←hp]
  exact hx.both hv hg hlo h5 op v.p
end
theorem opAt_sign {k:Nat} {t:Tk} {r:List Tk} (h:opAt k (t::r)≠0):t.kind=4:=by
 by_cases hk:t.kind=4
 ·exact hk
 ·exfalso
  apply h
  rw [opAt_cons,find_no (fun j x _ _=>by simp [isSg,hk])]
theorem efrom_row (m k:Nat) (hk:k<6) (IH:EFrom m (k+1)):EFrom m k:=by
 intro w b n c q d A xs r hm h hA hAb hq he hn hd
 obtain ⟨W0,hW0⟩:∃W0,W0=w.alloc (.cells #[.int .i64 0,.int .i64 0,.string ⟨#[]⟩,.int .i64 0,.slice none 0 0,.int .i64 0] 54):=⟨_,rfl⟩
 obtain ⟨g1,hg1⟩:∃g,g=w.heap.size:=⟨_,rfl⟩
 have HX1:Hid (XpB W0 g1 ev0):=by rw [hW0,hg1];exact XpB.new w ev0
 have HB0:Hid (Below w.heap.size w W0):=by rw [hW0];exact (b_ _ w).alloc (n_ _) _
 have hne1:b≠g1:=by have:=h.lt;omega
 have hg1w:w.heap.size≤g1:=by omega
 have hg10:g1<W0.heap.size:=HX1.out.lt
 have hbw:b<w.heap.size:=h.lt
 have hw0:w.heap.size≤W0.heap.size:=HB0.out.size
 have hk6:((k:Int)==6)=false:=by rw [beq_eq_false_iff_ne];omega
 have hkb:(k:Int)<6:=by omega
 have HC:Hid (Calls Tryz.prog 111 #[.pointer (some ⟨b,0,none⟩),.int .i64 ((k:Int)+1)] W0 fun e w'=>∃v:EV,e=.returned v.val∧RP w' W0.heap.size b n c d A xs v (Pf (k+1) d r)∧Mv b W0 w'):=by
  have:=IH W0 b n c q d A xs r hm (h.below HB0.out) (hA.below HB0.out) hAb hq he hn hd
  rw [Int.natCast_add] at this
  exact this
 have HMV:=h_ (Mv.of b HB0.out)
 have HA0:=h_ (hA.below HB0.out)
 have HAB:=h_ hAb
 have HMM:=h_ hm
 have HAw:=h_ hA
 clear h hA hAb hq he hm
 go_enter Tryz.func111,Tryz.ntmps111
 go_upto_region 1 with fail
 rw [←hW0,←hg1]
 clear hW0 hg1
 go_wp2_with fail
 refine HC.out.mono ?_
 rintro e W5 ⟨v,rfl,hp5,hm5⟩
 have hvv:v.val=.agg #[.int .i64 v.kind,.int .i64 v.num,.string v.name,.int .i64 v.op,.slice v.A v.len v.cap,.int .i64 v.p]:=rfl
 rw [hvv]
 obtain ⟨g3,hg3⟩:∃g,g=W5.heap.size:=⟨_,rfl⟩
 obtain ⟨W6,hW6⟩:∃W,W=W5.alloc (xob v):=⟨_,rfl⟩
 have HXV:Hid (XpB W6 g3 v):=by rw [hW6,hg3];exact XpB.new W5 v
 have HX6:Hid (XpB W6 g1 ev0):=by rw [hW6];exact (HX1.out.mv hm5 (Ne.symm hne1)).alloc _
 have HX3:Hid (RX W6 W0.heap.size b n c d g3 A xs v (Pf (k+1) d r)):=by rw [hW6,hg3];exact RX.new hp5 _
 have HP6:Hid (RP W6 W0.heap.size b n c d A xs v (Pf (k+1) d r)):=by rw [hW6];exact hp5.alloc _
 have HM6:Hid (Mv b w W6):=by rw [hW6];exact (HMV.out.trans hm5).trans (Mv.of b ((b_ _ W5).alloc (n_ _) (xob v)))
 have HA6:Hid (TkAt W6 A n xs):=by rw [hW6];exact (HA0.out.mv hm5 HAB.out).below ((b_ _ W5).alloc (n_ _) (xob v))
 have h05:W0.heap.size≤g3:=by rw [hg3];exact World.grownBy.size hm5
 have HRW:=h_ (erow_rp HP6.out HA6.out hk)
 unfold xob at hW6
 clear hp5 hm5 HX1 HMV HC hvv HA0
 go_wp2_with fail
 rw [←hW6,←hg3]
 clear hW6 hg3
 refine HRW.out.mono ?_
 rintro e W7 ⟨rfl,hb7⟩
 have hbl:b<W0.heap.size:=by omega
 have HX7:=h_ (HX6.out.below hb7)
 have HXV7:=h_ (HXV.out.below hb7)
 have HX37:=h_ (HX3.out.below hb7 hbl)
 have HM7:=h_ (HM6.out.trans (Mv.of b hb7))
 have HA7:=h_ (HA6.out.below hb7)
 have HPF:Hid (Pf k d r=(Pf (k+1) d r).andThen fun z r'=>Pm k d z r'):=Pf_row hk d r
 have HLE:Hid (∀x r',Pf (k+1) d r=.ok x r'→r'.length≤m):=fun x r' h=>by
  have:=Pf_len h
  have:=HMM.out
  omega
 have hne3:b≠g3:=by omega
 have hne13:g1≠g3:=by omega
 clear hb7 HX6 HXV HX3 HM6 HA6 HP6 HRW
 go_wp2_with fail
 go_loopw [6] (fun iv wr=>∃(v:EV) (e:PR),iv=.int .i64 (opN k e)∧Hid (XpB wr g3 v)∧Hid (XpB wr g1 ev0)∧Hid (RX wr W0.heap.size b n c d g3 A xs v e)∧Hid (Mv b w wr)∧Hid (TkAt wr A n xs)∧Hid (Pf k d r=e.andThen fun z r'=>Pm k d z r')∧Hid (∀x r',e=.ok x r'→r'.length≤m)) (fun iv wr=>if intOf iv=0 then 0 else n+1-(intOf ((wr.cell? ⟨b,1,none⟩).getD undef)).toNat)
 case atStart=>exact ⟨v,_,rfl,HXV7,HX7,HX37,HM7,HA7,HPF,HLE⟩
 case round =>
  obtain ⟨v,e,rfl,HXV,HX1,HRX,HM,HA,HPF,HLE⟩:=hrel
  obtain ⟨N,hN⟩:∃N,opN k e=N:=⟨_,rfl⟩
  rw [hN]
  by_cases h0:N=0
  ·subst h0
   have a0:=HX1.out.c0
   have a1:=HX1.out.c1
   have a2:=HX1.out.c2
   have a3:=HX1.out.c3
   have a4:=HX1.out.c4
   have a5:=HX1.out.c5
   have f0:=HX1.out.fr 0
   have f1:=HX1.out.fr 1
   have f2:=HX1.out.fr 2
   have f3:=HX1.out.fr 3
   have f4:=HX1.out.fr 4
   have f5:=HX1.out.fr 5
   have e0:=HXV.out.c0
   have e1:=HXV.out.c1
   have e2:=HXV.out.c2
   have e3:=HXV.out.c3
   have e4:=HXV.out.c4
   have e5:=HXV.out.c5
   go_wp2_with fail
   have HS:=HX1.out.all v
   have HP:=six_put HM.out hg1w v
   have HQ:=HRX.out.rp.put hg10 hw0 hne1
   unfold six at HS HP HQ
   refine bodyPost_ret (XpB.res (v:=v) rfl _ rfl HS) rfl ?_
   refine ⟨v,rfl,?_,HP⟩
   rw [HPF.out,opN_none hk hN]
   exact HQ
  ·have hb0:(N==0)=false:=by simpa using h0
   obtain ⟨x,t,rs,rfl⟩:∃x t rs,e=.ok x (t::rs):=by
    cases e with
    |out=>exact absurd hN.symm h0
    |bad _ _=>exact absurd hN.symm h0
    |ok x rs =>
     cases rs with
     |nil=>exact absurd hN.symm h0
     |cons t rs=>exact ⟨x,t,rs,rfl⟩
   have hop:opAt k (t::rs)≠0:=by
    have:opAt k (t::rs)=N:=hN
    rw [this]
    exact h0
   have htk:t.kind≠5:=by rw [opAt_sign hop];decide
   obtain ⟨hnx,hends,q',hq',hx',hrd⟩:=HRX.out
   have HNX:=h_ hnx
   have HQ1:=h_ hrd.c1
   have HDR:=h_ hx'
   have hg3w:g3<(wr.setCell ⟨b,1,none⟩ (.int .i64 ((q':Int)+1))).heap.size:=by have:=HXV.out.lt;simpa [World.setCell] using this
   have r1:=hrd.c1
   have rf1:=hrd.fr 1
   obtain ⟨ht,hql,hdr⟩:=drop_get hx'
   have hqb:q' < 1000000000:=by omega
   have hm8a:Mv b wr (wr.setCell ⟨b,1,none⟩ (.int .i64 ((q':Int)+1))):=(Mv.refl b wr).set 1 _
   have HC:Hid (Calls Tryz.prog 111 #[.pointer (some ⟨b,0,none⟩),.int .i64 ((k:Int)+1)] (wr.setCell ⟨b,1,none⟩ (.int .i64 ((q':Int)+1))) fun e w'=>∃v:EV,e=.returned v.val∧RP w' (wr.setCell ⟨b,1,none⟩ (.int .i64 ((q':Int)+1))).heap.size b n c d A xs v (Pf (k+1) d rs)∧Mv b (wr.setCell ⟨b,1,none⟩ (.int .i64 ((q':Int)+1))) w'):=by
    have hr:=hrd.set1 (q' + 1)
    rw [Int.natCast_add] at hr
    have:=IH (wr.setCell ⟨b,1,none⟩ (.int .i64 ((q':Int)+1))) b n c (q' + 1) d A xs rs (by have:=HLE.out x _ rfl;simp only [List.length_cons] at this;omega) hr (HA.out.mv hm8a HAB.out) HAB.out hdr (hends.tail htk) hn hd
    rw [Int.natCast_add] at this
    exact this
   have hm8A:=h_ hm8a
   clear hnx hends hx' hrd ht hql hdr hm8a
   go_wp2_with fail
   refine HC.out.mono ?_
   rintro e' W8 ⟨u,rfl,hp8,hm8⟩
   have hvu:u.val=.agg #[.int .i64 u.kind,.int .i64 u.num,.string u.name,.int .i64 u.op,.slice u.A u.len u.cap,.int .i64 u.p]:=rfl
   rw [hvu]
   have hV8:∀ob:Obj,XpB (W8.alloc ob) g3 v:=fun ob=>((HXV.out.mv hm8A.out (Ne.symm hne3)).mv hm8 (Ne.symm hne3)).alloc ob
   have hV9:∀ob ob':Obj,XpB ((W8.alloc ob).alloc ob') g3 v:=fun ob ob'=>(hV8 ob).alloc ob'
   have e0:=fun ob=>(hV8 ob).c0
   have e1:=fun ob=>(hV8 ob).c1
   have e2:=fun ob=>(hV8 ob).c2
   have e3:=fun ob=>(hV8 ob).c3
   have e4:=fun ob=>(hV8 ob).c4
   have e5:=fun ob=>(hV8 ob).c5
   have j0:=fun ob ob'=>(hV9 ob ob').c0
   have j1:=fun ob ob'=>(hV9 ob ob').c1
   have j2:=fun ob ob'=>(hV9 ob ob').c2
   have j3:=fun ob ob'=>(hV9 ob ob').c3
   have j4:=fun ob ob'=>(hV9 ob ob').c4
   have j5:=fun ob ob'=>(hV9 ob ob').c5
   have f0:=fun ob ob'=>(hV9 ob ob').fr 0
   have f1:=fun ob ob'=>(hV9 ob ob').fr 1
   have f2:=fun ob ob'=>(hV9 ob ob').fr 2
   have f3:=fun ob ob'=>(hV9 ob ob').fr 3
   have f4:=fun ob ob'=>(hV9 ob ob').fr 4
   have f5:=fun ob ob'=>(hV9 ob ob').fr 5
   have HV9:=h_ hV9
   have HP8:=h_ hp8
   have HM8:=h_ (hm8A.out.trans hm8)
   have hs8:(wr.setCell ⟨b,1,none⟩ (.int .i64 ((q':Int)+1))).heap.size≤W8.heap.size:=World.grownBy.size hm8
   clear hV8 hV9 hp8 hm8 HC hvu r1 rf1 HXV
   go_wp2_with fail
   obtain ⟨W9,hW9⟩:∃W,W=six ((W8.alloc (xob u)).alloc (xob2 v u)) g3 ⟨5,0,⟨#[]⟩,N,some ⟨W8.heap.size+1,0,none⟩,2,2,v.p⟩:=⟨_,rfl⟩
   have hsz:(W8.alloc (xob u)).heap.size=W8.heap.size+1:=by simp
   have HU9:Hid (XpB W9 g3 ⟨5,0,⟨#[]⟩,N,some ⟨W8.heap.size+1,0,none⟩,2,2,v.p⟩):=by rw [hW9];exact (HV9.out (xob u) (xob2 v u)).all _
   have HX9:Hid (XpB W9 g1 ev0):=by rw [hW9];exact (((HX1.out.mv HM8.out (Ne.symm hne1)).alloc _).alloc _).mv (six_mv _ g3 _) hne13
   have HM9:Hid (Mv b w W9):=by
    rw [hW9]
    exact six_put (((HM.out.trans HM8.out).trans (Mv.of b ((b_ _ W8).alloc (n_ _) (xob u)))).trans (Mv.of b ((b_ _ _).alloc (n_ _) _))) (by omega) _
   have HA9:Hid (TkAt W9 A n xs):=HAw.out.mv HM9.out HAB.out
   have HR9:Hid (RX W9 W0.heap.size b n c d g3 A xs ⟨5,0,⟨#[]⟩,N,some ⟨W8.heap.size+1,0,none⟩,2,2,v.p⟩ ((Pf (k+1) d rs).andThen fun y r'=>.ok (.both N x y) r')):=by
    rw [hW9]
    have h1:NX (W8.alloc (xob u)) W0.heap.size g3 x.gx v:=(HNX.out.mv HM8.out (.inl hbl)).mv (Mv.of b ((b_ _ W8).alloc (n_ _) (xob u))) (.inl hbl)
    have h2:=RX.both h1 (HP8.out.alloc (xob u)) hg3w (by omega) (by omega) N
    rw [hsz] at h2
    exact h2.mv (six_mv _ g3 _) rfl hne3
   have HRW:=h_ (erow_rp HR9.out.rp HA9.out hk)
   unfold six xob xob2 at hW9
   dsimp only at hW9
   rw [←hW9]
   have hs10:W8.heap.size≤W9.heap.size:=by rw [hW9];simp [World.setCell];omega
   clear hW9 HV9 HP8 HM8 HX1 HNX hm8A HA HM e0 e1 e2 e3 e4 e5 j0 j1 j2 j3 j4 j5 f0 f1 f2 f3 f4 f5
   refine HRW.out.mono ?_
   rintro e' W10 ⟨rfl,hb10⟩
   have H1:=h_ (HU9.out.below hb10)
   have H2:=h_ (HX9.out.below hb10)
   have H3:=h_ (HR9.out.below hb10 hbl)
   have H4:=h_ (HM9.out.trans (Mv.of b hb10))
   have H5:=h_ (HA9.out.below hb10)
   have H6:Hid (Pf k d r=((Pf (k+1) d rs).andThen fun y r'=>.ok (.both N x y) r').andThen fun z r'=>Pm k d z r'):=by
    have h1:=HPF.out
    have h2:opN k (.ok x (t::rs))≠0:=hop
    have h3:Pf k d r=Pm k d x (t::rs):=h1
    rw [opN_more hk h2,hN] at h3
    exact h3
   have hl:∀z r',((Pf (k+1) d rs).andThen fun y r'=>PR.ok (.both N x y) r')=.ok z r'→r'.length<rs.length:=fun z r' h=>by
    obtain ⟨y,r1,h1,h2⟩:=PR.andThen_ok h
    injection h2 with _ h2
    rw [←h2]
    exact Pf_len h1
   have H7:Hid (∀z r',((Pf (k+1) d rs).andThen fun y r'=>PR.ok (.both N x y) r')=.ok z r'→r'.length≤m):=fun z r' h=>by
    have h1:=hl z r' h
    have h2:=HLE.out x _ rfl
    simp only [List.length_cons] at h2
    omega
   have HL:=h_ hl
   clear hb10 hl
   go_wp2_with fail
   go_roundw
   case rel=>exact ⟨_,_,rfl,H1,H2,H3,H4,H5,H6,H7⟩
   case measure =>
    have h3:=H3.out
    generalize hE:((Pf (k+1) d rs).andThen fun y r'=>PR.ok (.both N x y) r')=E at h3 HL ⊢
    rw [HQ1.out]
    have hNN:¬intOf (.int .i64 N)=0:=h0
    rw [if_neg hNN]
    by_cases hE0:opN k E=0
    ·rw [if_pos (show intOf (.int .i64 (opN k E))=0 from hE0)]
     simp [intOf]
     omega
    ·rw [if_neg (show ¬intOf (.int .i64 (opN k E))=0 from hE0)]
     cases E with
     |out=>exact absurd rfl hE0
     |bad _ _=>exact absurd rfl hE0
     |ok z rz =>
      obtain ⟨_,_,q2,hq2,hd2,hr2⟩:=h3
      rw [hr2.c1]
      have hlz:=HL.out z rz rfl
      have d1:=congrArg List.length HDR.out
      have d2:=congrArg List.length hd2
      rw [List.length_drop] at d1 d2
      simp only [List.length_cons] at d1
      simp [intOf]
      omega
theorem efrom_all (m:Nat) (h:EOne m):∀j k,k+j=6→EFrom m k
 |0,k,e=>by
  obtain rfl:k=6:=by omega
  exact efrom_six m h
 |j+1,k,e=>efrom_row m k (by omega) (efrom_all m h j (k+1) (by omega))
theorem eone_all:∀m,EOne m
 |0=>fun w b n c q d A xs r hm _ _ _ _ he _ _=>by
  exfalso
  obtain ⟨t,r',rfl⟩:=ends_cons he
  simp at hm
 |m+1=>eone_any m (eone_all m) (efrom_all m (eone_all m) 6 0 rfl)
theorem efrom_any (w:World) (b n c q d k:Nat) (A:Option Addr) (xs r:List Tk) (hk:k≤6) (h:RdB w b A n c q d 0 0) (hA:TkAt w A n xs) (hAb:∀g o,A=some ⟨g,o,none⟩→g≠b) (hq:xs.drop q=r) (he:TkEnds r) (hn:n≤1000000000) (hd:d≤20) :
  Calls Tryz.prog 111 #[.pointer (some ⟨b,0,none⟩),.int .i64 (k:Int)] w fun e w'=>∃v:EV,e=.returned v.val∧RP w' w.heap.size b n c d A xs v (Pf k d r)∧Mv b w w' :=
 efrom_all r.length (eone_all _) (6-k) k (by omega) w b n c q d A xs r (n_ _) h hA hAb hq he hn hd
end Go.Proofs.YtcddbfdbhjkjgaaGreatDoor
