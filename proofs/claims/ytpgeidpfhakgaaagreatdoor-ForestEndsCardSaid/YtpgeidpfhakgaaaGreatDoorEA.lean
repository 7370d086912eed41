import Derived.Test.YtpgeidpfhakgaaaGreatDoorQh
import Derived.Test.YtpgeidpfhakgaaaGreatDoorQXF
import Derived.Test.YtpgeidpfhakgaaaGreatDoorQXE
import Derived.Test.YtpgeidpfhakgaaaGreatDoorQXA
set_option maxHeartbeats 12800000
set_option maxRecDepth 20000
namespace Go.Proofs.YtpgeidpfhakgaaaGreatDoor
open Go.RowKit
def PsB (w:World) (b:Nat) (A:Option Addr) (n c:Nat) (q d:Nat):Prop:=w.heap[b]?=some (.cells #[.slice A n c,.int .i64 (q:Int),.int .i64 (d:Int)] 258 (0,0))
section
variable {w w':World} {b n c q d:Nat} {A:Option Addr}
theorem PsB.lt (h:PsB w b A n c q d):b<w.heap.size:=by
 rcases Nat.lt_or_ge b w.heap.size with hlt|hge
 ·exact hlt
 ·unfold PsB at h;rw [Array.getElem?_eq_none hge] at h;cases h
theorem PsB.c0 (h:PsB w b A n c q d):w.cell? ⟨b,0,none⟩=some (.slice A n c):=cell_of_row w b 0 _ _ _ h
theorem PsB.c1 (h:PsB w b A n c q d):w.cell? ⟨b,1,none⟩=some (.int .i64 (q:Int)):=cell_of_row w b 1 _ _ _ h
theorem PsB.c2 (h:PsB w b A n c q d):w.cell? ⟨b,2,none⟩=some (.int .i64 (d:Int)):=cell_of_row w b 2 _ _ _ h
theorem PsB.fr (h:PsB w b A n c q d) (i:Nat):w.frozen? ⟨b,i,none⟩=false:=by
 unfold PsB at h;simp [World.frozen?,h]
theorem PsB.below (h:PsB w b A n c q d) (hb:Below w.heap.size w w'):PsB w' b A n c q d:=(hb.block b h.lt).trans h
theorem PsB.alloc (h:PsB w b A n c q d) (o:Obj):PsB (w.alloc o) b A n c q d:=(Below.heap_alloc w o b h.lt).trans h
theorem PsB.mv {g:Nat} (h:PsB w b A n c q d) (hb:Mv g w w') (hn:b≠g):PsB w' b A n c q d:=(hb.block h.lt hn).trans h
theorem PsB.set1 (h:PsB w b A n c q d) (q':Nat):PsB (w.setCell ⟨b,1,none⟩ (.int .i64 (q':Int))) b A n c q' d:=heap_setCell_same w b 1 _ _ _ h
theorem PsB.set2 (h:PsB w b A n c q d) (d':Nat):PsB (w.setCell ⟨b,2,none⟩ (.int .i64 (d':Int))) b A n c q d':=heap_setCell_same w b 2 _ _ _ h
end
theorem FtB.mv {w w':World} {f g:Nat} {x y:Value} (h:FtB w f x y) (hm:Mv g w w') (hne:f≠g):FtB w' f x y:=h.grown hm (by simpa using hne)
def ftV (c p:Int):Value:=.agg #[.int .i64 c,.int .i64 p]
theorem TkB.res1 {w:World} {g:Nat} {x0 x1 x2 x3:Value} {fn:Func} {p:Tmp} (hr:fn.results=#[.cell p 131]) (tmps:Array Value) (hp:tmps.getD p undef=.pointer (some ⟨g,0,none⟩)) (h:TkB w g x0 x1 x2 x3) :
  (results fn tmps).run Tryz.prog w=.ok (.agg #[x0,x1,x2,x3]) w:=by
 have hp':tmps[p]?.getD undef=.pointer (some ⟨g,0,none⟩):=by simpa using hp
 simp [results,hr,hp',asAddr,h.load]
theorem FtB.res1 {w:World} {g:Nat} {x0 x1:Value} {fn:Func} {p:Tmp} (hr:fn.results=#[.cell p 59]) (tmps:Array Value) (hp:tmps.getD p undef=.pointer (some ⟨g,0,none⟩)) (h:FtB w g x0 x1) :
  (results fn tmps).run Tryz.prog w=.ok (.agg #[x0,x1]) w:=by
 have hp':tmps[p]?.getD undef=.pointer (some ⟨g,0,none⟩):=by simpa using hp
 simp [results,hr,hp',asAddr,h.load]
theorem fld_tok (x0 x1 x2 x3:Value) (w:World):(Instr.field 131 (.agg #[x0,x1,x2,x3]) 3).run Tryz.prog w=.ok x3 w:=by kernel_rfl
theorem below_four {B g:Nat} {u w:World} (h:Below B u w) (hB:B<=g) (y0 y1 y2 y3:Value):Below B u ((((w.setCell ⟨g,0,none⟩ y0).setCell ⟨g,1,none⟩ y1).setCell ⟨g,2,none⟩ y2).setCell ⟨g,3,none⟩ y3) :=
 (((h.setCell (p:=⟨g,0,none⟩) hB y0).setCell (p:=⟨g,1,none⟩) hB y1).setCell (p:=⟨g,2,none⟩) hB y2).setCell (p:=⟨g,3,none⟩) hB y3
theorem now_any (w:World) (b n c q d:Nat) (A:Option Addr) (xs:List Tk) (t:Tk) (h:PsB w b A n c q d) (hA:TkAt w A n xs) (ht:xs[q]?=some t) :
  Calls Tryz.prog 263 #[.pointer (some ⟨b,0,none⟩)] w λ e w'=>e=.returned (tkV t)/\Below w.heap.size w w':=by
 have hq:q<n:=by rw [<-hA.1];exact (List.getElem?_eq_some_iff.1 ht).1
 obtain ⟨g,o,rfl,x0,x1,x2,x3⟩:=hA.2 q t ht
 obtain ⟨X,hX⟩:∃X,txV t.text=.string X:=⟨_,rfl⟩
 have HV:Hid (tkV t=.agg #[.int .i64 t.kind,.string X,.int .i64 t.num,.int .i64 t.at_]):=by show _=_;unfold tkV;rw [hX]
 rw [hX] at x1
 obtain ⟨g1,hg1⟩:∃g1,g1=w.heap.size:=⟨_,rfl⟩
 obtain ⟨W0,hW0⟩:∃W0,W0=w.alloc (.cells #[.int .i64 0,.string ⟨#[]⟩,.int .i64 0,.int .i64 0] 131):=⟨_,rfl⟩
 have HT:Hid (TkB W0 g1 (.int .i64 0) (.string ⟨#[]⟩) (.int .i64 0) (.int .i64 0)):=by rw [hW0,hg1];exact TkB.new _ _ _ _ _
 have HB0:Hid (Below w.heap.size w W0):=by rw [hW0];exact (b_ _ w).alloc (n_ _) _
 have hg1w:w.heap.size<=g1:=by omega
 have kb:∀{p:Addr} {u:Value},w.cell? p=some u->W0.cell? p=some u:=λ hc=>by rw [hW0,World.cell?_alloc_lt _ _ _ (World.block_lt_of_cell? w _ hc)];exact hc
 have r0:=kb h.c0;have r1:=kb h.c1;replace x0:=kb x0;replace x1:=kb x1;replace x2:=kb x2;replace x3:=kb x3
 have hq':(q:Int)<n:=by omega
 have f0:=HT.out.fr 0;have f1:=HT.out.fr 1;have f2:=HT.out.fr 2;have f3:=HT.out.fr 3;have z0:=HT.out.c0;have z1:=HT.out.c1;have z2:=HT.out.c2;have z3:=HT.out.c3;clear h hA ht hX kb;go_enter Tryz.func263,Tryz.ntmps263;go_upto_region 1 with fail;rw [<-hW0,<-hg1];clear hW0 hg1
 go_region
 all_goals
  go_wp2_with fail;refine bodyPost_ret (TkB.res1 (g:=g1) rfl _ rfl (HT.out.all (.int .i64 t.kind) (.string X) (.int .i64 t.num) (.int .i64 t.at_))) rfl ?_;exact ⟨by rw [HV.out],(below_four HB0.out hg1w _ _ _ _).drew⟩
theorem advance_any (w:World) (b n c q d:Nat) (A:Option Addr) (h:PsB w b A n c q d) (hq:q<1000000000) :
  Calls Tryz.prog 272 #[.pointer (some ⟨b,0,none⟩)] w λ e w'=>e=.returned (.tuple #[])/\PsB w' b A n c (q+1) d/\Mv b w w':=by
 have HS:=h_ h;have r1:=h.c1;have f1:=h.fr 1
 have hq':(q:Int)<1000000000:=by omega
 clear h;go_enter Tryz.func272,Tryz.ntmps272;go_wp2_with fail;go_end0;have h1:=HS.out.set1 (q+1);rw [Int.natCast_add] at h1;exact ⟨rfl,h1,(Mv.refl b w).set 1 _⟩
theorem fault_any (w:World) (b n c q d:Nat) (A:Option Addr) (xs:List Tk) (t:Tk) (code:Int) (h:PsB w b A n c q d) (hA:TkAt w A n xs) (ht:xs[q]?=some t) :
  Calls Tryz.prog 278 #[.pointer (some ⟨b,0,none⟩),.int .i64 code] w λ e w'=>e=.returned (ftV code t.at_)/\Below w.heap.size w w':=by
 obtain ⟨g1,hg1⟩:∃g1,g1=w.heap.size:=⟨_,rfl⟩
 obtain ⟨W0,hW0⟩:∃W0,W0=w.alloc (.cells #[.int .i64 0,.int .i64 0] 59):=⟨_,rfl⟩
 have HT:Hid (FtB W0 g1 (.int .i64 0) (.int .i64 0)):=by rw [hW0,hg1];exact FtB.new _ _ _
 have HB0:Hid (Below w.heap.size w W0):=by rw [hW0];exact (b_ _ w).alloc (n_ _) _
 have hg1w:w.heap.size<=g1:=by omega
 have HN:=h_ (now_any W0 b n c q d A xs t (h.below HB0.out) (hA.below HB0.out) ht)
 obtain ⟨X,hX⟩:∃X,txV t.text=.string X:=⟨_,rfl⟩
 unfold tkV at HN;rw [hX] at HN;clear h hA ht hX;go_enter Tryz.func278,Tryz.ntmps278;go_upto_region 1 with fail;rw [<-hW0,<-hg1];clear hW0 hg1;go_wp2_with fail;refine HN.out.mono ?_;rintro e w1 ⟨rfl,hb⟩;have HT1:=h_ (HT.out.below hb);have HB1:=h_ (HB0.out.trans (hb.mono HB0.out.size));have f0:=HT1.out.fr 0;have f1:=HT1.out.fr 1;have z0:=HT1.out.c0;have z1:=HT1.out.c1;have hfl:=fld_tok;clear hb HN;go_wp2_with fail;refine bodyPost_ret (FtB.res1 (g:=g1) rfl _ rfl (HT1.out.all (.int .i64 code) (.int .i64 t.at_))) rfl ?_;exact ⟨rfl,below_two HB1.out hg1w _ _⟩
theorem isEnd_any (w:World) (t:Tk) :
  Calls Tryz.prog 241 #[tkV t] w λ e w'=>e=.returned (.bool (t.kind==5))/\Below w.heap.size w w':=by
 obtain ⟨X,hX⟩:∃X,txV t.text=.string X:=⟨_,rfl⟩
 unfold tkV;rw [hX];clear hX;go_enter Tryz.func241,Tryz.ntmps241;go_wp2_with fail;go_ret;exact ⟨rfl,(b_ _ w).alloc (n_ _) _⟩
theorem isInt_any (w:World) (t:Tk) (hL:Lex t) :
  Calls Tryz.prog 262 #[tkV t] w λ e w'=>e=.returned (.bool (t.kind==3))/\Below w.heap.size w w':=by
 obtain ⟨X,hX⟩:∃X,txV t.text=.string X:=⟨_,rfl⟩
 unfold tkV;rw [hX];clear hX
 cases hk:t.kind==3 with
 |true =>
  have h0:0<=t.num:=(hL.2 (eq_of_beq hk)).1;clear hL;go_enter Tryz.func262,Tryz.ntmps262;go_wp2_with fail;go_ret;exact ⟨by simp,(b_ _ w).alloc (n_ _) _⟩
 |false =>
  clear hL;go_enter Tryz.func262,Tryz.ntmps262;go_wp2_with fail;go_ret;exact ⟨rfl,(b_ _ w).alloc (n_ _) _⟩
theorem nm_size {s:List UInt8} (h:isNm s=true):s.length<=24:=by
 unfold isNm at h;simp at h;omega
theorem isName_any (w:World) (t:Tk) (hL:Lex t) (hK:KwAt w) :
  Calls Tryz.prog 277 #[tkV t] w λ e w'=>e=.returned (.bool (t.kind==1))/\Below w.heap.size w w':=by
 obtain ⟨X,hX⟩:∃X,txV t.text=.string X:=⟨_,rfl⟩
 have eX:X.data.toList=t.text:=by
  unfold txV at hX;injection hX with hX;rw [<-hX]
 unfold tkV;rw [hX];clear hX
 cases hk:t.kind==1 with
 |true =>
  have h0:=hL.1 (eq_of_beq hk)
  have hsz:X.size<=140737488351232:=by
   have:=nm_size h0;rw [<-eX] at this;have e:X.data.toList.length=X.size:=rfl;omega
  have HN:=h_ (λ (W:World) (hb:Below w.heap.size w W)=>name_any X W hsz (hK.below hb));rw [eX,h0] at HN
  obtain ⟨W0,hW0⟩:∃W0,W0=w.alloc (.cells #[.int .i64 t.kind,.string X,.int .i64 t.num,.int .i64 t.at_] 131):=⟨_,rfl⟩
  have HB0:Hid (Below w.heap.size w W0):=by rw [hW0];exact (b_ _ w).alloc (n_ _) _
  have HT:Hid (TkB W0 w.heap.size (.int .i64 t.kind) (.string X) (.int .i64 t.num) (.int .i64 t.at_)):=by rw [hW0];exact TkB.new _ _ _ _ _
  have z0:=HT.out.c0;have z1:=HT.out.c1;clear hL hK h0 hsz;go_enter Tryz.func277,Tryz.ntmps277;go_upto_region 1 with fail;rw [<-hW0];clear hW0;go_wp2_with fail;refine (HN.out W0 HB0.out).mono ?_;rintro e w1 ⟨rfl,rfl⟩;go_wp2_with fail;go_ret;exact ⟨by simp,HB0.out⟩
 |false =>
  clear hL hK;go_enter Tryz.func277,Tryz.ntmps277;go_wp2_with fail;go_ret;exact ⟨rfl,(b_ _ w).alloc (n_ _) _⟩
theorem begins_with (w:World) (b n c q d:Nat) (A:Option Addr) (xs:List Tk) (t:Tk) (k:Int) (S:ByteArray) (h:PsB w b A n c q d) (hA:TkAt w A n xs) (ht:xs[q]?=some t) :
  Calls Tryz.prog 265 #[.pointer (some ⟨b,0,none⟩),.int .i64 k,.string S] w λ e w'=>e=.returned (.bool (decide (t.kind=k)&&decide (t.text=S.data.toList)))/\Below w.heap.size w w':=by
 obtain ⟨X,hX⟩:∃X,txV t.text=.string X:=⟨_,rfl⟩
 have eX:X.toList=t.text:=by
  unfold txV at hX;injection hX with hX;rw [<-hX,Lib.toList_data]
 have hsg:(decide (t.kind=k)&&decide (t.text=S.data.toList))=((t.kind==k)&&(X.toList==S.toList)):=by
  rw [eX,Lib.toList_data,Bool.eq_iff_iff];simp
 rw [hsg];have HN:=h_ (now_any w b n c q d A xs t h hA ht);unfold tkV at HN;rw [hX] at HN
 obtain ⟨d1,hd1⟩:∃d1,(t.kind==k)=d1:=⟨_,rfl⟩
 obtain ⟨d2,hd2⟩:∃d2,(X.toList==S.toList)=d2:=⟨_,rfl⟩
 rw [hd1,hd2];clear h hA ht hX eX hsg;go_enter Tryz.func265,Tryz.ntmps265;go_wp2_with fail;refine HN.out.mono ?_;rintro e w1 ⟨rfl,hb⟩;have HB':=h_ (hb.alloc hb.size (.cells #[.int .i64 t.kind,.string X,.int .i64 t.num,.int .i64 t.at_] 131));clear hb HN;cases d1
 ·go_wp2_with fail;go_ret;exact ⟨rfl,HB'.out⟩
 ·go_wp2_with fail;go_ret;exact ⟨by simp,HB'.out⟩
theorem unfit_any (w:World) (b n c q d:Nat) (A:Option Addr) (xs:List Tk) (t:Tk) (h:PsB w b A n c q d) (hA:TkAt w A n xs) (ht:xs[q]?=some t) :
  Calls Tryz.prog 276 #[.pointer (some ⟨b,0,none⟩)] w λ e w'=>e=.returned (ftV (wrC t) t.at_)/\Below w.heap.size w w':=by
 obtain ⟨g1,hg1⟩:∃g1,g1=w.heap.size:=⟨_,rfl⟩
 obtain ⟨W0,hW0⟩:∃W0,W0=w.alloc (.cells #[.int .i64 0,.int .i64 0] 59):=⟨_,rfl⟩
 have HT:Hid (FtB W0 g1 (.int .i64 0) (.int .i64 0)):=by rw [hW0,hg1];exact FtB.new _ _ _
 have HB0:Hid (Below w.heap.size w W0):=by rw [hW0];exact (b_ _ w).alloc (n_ _) _
 have hg1w:w.heap.size<=g1:=by omega
 have HN:=h_ (now_any W0 b n c q d A xs t (h.below HB0.out) (hA.below HB0.out) ht);have HE:=h_ (λ W=>isEnd_any W t);have HF:=h_ (λ (W:World) (hb:Below w.heap.size w W) (e:Int)=>fault_any W b n c q d A xs t e (h.below hb) (hA.below hb) ht)
 obtain ⟨V,hV⟩:∃V,tkV t=V:=⟨_,rfl⟩
 rw [hV] at HN HE;clear h hA ht hV;go_enter Tryz.func276,Tryz.ntmps276;go_upto_region 1 with fail;rw [<-hW0,<-hg1];clear hW0 hg1;go_wp2_with fail;refine HN.out.mono ?_;rintro e w1 ⟨rfl,hb⟩;have HT1:=h_ (HT.out.below hb);have HB1:=h_ (HB0.out.trans (hb.mono HB0.out.size));clear hb HN HT HB0;go_wp2_with fail;refine (HE.out w1).mono ?_;rintro e w2 ⟨rfl,hb⟩;have HT2:=h_ (HT1.out.below hb);have HB2:=h_ (HB1.out.trans (hb.mono HB1.out.size));clear hb HE HT1 HB1;have HC:=h_ (HF.out w2 HB2.out)
 cases hk:t.kind==5 with
 |true =>
  have HW:Hid (wrC t=3):=by show _=_;unfold wrC;rw [if_pos (eq_of_beq hk)]
  clear HF;go_wp2_with fail;refine (HC.out 3).mono ?_;rintro e w3 ⟨rfl,hb⟩;have HT3:=h_ (HT2.out.below hb);have HB3:=h_ (HB2.out.trans (hb.mono HB2.out.size));have f0:=HT3.out.fr 0;have f1:=HT3.out.fr 1;have z0:=HT3.out.c0;have z1:=HT3.out.c1;unfold ftV;clear hb HC;go_wp2_with fail;refine bodyPost_ret (FtB.res1 (g:=g1) rfl _ rfl (HT3.out.all (.int .i64 3) (.int .i64 t.at_))) rfl ?_;exact ⟨by rw [HW.out];rfl,below_two HB3.out hg1w _ _⟩
 |false =>
  have HW:Hid (wrC t=4):=by show _=_;unfold wrC;rw [if_neg (beq_eq_false_iff_ne.1 hk)]
  clear HF;go_wp2_with fail;refine (HC.out 4).mono ?_;rintro e w3 ⟨rfl,hb⟩;have HT3:=h_ (HT2.out.below hb);have HB3:=h_ (HB2.out.trans (hb.mono HB2.out.size));have f0:=HT3.out.fr 0;have f1:=HT3.out.fr 1;have z0:=HT3.out.c0;have z1:=HT3.out.c1;unfold ftV;clear hb HC;go_wp2_with fail;refine bodyPost_ret (FtB.res1 (g:=g1) rfl _ rfl (HT3.out.all (.int .i64 4) (.int .i64 t.at_))) rfl ?_;exact ⟨by rw [HW.out];rfl,below_two HB3.out hg1w _ _⟩
theorem isSg_dec (t:Tk) (s:List UInt8):(decide (t.kind=4)&&decide (t.text=s))=isSg t s:=rfl
theorem needSign_yes (w:World) (b n c q d:Nat) (A:Option Addr) (xs:List Tk) (t:Tk) (S:ByteArray) (h:PsB w b A n c q d) (hA:TkAt w A n xs) (ht:xs[q]?=some t) (hq:q<1000000000) (hs:isSg t S.data.toList=true) :
  Calls Tryz.prog 273 #[.pointer (some ⟨b,0,none⟩),.string S] w λ e w'=>e=.returned (ftV 0 0)/\PsB w' b A n c (q+1) d/\Mv b w w':=by
 obtain ⟨g1,hg1⟩:∃g1,g1=w.heap.size:=⟨_,rfl⟩
 obtain ⟨W0,hW0⟩:∃W0,W0=w.alloc (.cells #[.int .i64 0,.int .i64 0] 59):=⟨_,rfl⟩
 have HT:Hid (FtB W0 g1 (.int .i64 0) (.int .i64 0)):=by rw [hW0,hg1];exact FtB.new _ _ _
 have HB0:Hid (Below w.heap.size w W0):=by rw [hW0];exact (b_ _ w).alloc (n_ _) _
 have hg1b:g1≠b:=by have:=h.lt;omega
 have hg1w:w.heap.size<=g1:=by omega
 have HN:=h_ (begins_with W0 b n c q d A xs t 4 S (h.below HB0.out) (hA.below HB0.out) ht);rw [isSg_dec,hs] at HN;have HA:=h_ (λ (W:World) (hb:Below w.heap.size w W)=>advance_any W b n c q d A (h.below hb) hq);clear h hA ht hs;go_enter Tryz.func273,Tryz.ntmps273;go_upto_region 1 with fail;rw [<-hW0,<-hg1];clear hW0 hg1;go_wp2_with fail;refine HN.out.mono ?_;rintro e w1 ⟨rfl,hb⟩;have HT1:=h_ (HT.out.below hb);have HB1:=h_ (HB0.out.trans (hb.mono HB0.out.size));have HC:=h_ (HA.out w1 HB1.out);clear hb HN HT HB0 HA;go_wp2_with fail;refine HC.out.mono ?_;rintro e w2 ⟨rfl,hp,hm⟩;have HT2:=h_ (HT1.out.mv hm hg1b);have HM2:=h_ ((Mv.of b HB1.out).trans hm);have HP2:=h_ hp;have f0:=HT2.out.fr 0;have f1:=HT2.out.fr 1;have z0:=HT2.out.c0;have z1:=HT2.out.c1;clear hp hm HC;go_wp2_with fail;refine bodyPost_ret (FtB.res1 (g:=g1) rfl _ rfl (HT2.out.all (.int .i64 0) (.int .i64 0))) rfl ?_;exact ⟨rfl,HP2.out.mv (((Mv.refl g1 w2).set 0 _).set 1 _) (Ne.symm hg1b),(HM2.out.put 0 g1 hg1w _).put 1 g1 hg1w _⟩
theorem needSign_no (w:World) (b n c q d:Nat) (A:Option Addr) (xs:List Tk) (t:Tk) (S:ByteArray) (h:PsB w b A n c q d) (hA:TkAt w A n xs) (ht:xs[q]?=some t) (hs:isSg t S.data.toList=false) :
  Calls Tryz.prog 273 #[.pointer (some ⟨b,0,none⟩),.string S] w λ e w'=>e=.returned (ftV (wrC t) t.at_)/\Below w.heap.size w w':=by
 obtain ⟨g1,hg1⟩:∃g1,g1=w.heap.size:=⟨_,rfl⟩
 obtain ⟨W0,hW0⟩:∃W0,W0=w.alloc (.cells #[.int .i64 0,.int .i64 0] 59):=⟨_,rfl⟩
 have HT:Hid (FtB W0 g1 (.int .i64 0) (.int .i64 0)):=by rw [hW0,hg1];exact FtB.new _ _ _
 have HB0:Hid (Below w.heap.size w W0):=by rw [hW0];exact (b_ _ w).alloc (n_ _) _
 have hg1w:w.heap.size<=g1:=by omega
 have HN:=h_ (begins_with W0 b n c q d A xs t 4 S (h.below HB0.out) (hA.below HB0.out) ht);rw [isSg_dec,hs] at HN;have HA:=h_ (λ (W:World) (hb:Below w.heap.size w W)=>unfit_any W b n c q d A xs t (h.below hb) (hA.below hb) ht);clear h hA ht hs;go_enter Tryz.func273,Tryz.ntmps273;go_upto_region 1 with fail;rw [<-hW0,<-hg1];clear hW0 hg1;go_wp2_with fail;refine HN.out.mono ?_;rintro e w1 ⟨rfl,hb⟩;have HT1:=h_ (HT.out.below hb);have HB1:=h_ (HB0.out.trans (hb.mono HB0.out.size));have HC:=h_ (HA.out w1 HB1.out);clear hb HN HT HB0 HA;go_wp2_with fail;refine HC.out.mono ?_;rintro e w2 ⟨rfl,hb⟩;have HT2:=h_ (HT1.out.below hb);have HB2:=h_ (HB1.out.trans (hb.mono HB1.out.size));have f0:=HT2.out.fr 0;have f1:=HT2.out.fr 1;have z0:=HT2.out.c0;have z1:=HT2.out.c1;unfold ftV;clear hb HC;go_wp2_with fail;refine bodyPost_ret (FtB.res1 (g:=g1) rfl _ rfl (HT2.out.all (.int .i64 (wrC t)) (.int .i64 t.at_))) rfl ?_;exact ⟨rfl,below_two HB2.out hg1w _ _⟩
theorem needName_yes (w:World) (b n c q d:Nat) (A:Option Addr) (xs:List Tk) (t:Tk) (h:PsB w b A n c q d) (hA:TkAt w A n xs) (ht:xs[q]?=some t) (hq:q<1000000000) (hL:Lex t) (hK:KwAt w) (hk:t.kind=1) :
  Calls Tryz.prog 274 #[.pointer (some ⟨b,0,none⟩)] w λ e w'=>e=.returned (.tuple #[txV t.text,ftV 0 0])/\PsB w' b A n c (q+1) d/\Mv b w w':=by
 obtain ⟨X,hX⟩:∃X,txV t.text=.string X:=⟨_,rfl⟩
 have eX:X.data.toList=t.text:=by
  unfold txV at hX;injection hX with hX;rw [<-hX]
 have hsz:X.size<=140737488351232:=by
  have:=nm_size (hL.1 hk);rw [<-eX] at this;have e:X.data.toList.length=X.size:=rfl;omega
 obtain ⟨g1,hg1⟩:∃g1,g1=w.heap.size:=⟨_,rfl⟩
 obtain ⟨W0,hW0⟩:∃W0,W0=w.alloc (.cells #[.int .i64 0,.int .i64 0] 59):=⟨_,rfl⟩
 have HT:Hid (FtB W0 g1 (.int .i64 0) (.int .i64 0)):=by rw [hW0,hg1];exact FtB.new _ _ _
 have HB0:Hid (Below w.heap.size w W0):=by rw [hW0];exact (b_ _ w).alloc (n_ _) _
 have hg1b:g1≠b:=by have:=h.lt;omega
 have hg1w:w.heap.size<=g1:=by omega
 have HN:=h_ (now_any W0 b n c q d A xs t (h.below HB0.out) (hA.below HB0.out) ht);have HI:=h_ (λ (W:World) (hb:Below w.heap.size w W)=>isName_any W t hL (hK.below hb));have HCL:=h_ (λ (W:World)=>clone_any X W hsz)
 have hk1:(t.kind==1)=true:=by rw [hk];rfl
 rw [hk1] at HI;unfold tkV at HN HI;rw [hX] at HN HI ⊢;have HA:=h_ (λ (W:World) (hb:Below w.heap.size w W)=>advance_any W b n c q d A (h.below hb) hq);have hbw:=h.lt;clear h hA ht hX eX hsz hL hK hk hk1;go_enter Tryz.func274,Tryz.ntmps274;go_upto_region 1 with fail;rw [<-hW0,<-hg1];clear hW0 hg1;go_wp2_with fail;refine HN.out.mono ?_;rintro e w1 ⟨rfl,hb⟩
 obtain ⟨g2,hg2⟩:∃g2,g2=w1.heap.size:=⟨_,rfl⟩
 obtain ⟨W1,hW1⟩:∃W1,W1=w1.alloc (.cells #[.int .i64 t.kind,.string X,.int .i64 t.num,.int .i64 t.at_] 131):=⟨_,rfl⟩
 have HK1:Hid (TkB W1 g2 (.int .i64 t.kind) (.string X) (.int .i64 t.num) (.int .i64 t.at_)):=by rw [hW1,hg2];exact TkB.new _ _ _ _ _
 have HT1:Hid (FtB W1 g1 (.int .i64 0) (.int .i64 0)):=by rw [hW1];exact (HT.out.below hb).alloc _
 have HB1:Hid (Below w.heap.size w W1):=by rw [hW1];exact (HB0.out.trans (hb.mono HB0.out.size)).alloc (by have:=HB0.out.size;have:=hb.size;omega) _
 have hg2b:g2≠b:=by have:=HB0.out.size;have:=hb.size;omega
 have z0:=HK1.out.c0;have z1:=HK1.out.c1;have z2:=HK1.out.c2;have z3:=HK1.out.c3;have HC:=h_ (HI.out W1 HB1.out);clear hb HN HT HB0 HI;go_upto_region 2 with fail;rw [<-hW1,<-hg2];clear hW1 hg2;go_wp2_with fail;refine HC.out.mono ?_;rintro e w2 ⟨rfl,hb⟩;have HT2:=h_ (HT1.out.below hb);have HK2:=h_ (HK1.out.below hb);have HB2:=h_ (HB1.out.trans (hb.mono HB1.out.size));have HC2:=h_ (HA.out w2 HB2.out);clear hb HC HT1 HK1 HB1 HA z0 z1 z2 z3;go_wp2_with fail;refine HC2.out.mono ?_;rintro e w3 ⟨rfl,hp,hm⟩;have HT3:=h_ (HT2.out.mv hm hg1b);have HK3:=h_ (HK2.out.mv hm hg2b);have HM3:=h_ ((Mv.of b HB2.out).trans hm);have HP3:=h_ hp;have z1:=HK3.out.c1;clear hp hm HC2 HT2 HK2 HB2;go_wp2_with fail;refine (HCL.out w3).mono ?_;rintro e w4 ⟨rfl,hb⟩;have HT4:=h_ (HT3.out.below hb);have HM4:=h_ (HM3.out.trans (Mv.of b hb));have HP4:=h_ (HP3.out.below hb);have f0:=HT4.out.fr 0;have f1:=HT4.out.fr 1;have z0:=HT4.out.c0;have z3:=HT4.out.c1;clear hb HCL HT3 HM3 HP3 z1;go_wp2_with fail;refine bodyPost_ret (FtB.res (g:=g1) rfl _ rfl (HT4.out.all (.int .i64 0) (.int .i64 0))) rfl ?_;exact ⟨rfl,HP4.out.mv (((Mv.refl g1 w4).set 0 _).set 1 _) (Ne.symm hg1b),(HM4.out.put 0 g1 hg1w _).put 1 g1 hg1w _⟩
theorem needName_no (w:World) (b n c q d:Nat) (A:Option Addr) (xs:List Tk) (t:Tk) (h:PsB w b A n c q d) (hA:TkAt w A n xs) (ht:xs[q]?=some t) (hL:Lex t) (hK:KwAt w) (hk:¬t.kind=1) :
  Calls Tryz.prog 274 #[.pointer (some ⟨b,0,none⟩)] w λ e w'=>e=.returned (.tuple #[.string ⟨#[]⟩,ftV (wrC t) t.at_])/\Below w.heap.size w w':=by
 obtain ⟨X,hX⟩:∃X,txV t.text=.string X:=⟨_,rfl⟩
 obtain ⟨g1,hg1⟩:∃g1,g1=w.heap.size:=⟨_,rfl⟩
 obtain ⟨W0,hW0⟩:∃W0,W0=w.alloc (.cells #[.int .i64 0,.int .i64 0] 59):=⟨_,rfl⟩
 have HT:Hid (FtB W0 g1 (.int .i64 0) (.int .i64 0)):=by rw [hW0,hg1];exact FtB.new _ _ _
 have HB0:Hid (Below w.heap.size w W0):=by rw [hW0];exact (b_ _ w).alloc (n_ _) _
 have hg1w:w.heap.size<=g1:=by omega
 have HN:=h_ (now_any W0 b n c q d A xs t (h.below HB0.out) (hA.below HB0.out) ht);have HI:=h_ (λ (W:World) (hb:Below w.heap.size w W)=>isName_any W t hL (hK.below hb));have hk1:(t.kind==1)=false:=beq_eq_false_iff_ne.2 hk;rw [hk1] at HI;unfold tkV at HN HI;rw [hX] at HN HI;have HA:=h_ (λ (W:World) (hb:Below w.heap.size w W)=>unfit_any W b n c q d A xs t (h.below hb) (hA.below hb) ht);clear h hA ht hX hL hK hk hk1;go_enter Tryz.func274,Tryz.ntmps274;go_upto_region 1 with fail;rw [<-hW0,<-hg1];clear hW0 hg1;go_wp2_with fail;refine HN.out.mono ?_;rintro e w1 ⟨rfl,hb⟩
 obtain ⟨g2,hg2⟩:∃g2,g2=w1.heap.size:=⟨_,rfl⟩
 obtain ⟨W1,hW1⟩:∃W1,W1=w1.alloc (.cells #[.int .i64 t.kind,.string X,.int .i64 t.num,.int .i64 t.at_] 131):=⟨_,rfl⟩
 have HK1:Hid (TkB W1 g2 (.int .i64 t.kind) (.string X) (.int .i64 t.num) (.int .i64 t.at_)):=by rw [hW1,hg2];exact TkB.new _ _ _ _ _
 have HT1:Hid (FtB W1 g1 (.int .i64 0) (.int .i64 0)):=by rw [hW1];exact (HT.out.below hb).alloc _
 have HB1:Hid (Below w.heap.size w W1):=by rw [hW1];exact (HB0.out.trans (hb.mono HB0.out.size)).alloc (by have:=HB0.out.size;have:=hb.size;omega) _
 have z0:=HK1.out.c0;have z1:=HK1.out.c1;have z2:=HK1.out.c2;have z3:=HK1.out.c3;have HC:=h_ (HI.out W1 HB1.out);clear hb HN HT HB0 HI;go_upto_region 2 with fail;rw [<-hW1,<-hg2];clear hW1 hg2;go_wp2_with fail;refine HC.out.mono ?_;rintro e w2 ⟨rfl,hb⟩;have HT2:=h_ (HT1.out.below hb);have HB2:=h_ (HB1.out.trans (hb.mono HB1.out.size));have HC2:=h_ (HA.out w2 HB2.out);clear hb HC HT1 HK1 HB1 HA z0 z1 z2 z3;go_wp2_with fail;refine HC2.out.mono ?_;rintro e w3 ⟨rfl,hb⟩;have HT3:=h_ (HT2.out.below hb);have HB3:=h_ (HB2.out.trans (hb.mono HB2.out.size));have f0:=HT3.out.fr 0;have f1:=HT3.out.fr 1;have z0:=HT3.out.c0;have z3:=HT3.out.c1;unfold ftV;clear hb HC2 HT2 HB2;go_wp2_with fail;refine bodyPost_ret (FtB.res (g:=g1) rfl _ rfl (HT3.out.all (.int .i64 (wrC t)) (.int .i64 t.at_))) rfl ?_;exact ⟨rfl,below_two HB3.out hg1w _ _⟩
def sgs:List (List UInt8):=[[],[43],[45],[42],[47],[37],[60],[60,61],[62],[62,61],[61,61],[33,61],[38,38],[124,124],[45],[33]]
def sgVals:List Value:=sgs.map λ k=>Value.string ⟨k.toArray⟩
def SgAt (w:World):Prop:=∃t fr,w.heap[1]?=some (.cells sgVals.toArray t fr)
theorem SgAt.lt {w:World} (h:SgAt w):1<w.heap.size:=by
 obtain ⟨t,fr,h⟩:=h;rcases Nat.lt_or_ge 1 w.heap.size with h'|h'
 ·exact h'
 ·rw [Array.getElem?_eq_none h'] at h;cases h
theorem SgAt.below {w w':World} (h:SgAt w) (hb:Below w.heap.size w w'):SgAt w':=by
 have hl:=h.lt;obtain ⟨t,fr,h⟩:=h;exact ⟨t,fr,by rw [hb.block _ hl];exact h⟩
theorem SgAt.cell {w:World} (h:SgAt w) {k:Nat} {x:List UInt8} (hx:sgs[k]?=some x):w.cell? ⟨1,k,none⟩=some (.string ⟨x.toArray⟩):=by
 obtain ⟨t,fr,h⟩:=h;rw [cell_of_row w 1 k _ _ _ h];simp [sgVals,hx]
def opOk (k i:Nat):Bool:=match (rowOps k)[i]? with
 |none=>true
 |some o=>decide (0<=o.2)&&decide (o.2.toNat<16)&&decide (sgs[o.2.toNat]?=some o.1)&&decide (o.2≠0)
theorem opOk_all:∀k:Fin 6,∀i:Fin 4,opOk k.1 i.1=true:=by decide
theorem op_nat {k i:Nat} {o:List UInt8×Int} (hk:k<6) (h:(rowOps k)[i]?=some o):∃p:Nat,o.2=(p:Int)/\p<16/\sgs[p]?=some o.1/\o.2≠0:=by
 have hi:i<4:=by
  have h1:=(List.getElem?_eq_some_iff.1 h).1;have h2:=rowOps_len k;omega
 have:=opOk_all ⟨k,hk⟩ ⟨i,hi⟩;unfold opOk at this;rw [h] at this;simp only [Bool.and_eq_true,decide_eq_true_eq] at this;obtain ⟨⟨⟨h1,h2⟩,h3⟩,h4⟩:=this;exact ⟨o.2.toNat,by omega,h2,h3,h4⟩
def opQ (k q:Nat) (t:Tk):Nat:=if opAt k [t]=0 then q else q+1
theorem takeOp_any (w:World) (b n c q d k go:Nat) (A:Option Addr) (xs:List Tk) (t:Tk) (h:PsB w b A n c q d) (hA:TkAt w A n xs) (ht:xs[q]?=some t) (hS:SgAt w) (hk:k<6) (hq:q<1000000000)
  (ho:∀(i:Nat) (o:List UInt8×Int),(rowOps k)[i]?=some o->w.cell? ⟨go,i,none⟩=some (.int .i64 o.2)) :
  Calls Tryz.prog 261 #[.pointer (some ⟨b,0,none⟩),.slice (some ⟨go,0,none⟩) (rowOps k).length (rowOps k).length] w λ e w' =>
   e=.returned (.int .i64 (opAt k [t]))/\PsB w' b A n c (opQ k q t) d/\Mv b w w':=by
 have HP:=h_ h;have HSG:=h_ (λ (W:World) (hb:Below w.heap.size w W) (S:ByteArray)=>begins_with W b n c q d A xs t 4 S (h.below hb) (hA.below hb) ht);have HAD:=h_ (λ (W:World) (hb:Below w.heap.size w W)=>advance_any W b n c q d A (h.below hb) hq);have HSS:=h_ hS;have HON:=h_ (λ (i:Nat) (o:List UInt8×Int) (h:(rowOps k)[i]?=some o)=>op_nat hk h)
 obtain ⟨L,hL⟩:∃L,rowOps k=L:=⟨_,rfl⟩
 have hLl:L.length<=4:=by rw [<-hL];exact rowOps_len k
 obtain ⟨m,hm⟩:∃m,L.length=m:=⟨_,rfl⟩
 have HLL:=h_ hL;have HM:=h_ hm;rw [hL] at ho HON ⊢;have HO:=h_ ho;rw [hm] at hLl ⊢;clear h hA ht hS ho hL hm;go_enter Tryz.func261,Tryz.ntmps261;go_wp2_with fail
 go_loopw [9] (λ iv wr=>∃i:Nat,i<=m/\iv=.int .i64 (i:Int)/\Hid (∀(j:Nat) (o:List UInt8×Int),j<i->L[j]?=some o->isSg t o.1=false)/\Hid (Below w.heap.size w wr)) (λ iv _=>m-(intOf iv).toNat)
 case atStart=>exact ⟨0,Nat.zero_le _,rfl,λ j o h=>absurd h (Nat.not_lt_zero _),b_ _ _⟩
 case round =>
  obtain ⟨i,hi,rfl,HNO,HBW⟩:=hrel
  by_cases him:i<m
  ·have him':(i:Int)<m:=by omega
   obtain ⟨o,hoi⟩:∃o,L[i]?=some o:=⟨_,List.getElem?_eq_getElem (by rw [HM.out];exact him)⟩
   obtain ⟨p,hp1,hp2,hp3,hp4⟩:=HON.out i o hoi
   have u1:wr.cell? ⟨go,i,none⟩=some (.int .i64 (p:Int)):=by
    have:=HO.out i o hoi;rw [HBW.out.cell (World.block_lt_of_cell? w _ this),this,hp1]
   obtain ⟨X,hX⟩:∃X:ByteArray,X=⟨o.1.toArray⟩:=⟨_,rfl⟩
   have hXl:X.data.toList=o.1:=by rw [hX]
   have u2:wr.cell? ⟨1,p,none⟩=some (.string X):=by
    rw [(HSS.out.below HBW.out).cell hp3,hX]
   have HS:=h_ (λ m'=>HSG.out (wr.drewN m') (HBW.out.trans ((drewN_below wr m').mono HBW.out.size)) X);rw [hXl,isSg_dec] at HS;have HOI:=h_ hoi;have HP1:=h_ (And.intro hp1 hp4)
   have hp16:(p:Int)<16:=by omega
   clear hX hXl hoi hp1 hp3 hp4
   obtain ⟨dd,hdd⟩:∃dd,isSg t o.1=dd:=⟨_,rfl⟩
   rw [hdd] at HS;have HDD:=h_ hdd;clear hdd;go_wp2_with fail
   go_region_with (go_at_call 265;refine (HS.out _).mono ?_;rintro e w3 ⟨rfl,hb3⟩)
   have HB3:Hid (Below w.heap.size w w3):=HBW.out.trans (((drewN_below wr _).trans (hb3)).mono HBW.out.size);clear hb3;cases dd
   ·have HR:Hid (∀(j:Nat) (o:List UInt8×Int),j<i+1->L[j]?=some o->isSg t o.1=false):=λ j o' hj ho'=>by
     rcases Nat.lt_succ_iff_lt_or_eq.1 hj with h|rfl
     ·exact HNO.out j o' h ho'
     ·rw [HOI.out] at ho';injection ho' with ho';subst ho';exact HDD.out
    go_wp2_with fail
    go_roundw
    case rel=>exact ⟨i+1,by omega,by go_num,HR,HB3⟩
    case measure=>simp [intOf];omega
   ·have HR:Hid (opAt k [t]=(p:Int)):=by
     show _=_;rw [opAt_cons,HLL.out,find_yes HOI.out HDD.out (λ j x hj hx=>HNO.out j x hj hx)];exact HP1.out.1
    have hp0:¬(p:Int)=0:=by have:=HP1.out;omega
    have HC:=h_ (HAD.out w3 HB3.out);go_wp2_with fail;refine HC.out.mono ?_;rintro e w4 ⟨rfl,hp4,hm4⟩;have HP4:=h_ hp4;have HM4:=h_ ((Mv.of b HB3.out).trans hm4);clear hp4 hm4 HC;go_wp2_with fail;go_ret;exact ⟨by rw [HR.out];rfl,by unfold opQ;rw [HR.out,if_neg hp0];exact HP4.out,HM4.out⟩
  ·have him':¬(i:Int)<m:=by omega
   have HR:Hid (opAt k [t]=0):=by
    show _=_;rw [opAt_cons,HLL.out,find_no (λ j x hj hx=>HNO.out j x (by rw [HM.out] at hj;omega) hx)]
   go_wp2_with fail;go_ret;exact ⟨by rw [HR.out];rfl,by unfold opQ;rw [HR.out,if_pos rfl];exact HP.out.below HBW.out,Mv.of b HBW.out⟩
def Rule (w:World) (b:Nat):Nat->Value->Prop
 |0,v=>v=.func (.func 256) #[.pointer (some ⟨b,0,none⟩)] #[]
 |j+1,v=>∃(u:Value) (g1 g2 g3 go:Nat),v=.func (.func 260) #[] #[.pointer (some ⟨g1,0,none⟩),.pointer (some ⟨g2,0,none⟩),.pointer (some ⟨g3,0,none⟩)] /\
   (g1≠b/\g2≠b/\g3≠b/\go≠b)/\w.cell? ⟨g1,0,none⟩=some u/\w.cell? ⟨g2,0,none⟩=some (.pointer (some ⟨b,0,none⟩)) /\
   w.cell? ⟨g3,0,none⟩=some (.slice (some ⟨go,0,none⟩) (rowOps (5-j)).length (rowOps (5-j)).length) /\
   (∀(i:Nat) (o:List UInt8×Int),(rowOps (5-j))[i]?=some o->w.cell? ⟨go,i,none⟩=some (.int .i64 o.2))/\Rule w b j u
theorem Mv.cell {b:Nat} {w w':World} (h:Mv b w w') {g i:Nat} {v:Value} (hc:w.cell? ⟨g,i,none⟩=some v) (hn:g≠b):w'.cell? ⟨g,i,none⟩=some v:=by
 rw [World.cell?_of_block (w:=w) (h.block (World.block_lt_of_cell? w _ hc) hn)];exact hc
theorem Rule.mv {w w':World} {b:Nat} (hm:Mv b w w'):∀{j:Nat} {v:Value},Rule w b j v->Rule w' b j v
 |0,_,h=>h
 |_+1,_,⟨u,g1,g2,g3,go,e,⟨n1,n2,n3,n4⟩,c1,c2,c3,c4,hr⟩ =>
  ⟨u,g1,g2,g3,go,e,⟨n1,n2,n3,n4⟩,hm.cell c1 n1,hm.cell c2 n2,hm.cell c3 n3,λ i o ho=>hm.cell (c4 i o ho) n4,Rule.mv hm hr⟩
theorem Rule.func {w:World} {b:Nat}:∀{j:Nat} {v:Value},Rule w b j v->∃f x y,v=.func f x y
 |0,_,h=>⟨_,_,_,h⟩
 |_+1,_,⟨_,_,_,_,_,e,_⟩=>⟨_,_,_,e⟩
theorem rule_any (w:World) (b go j:Nat) (u:Value) (hu:Rule w b j u) (hb:b<w.heap.size) (hgo:go≠b)
  (ho:∀(i:Nat) (o:List UInt8×Int),(rowOps (5-j))[i]?=some o->w.cell? ⟨go,i,none⟩=some (.int .i64 o.2)) :
  Calls Tryz.prog 255 #[.pointer (some ⟨b,0,none⟩),u,.slice (some ⟨go,0,none⟩) (rowOps (5-j)).length (rowOps (5-j)).length] w λ e w' =>
   ∃v,e=.returned v/\Rule w' b (j+1) v/\Below w.heap.size w w':=by
 have HU:=h_ hu;have HO:=h_ ho
 obtain ⟨m,hm⟩:∃m,(rowOps (5-j)).length=m:=⟨_,rfl⟩
 have HM:=h_ hm;rw [hm];obtain ⟨fu,xu,yu,rfl⟩:=hu.func;have hmf:∀(fn:Fn) (first cap:Array Value) (w:World),(Instr.makeFunc fn first cap).run Tryz.prog w=.ok (.func fn first cap) w:=λ _ _ _ _=>rfl;clear hu ho hm;go_enter Tryz.func255,Tryz.ntmps255;go_wp2_with fail;go_ret
 obtain ⟨o1,ho1⟩:∃o,o=Obj.cells #[Value.pointer (some ⟨b,0,none⟩)] 267:=⟨_,rfl⟩
 obtain ⟨o2,ho2⟩:∃o,o=Obj.cells #[Value.func fu xu yu] 268:=⟨_,rfl⟩
 obtain ⟨o3,ho3⟩:∃o,o=Obj.cells #[Value.slice (some ⟨go,0,none⟩) m m] 53:=⟨_,rfl⟩
 rw [<-ho1,<-ho2,<-ho3];have hB:Below w.heap.size w (((w.alloc o1).alloc o2).alloc o3):=(((b_ _ w).alloc (n_ _) _).alloc (by simp) _).alloc (by simp;omega) _
 have e1:(w.alloc o1).heap.size=w.heap.size+1:=by simp
 have e2:((w.alloc o1).alloc o2).heap.size=w.heap.size+1+1:=by simp
 have b1:(((w.alloc o1).alloc o2).alloc o3).heap[w.heap.size]?=some o1:=by
  rw [Below.heap_alloc _ o3 _ (by omega),Below.heap_alloc _ o2 _ (by omega)];exact heap_alloc_new w o1
 have b2:(((w.alloc o1).alloc o2).alloc o3).heap[w.heap.size+1]?=some o2:=by
  rw [Below.heap_alloc _ o3 _ (by omega),<-e1];exact heap_alloc_new _ o2
 have b3:(((w.alloc o1).alloc o2).alloc o3).heap[w.heap.size+1+1]?=some o3:=by
  rw [<-e2];exact heap_alloc_new _ o3
 replace b1:=b1.trans (congrArg some ho1);replace b2:=b2.trans (congrArg some ho2);replace b3:=b3.trans (congrArg some ho3);refine ⟨_,rfl,⟨.func fu xu yu,w.heap.size+1,w.heap.size,w.heap.size+1+1,go,rfl,⟨by omega,by omega,by omega,hgo⟩,cell_of_row _ _ 0 _ _ _ b2,cell_of_row _ _ 0 _ _ _ b1,?_,?_,HU.out.mv (Mv.of b hB)⟩,hB⟩
 ·rw [HM.out];exact cell_of_row _ _ 0 _ _ _ b3
 ·intro i o h;have:=HO.out i o h;rw [hB.cell (World.block_lt_of_cell? w _ this)];exact this
def PR.code:PR->Int
 |.bad c _=>c
 |_=>0
def PR.pt:PR->Int
 |.bad _ p=>p
 |_=>0
def ftP (e:PR):Value:=ftV e.code e.pt
def PP (w':World) (lo b n c d:Nat) (A:Option Addr) (xs:List Tk) (v:EV):PR->Prop
 |.out=>False
 |.ok x r=>GW w' lo w'.heap.size x.gx v/\TkEnds r/\∃q,q<n/\xs.drop q=r/\PsB w' b A n c q d
 |.bad code _=>code≠0/\∃q,q<n/\PsB w' b A n c q d
structure Vs (w:World):Prop where
 kw:KwAt w
 sg:SgAt w
theorem Vs.below {w w':World} (h:Vs w) (hb:Below w.heap.size w w'):Vs w':=⟨h.kw.below hb,h.sg.below hb⟩
theorem KwAt.ne {w:World} {b n c q d:Nat} {A:Option Addr} (h:KwAt w) (hp:PsB w b A n c q d):0≠b:=by
 obtain ⟨t,fr,h⟩:=h;rintro rfl;unfold PsB at hp;rw [hp] at h;injection h with h;injection h with h _ _;have:=congrArg Array.size h;simp [kwVals,kws] at this
theorem SgAt.ne {w:World} {b n c q d:Nat} {A:Option Addr} (h:SgAt w) (hp:PsB w b A n c q d):1≠b:=by
 obtain ⟨t,fr,h⟩:=h;rintro rfl;unfold PsB at hp;rw [hp] at h;injection h with h;injection h with h _ _;have:=congrArg Array.size h;simp [sgVals,sgs] at this
theorem Vs.mv {w w':World} {b n c q d:Nat} {A:Option Addr} (h:Vs w) (hp:PsB w b A n c q d) (hm:Mv b w w'):Vs w':=by
 have l1:=h.kw.lt;have l2:=h.sg.lt;have n1:=h.kw.ne hp;have n2:=h.sg.ne hp;obtain ⟨t,fr,h1⟩:=h.kw;obtain ⟨t',fr',h2⟩:=h.sg;exact ⟨⟨t,fr,by rw [hm.block l1 n1];exact h1⟩,⟨t',fr',by rw [hm.block l2 n2];exact h2⟩⟩
def two (w:World) (g:Nat) (c p:Int):World:=(w.setCell ⟨g,0,none⟩ (.int .i64 c)).setCell ⟨g,1,none⟩ (.int .i64 p)
theorem two_mv (w:World) (g:Nat) (c p:Int):Mv g w (two w g c p):=((Mv.refl g w).set 0 _).set 1 _
theorem two_put {b:Nat} {u0 w:World} {g:Nat} (h:Mv b u0 w) (hg:u0.heap.size<=g) (c p:Int):Mv b u0 (two w g c p):=(h.put 0 g hg _).put 1 g hg _
theorem FtB.two {w:World} {g:Nat} {x y:Value} (h:FtB w g x y) (c p:Int):FtB (two w g c p) g (.int .i64 c) (.int .i64 p):=h.all _ _
theorem XpB.res2 {w:World} {g g':Nat} {v:EV} {x y:Value} {fn:Func} {p p':Tmp} (hr:fn.results=#[.cell p 40,.cell p' 59]) (tmps:Array Value) (hp:tmps.getD p undef=.pointer (some ⟨g,0,none⟩)) (hp':tmps.getD p' undef=.pointer (some ⟨g',0,none⟩))
  (h:XpB w g v) (h':FtB w g' x y):(results fn tmps).run Tryz.prog w=.ok (.tuple #[v.val,.agg #[x,y]]) w:=by
 have e1:tmps[p]?.getD undef=.pointer (some ⟨g,0,none⟩):=by simpa using hp
 have e2:tmps[p']?.getD undef=.pointer (some ⟨g',0,none⟩):=by simpa using hp'
 simp [results,hr,e1,e2,asAddr,h.load,h'.load]
theorem ret_cells (w:World):∃(W0:World) (g1 g2:Nat),W0=(w.alloc (.cells #[.int .i64 0,.int .i64 0,.string ⟨#[]⟩,.int .i64 0,.slice none 0 0,.int .i64 0] 40)).alloc (.cells #[.int .i64 0,.int .i64 0] 59)/\g1=w.heap.size/\g2=w.heap.size+1 /\
  Hid (XpB W0 g1 ev0)/\Hid (FtB W0 g2 (.int .i64 0) (.int .i64 0))/\Hid (Below w.heap.size w W0)/\w.heap.size<=g1/\w.heap.size<=g2/\g1≠g2/\g1<W0.heap.size/\g2<W0.heap.size:=by
 refine ⟨_,_,_,rfl,rfl,rfl,(XpB.new w ev0).alloc _,?_,((b_ _ w).alloc (n_ _) _).alloc (by simp) _,n_ _,Nat.le_succ _,by omega,by simp;omega,by simp⟩
 have e:(w.alloc (.cells #[.int .i64 0,.int .i64 0,.string ⟨#[]⟩,.int .i64 0,.slice none 0 0,.int .i64 0] 40)).heap.size=w.heap.size+1:=by simp
 rw [<-e];exact FtB.new _ _ _
def res2 (w:World) (g1 g2:Nat) (u:EV) (c p:Int):World:=two (six w g1 u) g2 c p
section
variable {w u0:World} {g1 g2:Nat}
theorem res2_x {v:EV} (h:XpB w g1 v) (hne:g1≠g2) (u:EV) (c p:Int):XpB (res2 w g1 g2 u c p) g1 u:=(h.all u).mv (two_mv _ g2 c p) hne
theorem res2_f {x y:Value} (h:FtB w g2 x y) (hne:g1≠g2) (u:EV) (c p:Int):FtB (res2 w g1 g2 u c p) g2 (.int .i64 c) (.int .i64 p):=(h.mv (six_mv w g1 u) (Ne.symm hne)).two c p
theorem res2_mv {b:Nat} (h:Mv b u0 w) (h1:u0.heap.size<=g1) (h2:u0.heap.size<=g2) (u:EV) (c p:Int):Mv b u0 (res2 w g1 g2 u c p):=two_put (six_put h h1 u) h2 c p
theorem res2_ps {b n c' q d:Nat} {A:Option Addr} (h:PsB w b A n c' q d) (h1:b≠g1) (h2:b≠g2) (u:EV) (c p:Int):PsB (res2 w g1 g2 u c p) b A n c' q d:=(h.mv (six_mv w g1 u) h1).mv (two_mv _ g2 c p) h2
theorem six_size (w:World) (g:Nat) (u:EV):(six w g u).heap.size=w.heap.size:=by simp [six,World.setCell]
theorem two_sz (w:World) (g:Nat) (c p:Int):(two w g c p).heap.size=w.heap.size:=by simp [two,World.setCell]
theorem res2_gv {lo lo':Nat} {x:GX} {v:EV} (h:GW w lo' w.heap.size x v) (h1:g1<lo') (h2:g2<lo') (hlo:lo<=lo') (u:EV) (c p:Int):GW (res2 w g1 g2 u c p) lo (res2 w g1 g2 u c p).heap.size x v :=
 ((h.mv (six_mv w g1 u) h1).mv (two_mv _ g2 c p) h2).mono hlo (n_ _)
end
theorem res2_pp {w:World} {g1 g2 lo lo' b n c d:Nat} {A:Option Addr} {xs:List Tk} {v:EV} {e:PR} (h:PP w lo' b n c d A xs v e) (h1:g1<lo') (h2:g2<lo') (hlo:lo<=lo') (n1:b≠g1) (n2:b≠g2) (u:EV) (i j:Int):PP (res2 w g1 g2 u i j) lo b n c d A xs v e:=by
 cases e with
 |out=>exact absurd h (by intro h;exact h)
 |bad code p =>
  obtain ⟨hc,q,hq,hr⟩:=h;exact ⟨hc,q,hq,res2_ps hr n1 n2 u i j⟩
 |ok x r =>
  obtain ⟨hv,he,q,hq,hx,hr⟩:=h;exact ⟨res2_gv hv h1 h2 hlo u i j,he,q,hq,hx,res2_ps hr n1 n2 u i j⟩
theorem PP.bad {w:World} {lo lo' b n c d:Nat} {A:Option Addr} {xs:List Tk} {v u:EV} {e:PR} (h:PP w lo b n c d A xs v e) (hc:e.code≠0):PP w lo' b n c d A xs u e:=by
 cases e with
 |out=>exact absurd h (by intro h;exact h)
 |bad code p=>exact h
 |ok x r=>exact absurd rfl hc
theorem PP.rd {w':World} {lo b n c d:Nat} {A:Option Addr} {xs:List Tk} {v:EV} {e:PR} (h:PP w' lo b n c d A xs v e):∃q,q<n/\PsB w' b A n c q d:=by
 cases e with
 |out=>exact absurd h (by intro h;exact h)
 |ok x r=>obtain ⟨_,_,q,hq,_,hr⟩:=h;exact ⟨q,hq,hr⟩
 |bad code p=>obtain ⟨_,q,hq,hr⟩:=h;exact ⟨q,hq,hr⟩
theorem PP.below {W W':World} {lo b n c d:Nat} {A:Option Addr} {xs:List Tk} {v:EV} {e:PR} (h:PP W lo b n c d A xs v e) (hb:Below W.heap.size W W'):PP W' lo b n c d A xs v e:=by
 cases e with
 |out=>exact absurd h (by intro h;exact h)
 |bad code q =>
  obtain ⟨hc,q',hq,hr⟩:=h;exact ⟨hc,q',hq,hr.below hb⟩
 |ok x r =>
  obtain ⟨hv,he,q',hq,hx,hr⟩:=h;exact ⟨(hv.below hb (n_ _)).mono (n_ _) hb.size,he,q',hq,hx,hr.below hb⟩
theorem PP.mono {W:World} {lo lo' b n c d:Nat} {A:Option Addr} {xs:List Tk} {v:EV} {e:PR} (h:PP W lo b n c d A xs v e) (hl:lo'<=lo):PP W lo' b n c d A xs v e:=by
 cases e with
 |out=>exact absurd h (by intro h;exact h)
 |bad code q=>exact h
 |ok x r =>
  obtain ⟨hv,h2⟩:=h;exact ⟨hv.mono hl (n_ _),h2⟩
theorem PP.up {W:World} {lo b n c d d':Nat} {A:Option Addr} {xs:List Tk} {v:EV} {e:PR} (h:PP W lo b n c d A xs v e) (hb:b<lo):PP (W.setCell ⟨b,2,none⟩ (.int .i64 (d':Int))) lo b n c d' A xs v e:=by
 cases e with
 |out=>exact absurd h (by intro h;exact h)
 |bad code q =>
  obtain ⟨hc,q',hq,hr⟩:=h;exact ⟨hc,q',hq,hr.set2 d'⟩
 |ok x r =>
  obtain ⟨hv,he,q',hq,hx,hr⟩:=h;exact ⟨hv.mv ((Mv.refl b W).set 2 _) hb,he,q',hq,hx,hr.set2 d'⟩
theorem PP.leaf {w:World} {g1 g2 lo b n c q d:Nat} {A:Option Addr} {xs r:List Tk} (h:PsB w b A n c q d) (n1:b≠g1) (n2:b≠g2) (hr:TkEnds r) (hq:q<n) (hx:xs.drop q=r) (x:Ex) (u:EV) (i j:Int) (hu:∀w lo hi,GW w lo hi x.gx u):PP (res2 w g1 g2 u i j) lo b n c d A xs u (.ok x r) :=
 ⟨hu _ _ _,hr,q,hq,hx,res2_ps h n1 n2 u i j⟩
theorem drop_next {xs r:List Tk} {q n:Nat} {t:Tk} (h:xs.drop q=t::r) (he:TkEnds r) (hl:xs.length=n):xs[q]?=some t/\xs.drop (q+1)=r/\q+1<n:=by
 obtain ⟨h1,h2,h3⟩:=drop_get h;obtain ⟨u,r',rfl⟩:=ends_cons he;exact ⟨h1,h3,by rw [<-hl];exact (drop_get h3).2.1⟩
theorem pint_any (w:World) (b n c q d:Nat) (A:Option Addr) (xs:List Tk) (t:Tk) (h:PsB w b A n c q d) (hA:TkAt w A n xs) (ht:xs[q]?=some t) (hq:q<1000000000) :
  Calls Tryz.prog 264 #[.pointer (some ⟨b,0,none⟩)] w λ e w'=>e=.returned (EV.val ⟨1,t.num,⟨#[]⟩,0,none,0,0,t.at_⟩)/\PsB w' b A n c (q+1) d/\Mv b w w':=by
 obtain ⟨W0,hW0⟩:∃W0,W0=w.alloc (.cells #[.int .i64 0,.int .i64 0,.string ⟨#[]⟩,.int .i64 0,.slice none 0 0,.int .i64 0] 40):=⟨_,rfl⟩
 obtain ⟨g1,hg1⟩:∃g,g=w.heap.size:=⟨_,rfl⟩
 have HX:Hid (XpB W0 g1 ev0):=by rw [hW0,hg1];exact XpB.new w ev0
 have HB0:Hid (Below w.heap.size w W0):=by rw [hW0];exact (b_ _ w).alloc (n_ _) _
 have hbw:=h.lt
 have hg1b:g1≠b:=by omega
 have hg1w:w.heap.size<=g1:=by omega
 have HN:=h_ (now_any W0 b n c q d A xs t (h.below HB0.out) (hA.below HB0.out) ht);have HA:=h_ (λ (W:World) (hb:Below w.heap.size w W)=>advance_any W b n c q d A (h.below hb) hq)
 obtain ⟨X,hX⟩:∃X,txV t.text=.string X:=⟨_,rfl⟩
 unfold tkV at HN;rw [hX] at HN;clear h hA ht hX;go_enter Tryz.func264,Tryz.ntmps264;go_upto_region 1 with fail;rw [<-hW0,<-hg1];clear hW0 hg1;go_wp2_with fail;refine HN.out.mono ?_;rintro e w1 ⟨rfl,hb⟩
 obtain ⟨g2,hg2⟩:∃g2,g2=w1.heap.size:=⟨_,rfl⟩
 obtain ⟨W1,hW1⟩:∃W1,W1=w1.alloc (.cells #[.int .i64 t.kind,.string X,.int .i64 t.num,.int .i64 t.at_] 131):=⟨_,rfl⟩
 have HK1:Hid (TkB W1 g2 (.int .i64 t.kind) (.string X) (.int .i64 t.num) (.int .i64 t.at_)):=by rw [hW1,hg2];exact TkB.new _ _ _ _ _
 have HX1:Hid (XpB W1 g1 ev0):=by rw [hW1];exact (HX.out.below hb).alloc _
 have HB1:Hid (Below w.heap.size w W1):=by rw [hW1];exact (HB0.out.trans (hb.mono HB0.out.size)).alloc (by have:=HB0.out.size;have:=hb.size;omega) _
 have hg2b:g2≠b:=by have:=HB0.out.size;have:=hb.size;omega
 have HC:=h_ (HA.out W1 HB1.out);clear hb HN HX HB0 HA;go_upto_region 2 with fail;rw [<-hW1,<-hg2];clear hW1 hg2;go_wp2_with fail;refine HC.out.mono ?_;rintro e w2 ⟨rfl,hp,hm⟩;have HX2:=h_ (HX1.out.mv hm hg1b);have HK2:=h_ (HK1.out.mv hm hg2b);have HM2:=h_ ((Mv.of b HB1.out).trans hm);have HP2:=h_ hp;have z2:=HK2.out.c2;have z3:=HK2.out.c3;have a0:=HX2.out.c0;have a1:=HX2.out.c1;have a2:=HX2.out.c2;have a3:=HX2.out.c3;have a4:=HX2.out.c4;have a5:=HX2.out.c5;have f0:=HX2.out.fr 0;have f1:=HX2.out.fr 1;have f2:=HX2.out.fr 2;have f3:=HX2.out.fr 3;have f4:=HX2.out.fr 4;have f5:=HX2.out.fr 5;clear hp hm HC HX1 HK1 HB1;go_wp2_with fail;have HS:=HX2.out.all ⟨1,t.num,⟨#[]⟩,0,none,0,0,t.at_⟩;have HP:=six_put HM2.out hg1w ⟨1,t.num,⟨#[]⟩,0,none,0,0,t.at_⟩;have HQ:=HP2.out.mv (six_mv w2 g1 ⟨1,t.num,⟨#[]⟩,0,none,0,0,t.at_⟩) (Ne.symm hg1b);unfold six at HS HP HQ;dsimp only at HS HP HQ;refine bodyPost_ret (XpB.res (v:=⟨1,t.num,⟨#[]⟩,0,none,0,0,t.at_⟩) rfl _ rfl HS) rfl ?_;exact ⟨rfl,HQ,HP⟩
theorem variable_yes (w:World) (b n c q d:Nat) (A:Option Addr) (xs r:List Tk) (t:Tk) (h:PsB w b A n c q d) (hA:TkAt w A n xs) (hq:xs.drop q=t::r) (he:TkEnds r) (hn:n<=1000000000) (hL:Lex t) (hK:KwAt w) (hk:t.kind=1) :
  Calls Tryz.prog 269 #[.pointer (some ⟨b,0,none⟩)] w λ e w'=>∃v:EV,e=.returned (.tuple #[v.val,ftV 0 0])/\PP w' w.heap.size b n c d A xs v (.ok (.var t.text t.at_) r)/\Mv b w w':=by
 obtain ⟨ht,hr,hqn⟩:=drop_next hq he hA.1
 obtain ⟨X,hX⟩:∃X,txV t.text=.string X:=⟨_,rfl⟩
 have eX:X.data.toList=t.text:=by
  unfold txV at hX;injection hX with hX;rw [<-hX]
 obtain ⟨W0,g1,g2,hW0,hg1,hg2,HX,HF,HB0,hg1w,hg2w,hg12,hg10,hg20⟩:=ret_cells w;have hbw:=h.lt
 have hg1b:g1≠b:=by omega
 have hg2b:g2≠b:=by omega
 have HN:=h_ (now_any W0 b n c q d A xs t (h.below HB0.out) (hA.below HB0.out) ht);have HM:=h_ (λ (W:World) (hb:Below w.heap.size w W)=>needName_yes W b n c q d A xs t (h.below hb) (hA.below hb) ht (by omega) hL (hK.below hb) hk);have HEX:=h_ eX;unfold tkV at HN;rw [hX] at HN HM;have HFIN:=h_ (And.intro he (And.intro hr hqn));clear h hA hq he ht hX eX hL hK hk hr hqn;go_enter Tryz.func269,Tryz.ntmps269;go_upto_region 1 with fail;rw [<-hW0,<-hg2,<-hg1];clear hW0 hg1 hg2;have hfl:=fld_tok;go_wp2_with fail;refine HN.out.mono ?_;rintro e w1 ⟨rfl,hb⟩;have HX1:=h_ (HX.out.below hb);have HF1:=h_ (HF.out.below hb);have HB1:=h_ (HB0.out.trans (hb.mono HB0.out.size));have HC:=h_ (HM.out w1 HB1.out);clear hb HN HX HF HB0 HM;go_wp2_with fail;refine HC.out.mono ?_;rintro e w2 ⟨rfl,hp,hm⟩;unfold ftV
 obtain ⟨g3,hg3⟩:∃g3,g3=w2.heap.size:=⟨_,rfl⟩
 obtain ⟨W2,hW2⟩:∃W2,W2=w2.alloc (.cells #[.int .i64 0,.int .i64 0] 59):=⟨_,rfl⟩
 have HX2:Hid (XpB W2 g1 ev0):=by rw [hW2];exact (HX1.out.mv hm hg1b).alloc _
 have HF2:Hid (FtB W2 g2 (.int .i64 0) (.int .i64 0)):=by rw [hW2];exact (HF1.out.mv hm hg2b).alloc _
 have HG2:Hid (FtB W2 g3 (.int .i64 0) (.int .i64 0)):=by rw [hW2,hg3];exact FtB.new _ _ _
 have HM2:Hid (Mv b w W2):=by rw [hW2];exact ((Mv.of b HB1.out).trans hm).trans (Mv.of b ((b_ _ w2).alloc (n_ _) _))
 have HP2:Hid (PsB W2 b A n c (q+1) d):=by rw [hW2];exact hp.alloc _
 have y0:=HG2.out.c0;have y1:=HG2.out.c1;have a0:=HX2.out.c0;have a1:=HX2.out.c1;have a2:=HX2.out.c2;have a3:=HX2.out.c3;have a4:=HX2.out.c4;have a5:=HX2.out.c5;have f0:=HX2.out.fr 0;have f1:=HX2.out.fr 1;have f2:=HX2.out.fr 2;have f3:=HX2.out.fr 3;have f4:=HX2.out.fr 4;have f5:=HX2.out.fr 5;have j0:=HF2.out.fr 0;have j1:=HF2.out.fr 1;have k0:=HF2.out.c0;have k1:=HF2.out.c1;clear hp hm HC HX1 HF1 HB1;go_upto_region 3 with fail;rw [<-hW2,<-hg3];clear hW2 hg3;go_wp2_with fail;have HS:=res2_x HX2.out hg12 ⟨2,0,X,0,none,0,0,t.at_⟩ 0 0;have HS':=res2_f HF2.out hg12 ⟨2,0,X,0,none,0,0,t.at_⟩ 0 0;have HP:=res2_mv HM2.out hg1w hg2w ⟨2,0,X,0,none,0,0,t.at_⟩ 0 0
 have HQ:PP (res2 W2 g1 g2 ⟨2,0,X,0,none,0,0,t.at_⟩ 0 0) w.heap.size b n c d A xs ⟨2,0,X,0,none,0,0,t.at_⟩ (.ok (.var t.text t.at_) r) :=
  PP.leaf HP2.out (Ne.symm hg1b) (Ne.symm hg2b) HFIN.out.1 HFIN.out.2.2 HFIN.out.2.1 _ _ _ _ (λ w lo hi=>by rw [<-HEX.out];exact GW.leaf w lo hi 2 0 0 t.at_ X)
 unfold res2 two six at HS HS' HP HQ;dsimp only at HS HS' HP HQ;refine bodyPost_ret (XpB.res2 (v:=⟨2,0,X,0,none,0,0,t.at_⟩) rfl _ rfl rfl HS HS') rfl ?_;exact ⟨⟨2,0,X,0,none,0,0,t.at_⟩,rfl,HQ,HP⟩
theorem variable_no (w:World) (b n c q d:Nat) (A:Option Addr) (xs r:List Tk) (t:Tk) (h:PsB w b A n c q d) (hA:TkAt w A n xs) (hq:xs.drop q=t::r) (hL:Lex t) (hK:KwAt w) (hk:¬t.kind=1) :
  Calls Tryz.prog 269 #[.pointer (some ⟨b,0,none⟩)] w λ e w'=>∃v:EV,e=.returned (.tuple #[v.val,ftP (wrongAt t)])/\PP w' w.heap.size b n c d A xs v (wrongAt t)/\Mv b w w':=by
 obtain ⟨ht,hqn,_⟩:=drop_get hq;rw [hA.1] at hqn
 obtain ⟨X,hX⟩:∃X,txV t.text=.string X:=⟨_,rfl⟩
 obtain ⟨W0,g1,g2,hW0,hg1,hg2,HX,HF,HB0,hg1w,hg2w,hg12,hg10,hg20⟩:=ret_cells w;have hbw:=h.lt
 have hg1b:g1≠b:=by omega
 have hg2b:g2≠b:=by omega
 have HN:=h_ (now_any W0 b n c q d A xs t (h.below HB0.out) (hA.below HB0.out) ht);have HM:=h_ (λ (W:World) (hb:Below w.heap.size w W)=>needName_no W b n c q d A xs t (h.below hb) (hA.below hb) ht hL (hK.below hb) hk);have HPW:=h_ h;unfold tkV at HN;rw [hX] at HN;have HQN:=h_ hqn;have HW:Hid (wrongAt t=.bad (wrC t) t.at_):=wrongAt_eq t;clear h hA hq ht hX hL hK hk hqn;go_enter Tryz.func269,Tryz.ntmps269;go_upto_region 1 with fail;rw [<-hW0,<-hg2,<-hg1];clear hW0 hg1 hg2;have hfl:=fld_tok;go_wp2_with fail;refine HN.out.mono ?_;rintro e w1 ⟨rfl,hb⟩;have HX1:=h_ (HX.out.below hb);have HF1:=h_ (HF.out.below hb);have HB1:=h_ (HB0.out.trans (hb.mono HB0.out.size));have HC:=h_ (HM.out w1 HB1.out);have HP1:=h_ (HPW.out.below HB1.out);clear hb HN HX HF HB0 HM;go_wp2_with fail;refine HC.out.mono ?_;rintro e w2 ⟨rfl,hm⟩;unfold ftV
 obtain ⟨g3,hg3⟩:∃g3,g3=w2.heap.size:=⟨_,rfl⟩
 obtain ⟨W2,hW2⟩:∃W2,W2=w2.alloc (.cells #[.int .i64 (wrC t),.int .i64 t.at_] 59):=⟨_,rfl⟩
 have HX2:Hid (XpB W2 g1 ev0):=by rw [hW2];exact (HX1.out.below hm).alloc _
 have HF2:Hid (FtB W2 g2 (.int .i64 0) (.int .i64 0)):=by rw [hW2];exact (HF1.out.below hm).alloc _
 have HG2:Hid (FtB W2 g3 (.int .i64 (wrC t)) (.int .i64 t.at_)):=by rw [hW2,hg3];exact FtB.new _ _ _
 have HM2:Hid (Mv b w W2):=by rw [hW2];exact ((Mv.of b HB1.out).trans (Mv.of b hm)).trans (Mv.of b ((b_ _ w2).alloc (n_ _) _))
 have HP2:Hid (PsB W2 b A n c q d):=by rw [hW2];exact (HP1.out.below hm).alloc _
 have hwn:((wrC t)==0)=false:=beq_eq_false_iff_ne.2 (wrC_ne t)
 have hg31:¬g3=g1:=by have:=(HX1.out.below hm).lt;omega
 have hg32:¬g3=g2:=by have:=(HF1.out.below hm).lt;omega
 have hg13:¬g1=g3:=λ e=>hg31 e.symm;have y0:=HG2.out.c0;have y1:=HG2.out.c1;have a0:=HX2.out.c0;have a1:=HX2.out.c1;have a2:=HX2.out.c2;have a3:=HX2.out.c3;have a4:=HX2.out.c4;have a5:=HX2.out.c5;have f0:=HX2.out.fr 0;have f1:=HX2.out.fr 1;have f2:=HX2.out.fr 2;have f3:=HX2.out.fr 3;have f4:=HX2.out.fr 4;have f5:=HX2.out.fr 5;have j0:=HF2.out.fr 0;have j1:=HF2.out.fr 1;have k0:=HF2.out.c0;have k1:=HF2.out.c1;clear hm HC HP1 HX1 HF1 HB1;go_upto_region 3 with fail;rw [<-hW2,<-hg3];clear hW2 hg3;go_wp2_with fail
 go_region
 go_wp2_with fail
 obtain ⟨W9,hW9⟩:∃W,W=res2 W2 g1 g2 ev0 (wrC t) t.at_:=⟨_,rfl⟩
 have HS:XpB W9 g1 ev0:=by rw [hW9];exact res2_x HX2.out hg12 ev0 (wrC t) t.at_
 have HS':FtB W9 g2 (.int .i64 (wrC t)) (.int .i64 t.at_):=by rw [hW9];exact res2_f HF2.out hg12 ev0 (wrC t) t.at_
 have HP:Mv b w W9:=by rw [hW9];exact res2_mv HM2.out hg1w hg2w ev0 (wrC t) t.at_
 have HQ:PP W9 w.heap.size b n c d A xs ev0 (wrongAt t):=by
  rw [HW.out,hW9];exact ⟨wrC_ne t,q,HQN.out,res2_ps HP2.out (Ne.symm hg1b) (Ne.symm hg2b) _ _ _⟩
 unfold res2 two six at hW9;dsimp only [ev0] at hW9;rw [<-hW9];clear hW9;refine bodyPost_ret (XpB.res2 (w:=W9.drew) (v:=ev0) rfl _ rfl rfl HS HS') rfl ?_;exact ⟨ev0,by rw [HW.out];rfl,HQ.below (b_ _ W9).drew,HP.drew⟩
theorem pin_any (w:World) (b n c q d:Nat) (A:Option Addr) (xs r:List Tk) (t:Tk) (h:PsB w b A n c q d) (hA:TkAt w A n xs) (hAb:∀g o,A=some ⟨g,o,none⟩->g≠b) (hq:xs.drop q=t::r) (he:TkEnds r) (hn:n<=1000000000) (hL:∀t∈xs,Lex t) (hK:Vs w) :
  Calls Tryz.prog 266 #[.pointer (some ⟨b,0,none⟩)] w λ e w'=>∃v:EV,e=.returned (.tuple #[v.val,ftP (innP t.at_ r)])/\PP w' w.heap.size b n c d A xs v (innP t.at_ r)/\Mv b w w':=by
 obtain ⟨ht,hr,hqn⟩:=drop_next hq he hA.1;obtain ⟨u1,r1,rfl⟩:=ends_cons he;obtain ⟨hu1,hq1,hr1⟩:=drop_get hr;rw [hA.1] at hq1;obtain ⟨W0,g1,g2,hW0,hg1,hg2,HX,HF,HB0,hg1w,hg2w,hg12,hg10,hg20⟩:=ret_cells w;have hbw:=h.lt
 have hg1b:g1≠b:=by omega
 have hg2b:g2≠b:=by omega
 obtain ⟨X,hX⟩:∃X,txV t.text=.string X:=⟨_,rfl⟩
 have HN:=h_ (now_any W0 b n c q d A xs t (h.below HB0.out) (hA.below HB0.out) ht);have HADV:=h_ (λ (W:World) (hb:Below w.heap.size w W)=>advance_any W b n c q d A (h.below hb) (by omega));have HPW:=h_ h;have HAW:=h_ (λ (W:World) (hm:Mv b w W)=>hA.mv hm hAb);have HVW:=h_ (λ (W:World) (hm:Mv b w W)=>hK.mv h hm);have HLX:=h_ (λ (i:Nat) (t:Tk) (h:xs[i]?=some t)=>hL t (List.mem_of_getElem? h));unfold tkV at HN;rw [hX] at HN;have HEN:=h_ he;have HU1:=h_ (And.intro hu1 (And.intro hr1 hq1));have HLN:=h_ hA.1;clear h hA hAb hq he ht hX hL hK hr hu1 hr1;go_enter Tryz.func266,Tryz.ntmps266;go_upto_region 1 with fail;rw [<-hW0,<-hg2,<-hg1];clear hW0 hg1 hg2;have hfl:=fld_tok;go_wp2_with fail;refine HN.out.mono ?_;rintro e w1 ⟨rfl,hb⟩;have HX1:=h_ (HX.out.below hb);have HF1:=h_ (HF.out.below hb);have HB1:=h_ (HB0.out.trans (hb.mono HB0.out.size));have HC:=h_ (HADV.out w1 HB1.out);clear hb HN HX HF HB0 HADV;go_wp2_with fail;refine HC.out.mono ?_;rintro e w2 ⟨rfl,hp,hm⟩;have HX2:=h_ (HX1.out.mv hm hg1b);have HF2:=h_ (HF1.out.mv hm hg2b);have HM2:=h_ ((Mv.of b HB1.out).trans hm);have HP2:=h_ hp;clear hp hm HC HX1 HF1 HB1;have h2:=HX2.out.lt;have h2':=HF2.out.lt
 cases hs1:isSg u1 [40] with
 |false =>
  have HIN:Hid (innP t.at_ (u1::r1)=.bad (wrC u1) u1.at_):=by
   show _=_;rw [innP_cons,if_neg (by rw [hs1];decide),wrongAt_eq]
  have HC:=h_ (needSign_no w2 b n c (q+1) d A xs u1 ⟨#[40]⟩ HP2.out (HAW.out w2 HM2.out) HU1.out.1 hs1);go_wp2_with fail;refine HC.out.mono ?_;rintro e w3 ⟨rfl,hb⟩;unfold ftV
  obtain ⟨g3,hg3⟩:∃g3,g3=w3.heap.size:=⟨_,rfl⟩
  obtain ⟨W3,hW3⟩:∃W3,W3=w3.alloc (.cells #[.int .i64 (wrC u1),.int .i64 u1.at_] 59):=⟨_,rfl⟩
  have HX3:Hid (XpB W3 g1 ev0):=by rw [hW3];exact (HX2.out.below hb).alloc _
  have HF3:Hid (FtB W3 g2 (.int .i64 0) (.int .i64 0)):=by rw [hW3];exact (HF2.out.below hb).alloc _
  have HG3:Hid (FtB W3 g3 (.int .i64 (wrC u1)) (.int .i64 u1.at_)):=by rw [hW3,hg3];exact FtB.new _ _ _
  have HM3:Hid (Mv b w W3):=by rw [hW3];exact (HM2.out.trans (Mv.of b hb)).trans (Mv.of b ((b_ _ w3).alloc (n_ _) _))
  have HP3:Hid (PsB W3 b A n c (q+1) d):=by rw [hW3];exact (HP2.out.below hb).alloc _
  have hwn:((wrC u1)==0)=false:=beq_eq_false_iff_ne.2 (wrC_ne u1)
  have hg31:¬g3=g1:=by have:=hb.size;omega
  have hg32:¬g3=g2:=by have:=hb.size;omega
  have hg13:¬g1=g3:=λ e=>hg31 e.symm;have y0:=HG3.out.c0;have y1:=HG3.out.c1;have a0:=HX3.out.c0;have a1:=HX3.out.c1;have a2:=HX3.out.c2;have a3:=HX3.out.c3;have a4:=HX3.out.c4;have a5:=HX3.out.c5;have f0:=HX3.out.fr 0;have f1:=HX3.out.fr 1;have f2:=HX3.out.fr 2;have f3:=HX3.out.fr 3;have f4:=HX3.out.fr 4;have f5:=HX3.out.fr 5;have k0:=HF3.out.c0;have k1:=HF3.out.c1;have j0:=HF3.out.fr 0;have j1:=HF3.out.fr 1;clear hb HC HX2 HF2 HM2 HP2;go_upto_region 4 with fail;rw [<-hW3,<-hg3];clear hW3 hg3;go_wp2_with fail
  go_region
  go_wp2_with fail
  obtain ⟨W9,hW9⟩:∃W,W=res2 W3 g1 g2 ev0 (wrC u1) u1.at_:=⟨_,rfl⟩
  have HS:XpB W9 g1 ev0:=by rw [hW9];exact res2_x HX3.out hg12 ev0 (wrC u1) u1.at_
  have HS':FtB W9 g2 (.int .i64 (wrC u1)) (.int .i64 u1.at_):=by rw [hW9];exact res2_f HF3.out hg12 ev0 (wrC u1) u1.at_
  have HP:Mv b w W9:=by rw [hW9];exact res2_mv HM3.out hg1w hg2w ev0 (wrC u1) u1.at_
  have HQ:PP W9 w.heap.size b n c d A xs ev0 (innP t.at_ (u1::r1)):=by
   rw [hW9];rw [HIN.out];exact ⟨wrC_ne _,q+1,hqn,res2_ps HP3.out (Ne.symm hg1b) (Ne.symm hg2b) _ _ _⟩
  unfold res2 two six at hW9;dsimp only [ev0] at hW9;rw [<-hW9];clear hW9;refine bodyPost_ret (XpB.res2 (w:=W9.drew) (v:=ev0) rfl _ rfl rfl HS HS') rfl ?_;exact ⟨ev0,by rw [HIN.out];rfl,HQ.below (b_ _ W9).drew,HP.drew⟩
 |true =>
  have k1:u1.kind≠5:=sg_kind hs1;have he1:=HEN.out.tail k1;obtain ⟨u2,r2,rfl⟩:=ends_cons he1;obtain ⟨hu2,hq2,hr2⟩:=drop_get HU1.out.2.1;rw [HLN.out] at hq2;have HC:=h_ (needSign_yes w2 b n c (q+1) d A xs u1 ⟨#[40]⟩ HP2.out (HAW.out w2 HM2.out) HU1.out.1 (by omega) hs1)
  have HIN1:Hid (innP t.at_ (u1::u2::r2)=nameP t.at_ (u2::r2)):=by
   show _=_;rw [innP_cons,if_pos hs1]
  have HE1:=h_ he1;have HU2:=h_ (And.intro hu2 hr2);clear he1 hu2 hr2 k1 hs1;go_wp2_with fail;refine HC.out.mono ?_;rintro e w3 ⟨rfl,hp,hm⟩;unfold ftV
  obtain ⟨g3,hg3⟩:∃g3,g3=w3.heap.size:=⟨_,rfl⟩
  obtain ⟨W3,hW3⟩:∃W3,W3=w3.alloc (.cells #[.int .i64 0,.int .i64 0] 59):=⟨_,rfl⟩
  have HX3:Hid (XpB W3 g1 ev0):=by rw [hW3];exact (HX2.out.mv hm hg1b).alloc _
  have HF3:Hid (FtB W3 g2 (.int .i64 0) (.int .i64 0)):=by rw [hW3];exact (HF2.out.mv hm hg2b).alloc _
  have HG3:Hid (FtB W3 g3 (.int .i64 0) (.int .i64 0)):=by rw [hW3,hg3];exact FtB.new _ _ _
  have HM3:Hid (Mv b w W3):=by rw [hW3];exact (HM2.out.trans hm).trans (Mv.of b ((b_ _ w3).alloc (n_ _) _))
  have HP3:Hid (PsB W3 b A n c (q+2) d):=by rw [hW3];exact hp.alloc _
  have hs3:=World.grownBy.size hm
  have hg31:¬g3=g1:=by omega
  have hg32:¬g3=g2:=by omega
  have hg13:¬g1=g3:=λ e=>hg31 e.symm
  have hg3b:g3≠b:=by have:=HP2.out.lt;omega
  have hg3w:w.heap.size<=g3:=by omega
  have y0:=HG3.out.c0;have y1:=HG3.out.c1;clear hp hm HC HX2 HF2 HM2 HP2;go_upto_region 4 with fail;rw [<-hW3,<-hg3];clear hW3 hg3
  by_cases hk2:u2.kind=1
  ·have k2:u2.kind≠5:=by rw [hk2];decide
   have he2:=HE1.out.tail k2;obtain ⟨u3,r3,rfl⟩:=ends_cons he2;obtain ⟨hu3,hq3,hr3⟩:=drop_get HU2.out.2;rw [HLN.out] at hq3;have HC:=h_ (needName_yes W3 b n c (q+2) d A xs u2 HP3.out (HAW.out W3 HM3.out) HU2.out.1 (by omega) (HLX.out _ _ HU2.out.1) (HVW.out W3 HM3.out).kw hk2)
   obtain ⟨Y,hY⟩:∃Y,txV u2.text=.string Y:=⟨_,rfl⟩
   have eY:Y.data.toList=u2.text:=by
    unfold txV at hY;injection hY with hY;rw [<-hY]
   have HEY:=h_ eY;rw [hY] at HC
   have HIN2:Hid (innP t.at_ (u1::u2::u3::r3)=shutP (.inn u2.text t.at_) (u3::r3)):=by
    show _=_;rw [HIN1.out,nameP_cons,if_pos hk2]
   have HE2:=h_ he2;have HU3:=h_ (And.intro hu3 hr3);clear he2 hu3 hr3 k2 hk2 hY eY HIN1;go_wp2_with fail;refine HC.out.mono ?_;rintro e w4 ⟨rfl,hp,hm⟩;unfold ftV;have HX4:=h_ (HX3.out.mv hm hg1b);have HF4:=h_ (HF3.out.mv hm hg2b);have HG4:=h_ (HG3.out.mv hm hg3b);have HM4:=h_ (HM3.out.trans hm);have HP4:=h_ hp;have y0:=HG4.out.c0;have y1:=HG4.out.c1;have v0:=HG4.out.fr 0;have v1:=HG4.out.fr 1;have HG5:=h_ (HG4.out.two 0 0);have HM5:=h_ (two_put HM4.out hg3w 0 0);have HP5:=h_ (HP4.out.mv (two_mv _ g3 0 0) (Ne.symm hg3b));have HX5:=h_ (HX4.out.mv (two_mv _ g3 0 0) (Ne.symm hg31));have HF5:=h_ (HF4.out.mv (two_mv _ g3 0 0) (Ne.symm hg32));clear hp hm HC HX3 HF3 HG3 HM3 HP3;go_upto_region 7 with fail
   obtain ⟨W5,hW5⟩:∃W5,W5=two w4 g3 0 0:=⟨_,rfl⟩
   rw [<-hW5] at HG5 HM5 HP5 HX5 HF5;unfold two at hW5;rw [<-hW5];clear hW5 HX4 HF4 HG4 HM4 HP4 y0 y1 v0 v1;have y0:=HG5.out.c0;have y1:=HG5.out.c1;have v0:=HG5.out.fr 0;have v1:=HG5.out.fr 1
   cases hs3:isSg u3 [41] with
   |false =>
    have HIN:Hid (innP t.at_ (u1::u2::u3::r3)=.bad (wrC u3) u3.at_):=by
     show _=_;rw [HIN2.out,shutP_cons,if_neg (by rw [hs3];decide),wrongAt_eq]
    have HC:=h_ (needSign_no W5 b n c (q+3) d A xs u3 ⟨#[41]⟩ HP5.out (HAW.out W5 HM5.out) HU3.out.1 hs3);have hwn:((wrC u3)==0)=false:=beq_eq_false_iff_ne.2 (wrC_ne u3);go_wp2_with fail;refine HC.out.mono ?_;rintro e w6 ⟨rfl,hb⟩;unfold ftV;have HX6:=h_ (HX5.out.below hb);have HF6:=h_ (HF5.out.below hb);have HG6:=h_ (HG5.out.below hb);have HM6:=h_ (HM5.out.trans (Mv.of b hb));have HP6:=h_ (HP5.out.below hb);clear hb HC HX5 HF5 HG5 HM5 HP5 y0 y1 v0 v1;have y0:=HG6.out.c0;have y1:=HG6.out.c1;have v0:=HG6.out.fr 0;have v1:=HG6.out.fr 1;have HG7:=h_ (HG6.out.two (wrC u3) u3.at_);have HM7:=h_ (two_put HM6.out hg3w (wrC u3) u3.at_);have HP7:=h_ (HP6.out.mv (two_mv _ g3 (wrC u3) u3.at_) (Ne.symm hg3b));have HX7:=h_ (HX6.out.mv (two_mv _ g3 (wrC u3) u3.at_) (Ne.symm hg31));have HF7:=h_ (HF6.out.mv (two_mv _ g3 (wrC u3) u3.at_) (Ne.symm hg32));go_upto_region 10 with fail
    obtain ⟨W7,hW7⟩:∃W,W=two w6 g3 (wrC u3) u3.at_:=⟨_,rfl⟩
    rw [<-hW7] at HG7 HM7 HP7 HX7 HF7;unfold two at hW7;rw [<-hW7];clear hW7 HX6 HF6 HG6 HM6 HP6 y0 y1 v0 v1;have y0:=HG7.out.c0;have y1:=HG7.out.c1;have a0:=HX7.out.c0;have a1:=HX7.out.c1;have a2:=HX7.out.c2;have a3:=HX7.out.c3;have a4:=HX7.out.c4;have a5:=HX7.out.c5;have f0:=HX7.out.fr 0;have f1:=HX7.out.fr 1;have f2:=HX7.out.fr 2;have f3:=HX7.out.fr 3;have f4:=HX7.out.fr 4;have f5:=HX7.out.fr 5;have k0:=HF7.out.c0;have k1:=HF7.out.c1;have j0:=HF7.out.fr 0;have j1:=HF7.out.fr 1;go_wp2_with fail
    go_region
    go_wp2_with fail
    obtain ⟨W9,hW9⟩:∃W,W=res2 W7 g1 g2 ev0 (wrC u3) u3.at_:=⟨_,rfl⟩
    have HS:XpB W9 g1 ev0:=by rw [hW9];exact res2_x HX7.out hg12 ev0 (wrC u3) u3.at_
    have HS':FtB W9 g2 (.int .i64 (wrC u3)) (.int .i64 u3.at_):=by rw [hW9];exact res2_f HF7.out hg12 ev0 (wrC u3) u3.at_
    have HP:Mv b w W9:=by rw [hW9];exact res2_mv HM7.out hg1w hg2w ev0 (wrC u3) u3.at_
    have HQ:PP W9 w.heap.size b n c d A xs ev0 (innP t.at_ (u1::u2::u3::r3)):=by
     rw [hW9];rw [HIN.out];exact ⟨wrC_ne _,q+3,hq3,res2_ps HP7.out (Ne.symm hg1b) (Ne.symm hg2b) _ _ _⟩
    unfold res2 two six at hW9;dsimp only [ev0] at hW9;rw [<-hW9];clear hW9;refine bodyPost_ret (XpB.res2 (w:=W9.drew) (v:=ev0) rfl _ rfl rfl HS HS') rfl ?_;exact ⟨ev0,by rw [HIN.out];rfl,HQ.below (b_ _ W9).drew,HP.drew⟩
   |true =>
    have k3:u3.kind≠5:=sg_kind hs3;have he3:=HE2.out.tail k3
    have HIN:Hid (innP t.at_ (u1::u2::u3::r3)=.ok (.inn u2.text t.at_) r3):=by
     show _=_;rw [HIN2.out,shutP_cons,if_pos hs3]
    have hq4:q+4<n:=by
     obtain ⟨u4,r4,rfl⟩:=ends_cons he3;have:=(drop_get HU3.out.2).2.1;rw [HLN.out] at this;omega
    have HC:=h_ (needSign_yes W5 b n c (q+3) d A xs u3 ⟨#[41]⟩ HP5.out (HAW.out W5 HM5.out) HU3.out.1 (by omega) hs3);have HE3:=h_ (And.intro he3 HU3.out.2);clear he3 k3 hs3;go_wp2_with fail;refine HC.out.mono ?_;rintro e w6 ⟨rfl,hp,hm⟩;unfold ftV;have HX6:=h_ (HX5.out.mv hm hg1b);have HF6:=h_ (HF5.out.mv hm hg2b);have HG6:=h_ (HG5.out.mv hm hg3b);have HM6:=h_ (HM5.out.trans hm);have HP6:=h_ hp;clear hp hm HC HX5 HF5 HG5 HM5 HP5 y0 y1 v0 v1;have y0:=HG6.out.c0;have y1:=HG6.out.c1;have v0:=HG6.out.fr 0;have v1:=HG6.out.fr 1;have HG7:=h_ (HG6.out.two 0 0);have HM7:=h_ (two_put HM6.out hg3w 0 0);have HP7:=h_ (HP6.out.mv (two_mv _ g3 0 0) (Ne.symm hg3b));have HX7:=h_ (HX6.out.mv (two_mv _ g3 0 0) (Ne.symm hg31));have HF7:=h_ (HF6.out.mv (two_mv _ g3 0 0) (Ne.symm hg32));go_upto_region 10 with fail
    obtain ⟨W7,hW7⟩:∃W,W=two w6 g3 0 0:=⟨_,rfl⟩
    rw [<-hW7] at HG7 HM7 HP7 HX7 HF7;unfold two at hW7;rw [<-hW7];clear hW7 HX6 HF6 HG6 HM6 HP6 y0 y1 v0 v1;have y0:=HG7.out.c0;have y1:=HG7.out.c1;have a0:=HX7.out.c0;have a1:=HX7.out.c1;have a2:=HX7.out.c2;have a3:=HX7.out.c3;have a4:=HX7.out.c4;have a5:=HX7.out.c5;have f0:=HX7.out.fr 0;have f1:=HX7.out.fr 1;have f2:=HX7.out.fr 2;have f3:=HX7.out.fr 3;have f4:=HX7.out.fr 4;have f5:=HX7.out.fr 5;have k0:=HF7.out.c0;have k1:=HF7.out.c1;have j0:=HF7.out.fr 0;have j1:=HF7.out.fr 1;go_wp2_with fail
    obtain ⟨W9,hW9⟩:∃W,W=res2 W7 g1 g2 ⟨3,0,Y,0,none,0,0,t.at_⟩ 0 0:=⟨_,rfl⟩
    have HS:XpB W9 g1 ⟨3,0,Y,0,none,0,0,t.at_⟩:=by rw [hW9];exact res2_x HX7.out hg12 ⟨3,0,Y,0,none,0,0,t.at_⟩ 0 0
    have HS':FtB W9 g2 (.int .i64 0) (.int .i64 0):=by rw [hW9];exact res2_f HF7.out hg12 ⟨3,0,Y,0,none,0,0,t.at_⟩ 0 0
    have HP:Mv b w W9:=by rw [hW9];exact res2_mv HM7.out hg1w hg2w ⟨3,0,Y,0,none,0,0,t.at_⟩ 0 0
    have HQ:PP W9 w.heap.size b n c d A xs ⟨3,0,Y,0,none,0,0,t.at_⟩ (innP t.at_ (u1::u2::u3::r3)):=by
     rw [hW9];rw [HIN.out];exact PP.leaf HP7.out (Ne.symm hg1b) (Ne.symm hg2b) HE3.out.1 hq4 HE3.out.2 _ _ _ _ (λ w lo hi=>by rw [<-HEY.out];exact GW.leaf w lo hi 3 0 0 t.at_ Y)
    unfold res2 two six at hW9;dsimp only [ev0] at hW9;rw [<-hW9];clear hW9;refine bodyPost_ret (XpB.res2 (w:=W9) (v:=⟨3,0,Y,0,none,0,0,t.at_⟩) rfl _ rfl rfl HS HS') rfl ?_;exact ⟨⟨3,0,Y,0,none,0,0,t.at_⟩,by rw [HIN.out];rfl,HQ,HP⟩
  ·have HIN:Hid (innP t.at_ (u1::u2::r2)=.bad (wrC u2) u2.at_):=by
    show _=_;rw [HIN1.out,nameP_cons,if_neg hk2,wrongAt_eq]
   have HC:=h_ (needName_no W3 b n c (q+2) d A xs u2 HP3.out (HAW.out W3 HM3.out) HU2.out.1 (HLX.out _ _ HU2.out.1) (HVW.out W3 HM3.out).kw hk2);have hwn:((wrC u2)==0)=false:=beq_eq_false_iff_ne.2 (wrC_ne u2);clear hk2;go_wp2_with fail;refine HC.out.mono ?_;rintro e w6 ⟨rfl,hb⟩;unfold ftV;have HX6:=h_ (HX3.out.below hb);have HF6:=h_ (HF3.out.below hb);have HG6:=h_ (HG3.out.below hb);have HM6:=h_ (HM3.out.trans (Mv.of b hb));have HP6:=h_ (HP3.out.below hb);clear hb HC HX3 HF3 HG3 HM3 HP3 y0 y1;have y0:=HG6.out.c0;have y1:=HG6.out.c1;have v0:=HG6.out.fr 0;have v1:=HG6.out.fr 1;have HG7:=h_ (HG6.out.two (wrC u2) u2.at_);have HM7:=h_ (two_put HM6.out hg3w (wrC u2) u2.at_);have HP7:=h_ (HP6.out.mv (two_mv _ g3 (wrC u2) u2.at_) (Ne.symm hg3b));have HX7:=h_ (HX6.out.mv (two_mv _ g3 (wrC u2) u2.at_) (Ne.symm hg31));have HF7:=h_ (HF6.out.mv (two_mv _ g3 (wrC u2) u2.at_) (Ne.symm hg32));go_upto_region 7 with fail
   obtain ⟨W7,hW7⟩:∃W,W=two w6 g3 (wrC u2) u2.at_:=⟨_,rfl⟩
   rw [<-hW7] at HG7 HM7 HP7 HX7 HF7;unfold two at hW7;rw [<-hW7];clear hW7 HX6 HF6 HG6 HM6 HP6 y0 y1 v0 v1;have y0:=HG7.out.c0;have y1:=HG7.out.c1;have a0:=HX7.out.c0;have a1:=HX7.out.c1;have a2:=HX7.out.c2;have a3:=HX7.out.c3;have a4:=HX7.out.c4;have a5:=HX7.out.c5;have f0:=HX7.out.fr 0;have f1:=HX7.out.fr 1;have f2:=HX7.out.fr 2;have f3:=HX7.out.fr 3;have f4:=HX7.out.fr 4;have f5:=HX7.out.fr 5;have k0:=HF7.out.c0;have k1:=HF7.out.c1;have j0:=HF7.out.fr 0;have j1:=HF7.out.fr 1;go_wp2_with fail
   go_region
   go_wp2_with fail
   obtain ⟨W9,hW9⟩:∃W,W=res2 W7 g1 g2 ev0 (wrC u2) u2.at_:=⟨_,rfl⟩
   have HS:XpB W9 g1 ev0:=by rw [hW9];exact res2_x HX7.out hg12 ev0 (wrC u2) u2.at_
   have HS':FtB W9 g2 (.int .i64 (wrC u2)) (.int .i64 u2.at_):=by rw [hW9];exact res2_f HF7.out hg12 ev0 (wrC u2) u2.at_
   have HP:Mv b w W9:=by rw [hW9];exact res2_mv HM7.out hg1w hg2w ev0 (wrC u2) u2.at_
   have HQ:PP W9 w.heap.size b n c d A xs ev0 (innP t.at_ (u1::u2::r2)):=by
    rw [hW9];rw [HIN.out];exact ⟨wrC_ne _,q+2,hq2,res2_ps HP7.out (Ne.symm hg1b) (Ne.symm hg2b) _ _ _⟩
   unfold res2 two six at hW9;dsimp only [ev0] at hW9;rw [<-hW9];clear hW9;refine bodyPost_ret (XpB.res2 (w:=W9.drew) (v:=ev0) rfl _ rfl rfl HS HS') rfl ?_;exact ⟨ev0,by rw [HIN.out];rfl,HQ.below (b_ _ W9).drew,HP.drew⟩
structure Pst (w:World) (b n c q d:Nat) (A:Option Addr) (xs r:List Tk):Prop where
 ps:PsB w b A n c q d
 tk:TkAt w A n xs
 ab:∀g o,A=some ⟨g,o,none⟩->g≠b
 dr:xs.drop q=r
 en:TkEnds r
 n9:n<=1000000000
 d20:d<=20
 lx:∀t∈xs,Lex t
 vs:Vs w
theorem Pst.mv {w w':World} {b n c q d q' d':Nat} {A:Option Addr} {xs r r':List Tk} (h:Pst w b n c q d A xs r) (hm:Mv b w w') (hp:PsB w' b A n c q' d') (hr:xs.drop q'=r') (he:TkEnds r') (hd:d'<=20):Pst w' b n c q' d' A xs r' :=
 ⟨hp,h.tk.mv hm h.ab,h.ab,hr,he,h.n9,hd,h.lx,h.vs.mv h.ps hm⟩
theorem Pst.below {w w':World} {b n c q d:Nat} {A:Option Addr} {xs r:List Tk} (h:Pst w b n c q d A xs r) (hb:Below w.heap.size w w'):Pst w' b n c q d A xs r :=
 h.mv (Mv.of b hb) (h.ps.below hb) h.dr h.en h.d20
def PRet (w:World) (b n c d:Nat) (A:Option Addr) (xs:List Tk) (R:PR) (e:Ending) (w':World):Prop :=
 ∃v:EV,e=.returned (.tuple #[v.val,ftP R])/\PP w' w.heap.size b n c d A xs v R/\Mv b w w'
def POne (m:Nat):Prop:=∀(w:World) (b n c q d:Nat) (A:Option Addr) (xs r:List Tk),r.length<=m->Pst w b n c q d A xs r ->
  Calls Tryz.prog 256 #[.pointer (some ⟨b,0,none⟩)] w (PRet w b n c d A xs (Po d r))
def PExp (m:Nat):Prop:=∀(w:World) (b n c q d:Nat) (A:Option Addr) (xs r:List Tk),r.length<=m->Pst w b n c q d A xs r ->
  Calls Tryz.prog 242 #[.pointer (some ⟨b,0,none⟩)] w (PRet w b n c d A xs (Pf 0 d r))
theorem nest_one_deep (w:World) (b n c q d:Nat) (A:Option Addr) (xs r:List Tk) (t:Tk) (h:Pst w b n c q d A xs (t::r)) (hd:d=20) :
  Calls Tryz.prog 275 #[.pointer (some ⟨b,0,none⟩),.func (.func 256) #[.pointer (some ⟨b,0,none⟩)] #[]] w (PRet w b n c d A xs (.bad 21 t.at_)):=by
 subst hd;obtain ⟨ht,hqn,_⟩:=drop_get h.dr;rw [h.tk.1] at hqn;obtain ⟨W0,g1,g2,hW0,hg1,hg2,HX,HF,HB0,hg1w,hg2w,hg12,hg10,hg20⟩:=ret_cells w;have hbw:=h.ps.lt
 have hg1b:g1≠b:=by omega
 have hg2b:g2≠b:=by omega
 have HN:=h_ (fault_any W0 b n c q 20 A xs t 21 (h.ps.below HB0.out) (h.tk.below HB0.out) ht);unfold ftV at HN;have hp0:=h.ps.below HB0.out;have r2:=hp0.c2;have HP0:=h_ hp0;have HQN:=h_ hqn;clear h ht hqn hp0;unfold PRet;go_enter Tryz.func275,Tryz.ntmps275;go_upto_region 1 with fail;rw [<-hW0,<-hg2,<-hg1];clear hW0 hg1 hg2;go_wp2_with fail;refine HN.out.mono ?_;rintro e w1 ⟨rfl,hb⟩;have HX1:=h_ (HX.out.below hb);have HF1:=h_ (HF.out.below hb);have HM1:=h_ (Mv.of b (HB0.out.trans (hb.mono HB0.out.size)));have HP1:=h_ (HP0.out.below hb);have a0:=HX1.out.c0;have a1:=HX1.out.c1;have a2:=HX1.out.c2;have a3:=HX1.out.c3;have a4:=HX1.out.c4;have a5:=HX1.out.c5;have f0:=HX1.out.fr 0;have f1:=HX1.out.fr 1;have f2:=HX1.out.fr 2;have f3:=HX1.out.fr 3;have f4:=HX1.out.fr 4;have f5:=HX1.out.fr 5;have k0:=HF1.out.c0;have k1:=HF1.out.c1;have j0:=HF1.out.fr 0;have j1:=HF1.out.fr 1;clear hb HN HX HF HB0 HP0 r2;go_wp2_with fail
 obtain ⟨W9,hW9⟩:∃W,W=res2 w1 g1 g2 ev0 21 t.at_:=⟨_,rfl⟩
 have HS:XpB W9 g1 ev0:=by rw [hW9];exact res2_x HX1.out hg12 ev0 21 t.at_
 have HS':FtB W9 g2 (.int .i64 21) (.int .i64 t.at_):=by rw [hW9];exact res2_f HF1.out hg12 ev0 21 t.at_
 have HP:Mv b w W9:=by rw [hW9];exact res2_mv HM1.out hg1w hg2w ev0 21 t.at_
 have HQ:PP W9 w.heap.size b n c 20 A xs ev0 (.bad 21 t.at_):=by
  rw [hW9];exact ⟨by decide,q,HQN.out,res2_ps HP1.out (Ne.symm hg1b) (Ne.symm hg2b) _ _ _⟩
 unfold res2 two six at hW9;dsimp only [ev0] at hW9;rw [<-hW9];clear hW9;refine bodyPost_ret (XpB.res2 (w:=W9) (v:=ev0) rfl _ rfl rfl HS HS') rfl ?_;exact ⟨ev0,rfl,HQ,HP⟩
theorem nest_one_any (w:World) (b n c q d:Nat) (A:Option Addr) (xs r:List Tk) (t:Tk) (R:PR) (h:Pst w b n c q d A xs (t::r)) (hd:d<20) (he:TkEnds r)
  (hC:∀W,Pst W b n c (q+1) (d+1) A xs r->Calls Tryz.prog 256 #[.pointer (some ⟨b,0,none⟩)] W (PRet W b n c (d+1) A xs R)) :
  Calls Tryz.prog 275 #[.pointer (some ⟨b,0,none⟩),.func (.func 256) #[.pointer (some ⟨b,0,none⟩)] #[]] w (PRet w b n c d A xs R):=by
 obtain ⟨ht,hqn,hdr⟩:=drop_get h.dr;rw [h.tk.1] at hqn;obtain ⟨W0,g1,g2,hW0,hg1,hg2,HX,HF,HB0,hg1w,hg2w,hg12,hg10,hg20⟩:=ret_cells w;have hbw:=h.ps.lt
 have hg1b:g1≠b:=by omega
 have hg2b:g2≠b:=by omega
 have hn9:=h.n9;have HN:=h_ (advance_any W0 b n c q d A (h.ps.below HB0.out) (by omega));have hp0:=h.ps.below HB0.out;have r2:=hp0.c2;have HH:=h_ h;have HE:=h_ (And.intro he hdr);have HC:=h_ hC
 have hd0:((d:Int)==20)=false:=by rw [beq_eq_false_iff_ne];omega
 have hd1:(d:Int)<20:=by omega
 clear h ht hp0 he hdr hC;unfold PRet;go_enter Tryz.func275,Tryz.ntmps275;go_upto_region 1 with fail;rw [<-hW0,<-hg2,<-hg1];clear hW0 hg1 hg2;go_wp2_with fail;refine HN.out.mono ?_;rintro e w1 ⟨rfl,hp,hm⟩;have HX1:=h_ (HX.out.mv hm hg1b);have HF1:=h_ (HF.out.mv hm hg2b);have HM1:=h_ ((Mv.of b HB0.out).trans hm);have hs1:=World.grownBy.size hm;have HP1:=h_ hp;have r2':=hp.c2;have f2':=hp.fr 2
 have h2:PsB (w1.setCell ⟨b,2,none⟩ (.int .i64 ((d:Int)+1))) b A n c (q+1) (d+1):=by
  have:=hp.set2 (d+1);rw [Int.natCast_add] at this;exact this
 obtain ⟨W2,hW2⟩:∃W2,W2=w1.setCell ⟨b,2,none⟩ (.int .i64 ((d:Int)+1)):=⟨_,rfl⟩
 rw [<-hW2] at h2
 have HM2:Hid (Mv b w W2):=by rw [hW2];exact HM1.out.set 2 _
 have hm2:Mv b w1 W2:=by rw [hW2];exact (Mv.refl b w1).set 2 _
 have HX2:Hid (XpB W2 g1 ev0):=HX1.out.mv hm2 hg1b;have HF2:Hid (FtB W2 g2 (.int .i64 0) (.int .i64 0)):=HF1.out.mv hm2 hg2b;have hs2:=World.grownBy.size hm2;have HD:=h_ (HC.out W2 (HH.out.mv HM2.out h2 HE.out.2 HE.out.1 (by omega)))
 have hg12':g1<W2.heap.size:=by omega
 have hg22':g2<W2.heap.size:=by omega
 have hbW2:b<W2.heap.size:=h2.lt;have hwW2:w.heap.size<=W2.heap.size:=World.grownBy.size HM2.out;clear hp hm HN HX HF HB0 HP1 h2 r2 hm2 HX1 HF1 HM1 HC HH;go_upto_region 5 with fail;rw [<-hW2];clear hW2 r2' f2';unfold PRet at HD;go_wp2_with fail;refine HD.out.mono ?_;rintro e w3 ⟨v,rfl,hpp,hm⟩;have hvv:v.val=.agg #[.int .i64 v.kind,.int .i64 v.num,.string v.name,.int .i64 v.op,.slice v.A v.len v.cap,.int .i64 v.p]:=rfl;rw [hvv];unfold ftP ftV
 obtain ⟨cc,hcc⟩:∃cc,R.code=cc:=⟨_,rfl⟩
 obtain ⟨pp,hpt⟩:∃pp,R.pt=pp:=⟨_,rfl⟩
 rw [hcc,hpt]
 have HR:Hid (ftP R=ftV cc pp):=by show _=_;unfold ftP;rw [hcc,hpt]
 obtain ⟨g3,hg3⟩:∃g3,g3=w3.heap.size:=⟨_,rfl⟩
 obtain ⟨g4,hg4⟩:∃g4,g4=w3.heap.size+1:=⟨_,rfl⟩
 obtain ⟨W4,hW4⟩:∃W4,W4=(w3.alloc (xob v)).alloc (.cells #[.int .i64 cc,.int .i64 pp] 59):=⟨_,rfl⟩
 have hb4:Below w3.heap.size w3 W4:=by rw [hW4];exact ((b_ _ w3).alloc (n_ _) _).alloc (by simp) _
 have HV4:Hid (XpB W4 g3 v):=by rw [hW4,hg3];exact (XpB.new w3 v).alloc _
 have HC4:Hid (FtB W4 g4 (.int .i64 cc) (.int .i64 pp)):=by
  rw [hW4,hg4]
  have e:(w3.alloc (xob v)).heap.size=w3.heap.size+1:=by simp
  rw [<-e];exact FtB.new _ _ _
 have HX4:=h_ ((HX2.out.mv hm hg1b).below hb4);have HF4:=h_ ((HF2.out.mv hm hg2b).below hb4);have HM4:=h_ ((HM2.out.trans hm).trans (Mv.of b hb4));have HPP4:=h_ (hpp.below hb4);have hs3:=World.grownBy.size hm
 have hg31:¬g3=g1:=by omega
 have hg32:¬g3=g2:=by omega
 have hg41:¬g4=g1:=by omega
 have hg42:¬g4=g2:=by omega
 have hg34:¬g3=g4:=by omega
 have hg43:¬g4=g3:=by omega
 have hg3b:¬g3=b:=by omega
 have hg4b:¬g4=b:=by omega
 have hg13:¬g1=g3:=λ e=>hg31 e.symm;have hg14:¬g1=g4:=λ e=>hg41 e.symm;obtain ⟨q3,hq3,hp3⟩:=hpp.rd;have hp4:=hp3.below hb4;have r2:=hp4.c2;have f2:=hp4.fr 2;rw [Int.natCast_add] at r2;unfold xob at hW4;clear hpp hm HD HX2 HF2 HM2 hvv hb4 hp3 hp4;go_upto_region 6 with fail;rw [<-hW4,<-hg4,<-hg3];clear hW4 hg4 hg3
 obtain ⟨W5,hW5⟩:∃W5,W5=W4.setCell ⟨b,2,none⟩ (.int .i64 (d:Int)):=⟨_,rfl⟩
 have hm5:Mv b W4 W5:=by rw [hW5];exact (Mv.refl b W4).set 2 _
 have HV5:=h_ (HV4.out.mv hm5 hg3b);have HC5:=h_ (HC4.out.mv hm5 hg4b);have HX5:=h_ (HX4.out.mv hm5 hg1b);have HF5:=h_ (HF4.out.mv hm5 hg2b);have HM5:=h_ (HM4.out.trans hm5)
 have HPP5:Hid (PP W5 W2.heap.size b n c d A xs v R):=by rw [hW5];exact HPP4.out.up hbW2
 clear hm5 HV4 HC4 HX4 HF4 HM4 HPP4;go_upto_region 7 with fail;rw [<-hW5];clear hW5 r2 f2;have a0:=HX5.out.c0;have a1:=HX5.out.c1;have a2:=HX5.out.c2;have a3:=HX5.out.c3;have a4:=HX5.out.c4;have a5:=HX5.out.c5;have f0:=HX5.out.fr 0;have f1:=HX5.out.fr 1;have f2:=HX5.out.fr 2;have f3:=HX5.out.fr 3;have f4:=HX5.out.fr 4;have f5:=HX5.out.fr 5;have k0:=HF5.out.c0;have k1:=HF5.out.c1;have j0:=HF5.out.fr 0;have j1:=HF5.out.fr 1;have b0:=HV5.out.c0;have b1:=HV5.out.c1;have b2:=HV5.out.c2;have b3:=HV5.out.c3;have b4:=HV5.out.c4;have b5:=HV5.out.c5;have y0:=HC5.out.c0;have y1:=HC5.out.c1
 go_region
 go_wp2_with fail
 obtain ⟨W9,hW9⟩:∃W,W=res2 W5 g1 g2 v cc pp:=⟨_,rfl⟩
 have HS:XpB W9 g1 v:=by rw [hW9];exact res2_x HX5.out hg12 v cc pp
 have HS':FtB W9 g2 (.int .i64 cc) (.int .i64 pp):=by rw [hW9];exact res2_f HF5.out hg12 v cc pp
 have HP:Mv b w W9:=by rw [hW9];exact res2_mv HM5.out hg1w hg2w v cc pp
 have HQ:PP W9 w.heap.size b n c d A xs v R:=by
  rw [hW9];exact res2_pp HPP5.out hg12' hg22' hwW2 (Ne.symm hg1b) (Ne.symm hg2b) _ _ _
 unfold res2 two six at hW9;rw [<-hW9];clear hW9;refine bodyPost_ret (XpB.res2 (w:=W9.drew) (v:=v) rfl _ rfl rfl HS HS') rfl ?_;exact ⟨v,by rw [HR.out];rfl,HQ.below (b_ _ W9).drew,HP.drew⟩
theorem nest_exp_deep (w:World) (b n c q d:Nat) (A:Option Addr) (xs r:List Tk) (t:Tk) (h:Pst w b n c q d A xs (t::r)) (hd:d=20) :
  Calls Tryz.prog 275 #[.pointer (some ⟨b,0,none⟩),.func (.func 242) #[.pointer (some ⟨b,0,none⟩)] #[]] w (PRet w b n c d A xs (.bad 21 t.at_)):=by
 subst hd;obtain ⟨ht,hqn,_⟩:=drop_get h.dr;rw [h.tk.1] at hqn;obtain ⟨W0,g1,g2,hW0,hg1,hg2,HX,HF,HB0,hg1w,hg2w,hg12,hg10,hg20⟩:=ret_cells w;have hbw:=h.ps.lt
 have hg1b:g1≠b:=by omega
 have hg2b:g2≠b:=by omega
 have HN:=h_ (fault_any W0 b n c q 20 A xs t 21 (h.ps.below HB0.out) (h.tk.below HB0.out) ht);unfold ftV at HN;have hp0:=h.ps.below HB0.out;have r2:=hp0.c2;have HP0:=h_ hp0;have HQN:=h_ hqn;clear h ht hqn hp0;unfold PRet;go_enter Tryz.func275,Tryz.ntmps275;go_upto_region 1 with fail;rw [<-hW0,<-hg2,<-hg1];clear hW0 hg1 hg2;go_wp2_with fail;refine HN.out.mono ?_;rintro e w1 ⟨rfl,hb⟩;have HX1:=h_ (HX.out.below hb);have HF1:=h_ (HF.out.below hb);have HM1:=h_ (Mv.of b (HB0.out.trans (hb.mono HB0.out.size)));have HP1:=h_ (HP0.out.below hb);have a0:=HX1.out.c0;have a1:=HX1.out.c1;have a2:=HX1.out.c2;have a3:=HX1.out.c3;have a4:=HX1.out.c4;have a5:=HX1.out.c5;have f0:=HX1.out.fr 0;have f1:=HX1.out.fr 1;have f2:=HX1.out.fr 2;have f3:=HX1.out.fr 3;have f4:=HX1.out.fr 4;have f5:=HX1.out.fr 5;have k0:=HF1.out.c0;have k1:=HF1.out.c1;have j0:=HF1.out.fr 0;have j1:=HF1.out.fr 1;clear hb HN HX HF HB0 HP0 r2;go_wp2_with fail
 obtain ⟨W9,hW9⟩:∃W,W=res2 w1 g1 g2 ev0 21 t.at_:=⟨_,rfl⟩
 have HS:XpB W9 g1 ev0:=by rw [hW9];exact res2_x HX1.out hg12 ev0 21 t.at_
 have HS':FtB W9 g2 (.int .i64 21) (.int .i64 t.at_):=by rw [hW9];exact res2_f HF1.out hg12 ev0 21 t.at_
 have HP:Mv b w W9:=by rw [hW9];exact res2_mv HM1.out hg1w hg2w ev0 21 t.at_
 have HQ:PP W9 w.heap.size b n c 20 A xs ev0 (.bad 21 t.at_):=by
  rw [hW9];exact ⟨by decide,q,HQN.out,res2_ps HP1.out (Ne.symm hg1b) (Ne.symm hg2b) _ _ _⟩
 unfold res2 two six at hW9;dsimp only [ev0] at hW9;rw [<-hW9];clear hW9;refine bodyPost_ret (XpB.res2 (w:=W9) (v:=ev0) rfl _ rfl rfl HS HS') rfl ?_;exact ⟨ev0,rfl,HQ,HP⟩
theorem nest_exp_any (w:World) (b n c q d:Nat) (A:Option Addr) (xs r:List Tk) (t:Tk) (R:PR) (h:Pst w b n c q d A xs (t::r)) (hd:d<20) (he:TkEnds r)
  (hC:∀W,Pst W b n c (q+1) (d+1) A xs r->Calls Tryz.prog 242 #[.pointer (some ⟨b,0,none⟩)] W (PRet W b n c (d+1) A xs R)) :
  Calls Tryz.prog 275 #[.pointer (some ⟨b,0,none⟩),.func (.func 242) #[.pointer (some ⟨b,0,none⟩)] #[]] w (PRet w b n c d A xs R):=by
 obtain ⟨ht,hqn,hdr⟩:=drop_get h.dr;rw [h.tk.1] at hqn;obtain ⟨W0,g1,g2,hW0,hg1,hg2,HX,HF,HB0,hg1w,hg2w,hg12,hg10,hg20⟩:=ret_cells w;have hbw:=h.ps.lt
 have hg1b:g1≠b:=by omega
 have hg2b:g2≠b:=by omega
 have hn9:=h.n9;have HN:=h_ (advance_any W0 b n c q d A (h.ps.below HB0.out) (by omega));have hp0:=h.ps.below HB0.out;have r2:=hp0.c2;have HH:=h_ h;have HE:=h_ (And.intro he hdr);have HC:=h_ hC
 have hd0:((d:Int)==20)=false:=by rw [beq_eq_false_iff_ne];omega
 have hd1:(d:Int)<20:=by omega
 clear h ht hp0 he hdr hC;unfold PRet;go_enter Tryz.func275,Tryz.ntmps275;go_upto_region 1 with fail;rw [<-hW0,<-hg2,<-hg1];clear hW0 hg1 hg2;go_wp2_with fail;refine HN.out.mono ?_;rintro e w1 ⟨rfl,hp,hm⟩;have HX1:=h_ (HX.out.mv hm hg1b);have HF1:=h_ (HF.out.mv hm hg2b);have HM1:=h_ ((Mv.of b HB0.out).trans hm);have hs1:=World.grownBy.size hm;have HP1:=h_ hp;have r2':=hp.c2;have f2':=hp.fr 2
 have h2:PsB (w1.setCell ⟨b,2,none⟩ (.int .i64 ((d:Int)+1))) b A n c (q+1) (d+1):=by
  have:=hp.set2 (d+1);rw [Int.natCast_add] at this;exact this
 obtain ⟨W2,hW2⟩:∃W2,W2=w1.setCell ⟨b,2,none⟩ (.int .i64 ((d:Int)+1)):=⟨_,rfl⟩
 rw [<-hW2] at h2
 have HM2:Hid (Mv b w W2):=by rw [hW2];exact HM1.out.set 2 _
 have hm2:Mv b w1 W2:=by rw [hW2];exact (Mv.refl b w1).set 2 _
 have HX2:Hid (XpB W2 g1 ev0):=HX1.out.mv hm2 hg1b;have HF2:Hid (FtB W2 g2 (.int .i64 0) (.int .i64 0)):=HF1.out.mv hm2 hg2b;have hs2:=World.grownBy.size hm2;have HD:=h_ (HC.out W2 (HH.out.mv HM2.out h2 HE.out.2 HE.out.1 (by omega)))
 have hg12':g1<W2.heap.size:=by omega
 have hg22':g2<W2.heap.size:=by omega
 have hbW2:b<W2.heap.size:=h2.lt;have hwW2:w.heap.size<=W2.heap.size:=World.grownBy.size HM2.out;clear hp hm HN HX HF HB0 HP1 h2 r2 hm2 HX1 HF1 HM1 HC HH;go_upto_region 5 with fail;rw [<-hW2];clear hW2 r2' f2';unfold PRet at HD;go_wp2_with fail;refine HD.out.mono ?_;rintro e w3 ⟨v,rfl,hpp,hm⟩;have hvv:v.val=.agg #[.int .i64 v.kind,.int .i64 v.num,.string v.name,.int .i64 v.op,.slice v.A v.len v.cap,.int .i64 v.p]:=rfl;rw [hvv];unfold ftP ftV
 obtain ⟨cc,hcc⟩:∃cc,R.code=cc:=⟨_,rfl⟩
 obtain ⟨pp,hpt⟩:∃pp,R.pt=pp:=⟨_,rfl⟩
 rw [hcc,hpt]
 have HR:Hid (ftP R=ftV cc pp):=by show _=_;unfold ftP;rw [hcc,hpt]
 obtain ⟨g3,hg3⟩:∃g3,g3=w3.heap.size:=⟨_,rfl⟩
 obtain ⟨g4,hg4⟩:∃g4,g4=w3.heap.size+1:=⟨_,rfl⟩
 obtain ⟨W4,hW4⟩:∃W4,W4=(w3.alloc (xob v)).alloc (.cells #[.int .i64 cc,.int .i64 pp] 59):=⟨_,rfl⟩
 have hb4:Below w3.heap.size w3 W4:=by rw [hW4];exact ((b_ _ w3).alloc (n_ _) _).alloc (by simp) _
 have HV4:Hid (XpB W4 g3 v):=by rw [hW4,hg3];exact (XpB.new w3 v).alloc _
 have HC4:Hid (FtB W4 g4 (.int .i64 cc) (.int .i64 pp)):=by
  rw [hW4,hg4]
  have e:(w3.alloc (xob v)).heap.size=w3.heap.size+1:=by simp
  rw [<-e];exact FtB.new _ _ _
 have HX4:=h_ ((HX2.out.mv hm hg1b).below hb4);have HF4:=h_ ((HF2.out.mv hm hg2b).below hb4);have HM4:=h_ ((HM2.out.trans hm).trans (Mv.of b hb4));have HPP4:=h_ (hpp.below hb4);have hs3:=World.grownBy.size hm
 have hg31:¬g3=g1:=by omega
 have hg32:¬g3=g2:=by omega
 have hg41:¬g4=g1:=by omega
 have hg42:¬g4=g2:=by omega
 have hg34:¬g3=g4:=by omega
 have hg43:¬g4=g3:=by omega
 have hg3b:¬g3=b:=by omega
 have hg4b:¬g4=b:=by omega
 have hg13:¬g1=g3:=λ e=>hg31 e.symm;have hg14:¬g1=g4:=λ e=>hg41 e.symm;obtain ⟨q3,hq3,hp3⟩:=hpp.rd;have hp4:=hp3.below hb4;have r2:=hp4.c2;have f2:=hp4.fr 2;rw [Int.natCast_add] at r2;unfold xob at hW4;clear hpp hm HD HX2 HF2 HM2 hvv hb4 hp3 hp4;go_upto_region 6 with fail;rw [<-hW4,<-hg4,<-hg3];clear hW4 hg4 hg3
 obtain ⟨W5,hW5⟩:∃W5,W5=W4.setCell ⟨b,2,none⟩ (.int .i64 (d:Int)):=⟨_,rfl⟩
 have hm5:Mv b W4 W5:=by rw [hW5];exact (Mv.refl b W4).set 2 _
 have HV5:=h_ (HV4.out.mv hm5 hg3b);have HC5:=h_ (HC4.out.mv hm5 hg4b);have HX5:=h_ (HX4.out.mv hm5 hg1b);have HF5:=h_ (HF4.out.mv hm5 hg2b);have HM5:=h_ (HM4.out.trans hm5)
 have HPP5:Hid (PP W5 W2.heap.size b n c d A xs v R):=by rw [hW5];exact HPP4.out.up hbW2
 clear hm5 HV4 HC4 HX4 HF4 HM4 HPP4;go_upto_region 7 with fail;rw [<-hW5];clear hW5 r2 f2;have a0:=HX5.out.c0;have a1:=HX5.out.c1;have a2:=HX5.out.c2;have a3:=HX5.out.c3;have a4:=HX5.out.c4;have a5:=HX5.out.c5;have f0:=HX5.out.fr 0;have f1:=HX5.out.fr 1;have f2:=HX5.out.fr 2;have f3:=HX5.out.fr 3;have f4:=HX5.out.fr 4;have f5:=HX5.out.fr 5;have k0:=HF5.out.c0;have k1:=HF5.out.c1;have j0:=HF5.out.fr 0;have j1:=HF5.out.fr 1;have b0:=HV5.out.c0;have b1:=HV5.out.c1;have b2:=HV5.out.c2;have b3:=HV5.out.c3;have b4:=HV5.out.c4;have b5:=HV5.out.c5;have y0:=HC5.out.c0;have y1:=HC5.out.c1
 go_region
 go_wp2_with fail
 obtain ⟨W9,hW9⟩:∃W,W=res2 W5 g1 g2 v cc pp:=⟨_,rfl⟩
 have HS:XpB W9 g1 v:=by rw [hW9];exact res2_x HX5.out hg12 v cc pp
 have HS':FtB W9 g2 (.int .i64 cc) (.int .i64 pp):=by rw [hW9];exact res2_f HF5.out hg12 v cc pp
 have HP:Mv b w W9:=by rw [hW9];exact res2_mv HM5.out hg1w hg2w v cc pp
 have HQ:PP W9 w.heap.size b n c d A xs v R:=by
  rw [hW9];exact res2_pp HPP5.out hg12' hg22' hwW2 (Ne.symm hg1b) (Ne.symm hg2b) _ _ _
 unfold res2 two six at hW9;rw [<-hW9];clear hW9;refine bodyPost_ret (XpB.res2 (w:=W9.drew) (v:=v) rfl _ rfl rfl HS HS') rfl ?_;exact ⟨v,by rw [HR.out];rfl,HQ.below (b_ _ W9).drew,HP.drew⟩
theorem GW.mvh {w w':World} {lo hi b:Nat} {x:GX} {v:EV} (h:GW w lo hi x v) (hm:Mv b w w') (hb:b<lo∨hi<=b) (hh:hi<=w.heap.size):GW w' lo hi x v:=h.same (λ g _ _=>hm.block (by omega) (by omega))
def nR (d:Nat) (t:Tk) (R:PR):PR:=if d=20 then .bad 21 t.at_ else R
theorem nest_one_R {m:Nat} (IH:POne m) (w:World) (b n c q d:Nat) (A:Option Addr) (xs r:List Tk) (t:Tk) (h:Pst w b n c q d A xs (t::r)) (he:TkEnds r) (hm:r.length<=m) :
  Calls Tryz.prog 275 #[.pointer (some ⟨b,0,none⟩),.func (.func 256) #[.pointer (some ⟨b,0,none⟩)] #[]] w (PRet w b n c d A xs (nR d t (Po (d+1) r))):=by
 unfold nR
 split
 ·rename_i hd;exact nest_one_deep w b n c q d A xs r t h hd
 ·rename_i hd;exact nest_one_any w b n c q d A xs r t _ h (by have:=h.d20;omega) he λ W hW=>IH W b n c (q+1) (d+1) A xs r hm hW
theorem nest_exp_R {m:Nat} (IH:PExp m) (w:World) (b n c q d:Nat) (A:Option Addr) (xs r:List Tk) (t:Tk) (h:Pst w b n c q d A xs (t::r)) (he:TkEnds r) (hm:r.length<=m) :
  Calls Tryz.prog 275 #[.pointer (some ⟨b,0,none⟩),.func (.func 242) #[.pointer (some ⟨b,0,none⟩)] #[]] w (PRet w b n c d A xs (nR d t (Pf 0 (d+1) r))):=by
 unfold nR
 split
 ·rename_i hd;exact nest_exp_deep w b n c q d A xs r t h hd
 ·rename_i hd;exact nest_exp_any w b n c q d A xs r t _ h (by have:=h.d20;omega) he λ W hW=>IH W b n c (q+1) (d+1) A xs r hm hW
theorem unary_any {m:Nat} (IH:POne m) (w:World) (b n c q d:Nat) (A:Option Addr) (xs r:List Tk) (t:Tk) (op:Int) (h:Pst w b n c q d A xs (t::r)) (he:TkEnds r) (hm:r.length<=m) :
  Calls Tryz.prog 268 #[.pointer (some ⟨b,0,none⟩),.int .i64 op] w (PRet w b n c d A xs ((nR d t (Po (d+1) r)).andThen λ x r'=>.ok (.one op x t.at_) r')):=by
 obtain ⟨ht,hqn,hdr⟩:=drop_get h.dr;obtain ⟨W0,g1,g2,hW0,hg1,hg2,HX,HF,HB0,hg1w,hg2w,hg12,hg10,hg20⟩:=ret_cells w;have hbw:=h.ps.lt
 have hg1b:g1≠b:=by omega
 have hg2b:g2≠b:=by omega
 have HN:=h_ (now_any W0 b n c q d A xs t (h.ps.below HB0.out) (h.tk.below HB0.out) ht)
 obtain ⟨X,hX⟩:∃X,txV t.text=.string X:=⟨_,rfl⟩
 unfold tkV at HN;rw [hX] at HN;have HC:=h_ (λ (W:World) (hb:Below w.heap.size w W)=>nest_one_R IH W b n c q d A xs r t (h.below hb) he hm)
 obtain ⟨E,hE⟩:∃E,nR d t (Po (d+1) r)=E:=⟨_,rfl⟩
 rw [hE] at HC ⊢;clear h ht hqn hdr he hm hX hE IH;have hmf:∀(fn:Fn) (first cap:Array Value) (w:World),(Instr.makeFunc fn first cap).run Tryz.prog w=.ok (.func fn first cap) w:=λ _ _ _ _=>rfl;have hfl:=fld_tok;unfold PRet;go_enter Tryz.func268,Tryz.ntmps268;go_upto_region 1 with fail;rw [<-hW0,<-hg2,<-hg1];clear hW0 hg1 hg2;go_wp2_with fail;refine HN.out.mono ?_;rintro e w1 ⟨rfl,hb⟩;have HX1:=h_ (HX.out.below hb);have HF1:=h_ (HF.out.below hb);have HB1:=h_ (HB0.out.trans (hb.mono HB0.out.size));have HM1:=h_ (Mv.of b HB1.out);have HD:=h_ (HC.out w1 HB1.out);have hs1:=hb.size
 have hbw1:b<w1.heap.size:=by have:=HB1.out.size;omega
 have hww1:w.heap.size<=w1.heap.size:=HB1.out.size
 have hg11:g1<w1.heap.size:=by omega
 have hg21:g2<w1.heap.size:=by omega
 unfold PRet at HD;clear hb HN HX HF HB0 HC HB1;go_wp2_with fail;refine HD.out.mono ?_;rintro e w3 ⟨v,rfl,hpp,hm⟩;have hvv:v.val=.agg #[.int .i64 v.kind,.int .i64 v.num,.string v.name,.int .i64 v.op,.slice v.A v.len v.cap,.int .i64 v.p]:=rfl;rw [hvv];unfold ftP ftV
 obtain ⟨g3,hg3⟩:∃g3,g3=w3.heap.size:=⟨_,rfl⟩
 obtain ⟨g4,hg4⟩:∃g4,g4=w3.heap.size+1:=⟨_,rfl⟩
 obtain ⟨W4,hW4⟩:∃W4,W4=(w3.alloc (xob v)).alloc (.cells #[.int .i64 E.code,.int .i64 E.pt] 59):=⟨_,rfl⟩
 have hb4:Below w3.heap.size w3 W4:=by rw [hW4];exact ((b_ _ w3).alloc (n_ _) _).alloc (by simp) _
 have HV4:Hid (XpB W4 g3 v):=by rw [hW4,hg3];exact (XpB.new w3 v).alloc _
 have HC4:Hid (FtB W4 g4 (.int .i64 E.code) (.int .i64 E.pt)):=by
  rw [hW4,hg4]
  have e:(w3.alloc (xob v)).heap.size=w3.heap.size+1:=by simp
  rw [<-e];exact FtB.new _ _ _
 have HX4:=h_ ((HX1.out.mv hm hg1b).below hb4);have HF4:=h_ ((HF1.out.mv hm hg2b).below hb4);have HM4:=h_ ((HM1.out.trans hm).trans (Mv.of b hb4));have HPP4:=h_ (hpp.below hb4)
 have HGV4:Hid (∀x r,E=.ok x r->GW W4 w1.heap.size g3 x.gx v):=λ x r h=>by
  have h1:=hpp;rw [h] at h1;obtain ⟨hv,_⟩:=h1;rw [hg3];exact hv.below hb4 (n_ _)
 have hs3:=World.grownBy.size hm
 have hg31:¬g3=g1:=by omega
 have hg32:¬g3=g2:=by omega
 have hg41:¬g4=g1:=by omega
 have hg42:¬g4=g2:=by omega
 have hg34:¬g3=g4:=by omega
 have hg43:¬g4=g3:=by omega
 have hg3le:g3<=g4:=by omega
 have hg3b:¬g3=b:=by omega
 have hg4b:¬g4=b:=by omega
 have hg4w:w.heap.size<=g4:=by omega
 have hg13:¬g1=g3:=λ e=>hg31 e.symm;have hg14:¬g1=g4:=λ e=>hg41 e.symm
 have hg4s:w1.heap.size<=g4:=by omega
 unfold xob at hW4;clear hpp hm hvv hb4;clear HX1 HF1 HM1 HD;go_upto_region 3 with fail;rw [<-hW4,<-hg4,<-hg3];clear hW4 hg4 hg3;have y0:=HC4.out.c0;have y1:=HC4.out.c1;have a0:=HX4.out.c0;have a1:=HX4.out.c1;have a2:=HX4.out.c2;have a3:=HX4.out.c3;have a4:=HX4.out.c4;have a5:=HX4.out.c5;have f0:=HX4.out.fr 0;have f1:=HX4.out.fr 1;have f2:=HX4.out.fr 2;have f3:=HX4.out.fr 3;have f4:=HX4.out.fr 4;have f5:=HX4.out.fr 5;have k0:=HF4.out.c0;have k1:=HF4.out.c1;have j0:=HF4.out.fr 0;have j1:=HF4.out.fr 1;have b0:=HV4.out.c0;have b1:=HV4.out.c1;have b2:=HV4.out.c2;have b3:=HV4.out.c3;have b4:=HV4.out.c4;have b5:=HV4.out.c5
 cases E with
 |out=>exact absurd HPP4.out (by intro h;exact h)
 |bad cc pp =>
  obtain ⟨hcc,q3,hq3,hp3⟩:=HPP4.out;have HP4:=h_ hp3;have HCC:=h_ (And.intro hcc hq3);have hwn:(cc==0)=false:=beq_eq_false_iff_ne.2 hcc;simp only [PR.code,PR.pt] at y0 y1;clear hp3 hcc hq3;go_wp2_with fail
  go_region
  go_wp2_with fail
  obtain ⟨W9,hW9⟩:∃W,W=res2 W4 g1 g2 ev0 cc pp:=⟨_,rfl⟩
  have HS:XpB W9 g1 ev0:=by rw [hW9];exact res2_x HX4.out hg12 ev0 cc pp
  have HS':FtB W9 g2 (.int .i64 cc) (.int .i64 pp):=by rw [hW9];exact res2_f HF4.out hg12 ev0 cc pp
  have HP:Mv b w W9:=by rw [hW9];exact res2_mv HM4.out hg1w hg2w ev0 cc pp
  have HQ:PP W9 w.heap.size b n c d A xs ev0 (.bad cc pp):=by
   rw [hW9];exact ⟨HCC.out.1,q3,HCC.out.2,res2_ps HP4.out (Ne.symm hg1b) (Ne.symm hg2b) _ _ _⟩
  unfold res2 two six at hW9;dsimp only [ev0] at hW9;rw [<-hW9];clear hW9;refine bodyPost_ret (XpB.res2 (w:=W9.drew) (v:=ev0) rfl _ rfl rfl HS HS') rfl ?_;exact ⟨ev0,rfl,HQ.below (b_ _ W9).drew,HP.drew⟩
 |ok x r' =>
  obtain ⟨hgv,hen,q3,hq3,hdr,hp3⟩:=HPP4.out;simp only [PR.code,PR.pt] at y0 y1
  have hgl:w1.heap.size<=W4.heap.size:=by have:=HC4.out.lt;omega
  have HGV:=h_ (hgv.one_new hgl op t.at_);have HP5:=h_ (hp3.alloc (xob v));have HX5:=h_ (HX4.out.alloc (xob v));have HF5:=h_ (HF4.out.alloc (xob v));have HM5:=h_ (HM4.out.trans (Mv.of b ((b_ _ W4).alloc (n_ _) (xob v))));have HEN:=h_ (And.intro hen (And.intro hq3 hdr))
  have hsz:(W4.alloc (xob v)).heap.size=W4.heap.size+1:=by simp
  obtain ⟨W5,hW5⟩:∃W5,W5=W4.alloc (xob v):=⟨_,rfl⟩
  obtain ⟨g5,hg5⟩:∃g5,g5=W4.heap.size:=⟨_,rfl⟩
  rw [<-hW5] at HP5 HX5 HF5 HM5 hsz
  have HGV':Hid (GW W5 w1.heap.size W5.heap.size (.mk 4 0 [] op [x.gx] t.at_) ⟨4,0,⟨#[]⟩,op,some ⟨g5,0,none⟩,1,1,t.at_⟩):=by
   rw [hsz,hW5,hg5];exact HGV.out
  clear hgv hen hdr hp3 HGV hgl;have a0:∀ob:Obj,(W4.alloc ob).cell? ⟨g1,0,none⟩=some (.int .i64 0):=λ ob=>(HX4.out.alloc ob).c0;have a1:∀ob:Obj,(W4.alloc ob).cell? ⟨g1,1,none⟩=some (.int .i64 0):=λ ob=>(HX4.out.alloc ob).c1;have a2:∀ob:Obj,(W4.alloc ob).cell? ⟨g1,2,none⟩=some (.string ⟨#[]⟩):=λ ob=>(HX4.out.alloc ob).c2;have a3:∀ob:Obj,(W4.alloc ob).cell? ⟨g1,3,none⟩=some (.int .i64 0):=λ ob=>(HX4.out.alloc ob).c3;have a4:∀ob:Obj,(W4.alloc ob).cell? ⟨g1,4,none⟩=some (.slice none 0 0):=λ ob=>(HX4.out.alloc ob).c4;have a5:∀ob:Obj,(W4.alloc ob).cell? ⟨g1,5,none⟩=some (.int .i64 0):=λ ob=>(HX4.out.alloc ob).c5;have f0:∀ob:Obj,(W4.alloc ob).frozen? ⟨g1,0,none⟩=false:=λ ob=>(HX4.out.alloc ob).fr 0;have f1:∀ob:Obj,(W4.alloc ob).frozen? ⟨g1,1,none⟩=false:=λ ob=>(HX4.out.alloc ob).fr 1;have f2:∀ob:Obj,(W4.alloc ob).frozen? ⟨g1,2,none⟩=false:=λ ob=>(HX4.out.alloc ob).fr 2;have f3:∀ob:Obj,(W4.alloc ob).frozen? ⟨g1,3,none⟩=false:=λ ob=>(HX4.out.alloc ob).fr 3;have f4:∀ob:Obj,(W4.alloc ob).frozen? ⟨g1,4,none⟩=false:=λ ob=>(HX4.out.alloc ob).fr 4;have f5:∀ob:Obj,(W4.alloc ob).frozen? ⟨g1,5,none⟩=false:=λ ob=>(HX4.out.alloc ob).fr 5;have k0:∀ob:Obj,(W4.alloc ob).cell? ⟨g2,0,none⟩=some (.int .i64 0):=λ ob=>(HF4.out.alloc ob).c0;have k1:∀ob:Obj,(W4.alloc ob).cell? ⟨g2,1,none⟩=some (.int .i64 0):=λ ob=>(HF4.out.alloc ob).c1;have j0:∀ob:Obj,(W4.alloc ob).frozen? ⟨g2,0,none⟩=false:=λ ob=>(HF4.out.alloc ob).fr 0;have j1:∀ob:Obj,(W4.alloc ob).frozen? ⟨g2,1,none⟩=false:=λ ob=>(HF4.out.alloc ob).fr 1;go_wp2_with fail;unfold xob at hW5;rw [<-hW5,<-hg5];clear hW5 hg5
  obtain ⟨W9,hW9⟩:∃W,W=res2 W5 g1 g2 ⟨4,0,⟨#[]⟩,op,some ⟨g5,0,none⟩,1,1,t.at_⟩ 0 0:=⟨_,rfl⟩
  have HS:XpB W9 g1 ⟨4,0,⟨#[]⟩,op,some ⟨g5,0,none⟩,1,1,t.at_⟩:=by rw [hW9];exact res2_x HX5.out hg12 ⟨4,0,⟨#[]⟩,op,some ⟨g5,0,none⟩,1,1,t.at_⟩ 0 0
  have HS':FtB W9 g2 (.int .i64 0) (.int .i64 0):=by rw [hW9];exact res2_f HF5.out hg12 ⟨4,0,⟨#[]⟩,op,some ⟨g5,0,none⟩,1,1,t.at_⟩ 0 0
  have HP:Mv b w W9:=by rw [hW9];exact res2_mv HM5.out hg1w hg2w ⟨4,0,⟨#[]⟩,op,some ⟨g5,0,none⟩,1,1,t.at_⟩ 0 0
  have HQ:PP W9 w.heap.size b n c d A xs ⟨4,0,⟨#[]⟩,op,some ⟨g5,0,none⟩,1,1,t.at_⟩ (.ok (.one op x t.at_) r'):=by
   rw [hW9];exact ⟨res2_gv HGV'.out hg11 hg21 hww1 _ _ _,HEN.out.1,q3,HEN.out.2.1,HEN.out.2.2,res2_ps HP5.out (Ne.symm hg1b) (Ne.symm hg2b) _ _ _⟩
  unfold res2 two six at hW9;dsimp only [ev0] at hW9;rw [<-hW9];clear hW9;refine bodyPost_ret (XpB.res2 (w:=W9) (v:=⟨4,0,⟨#[]⟩,op,some ⟨g5,0,none⟩,1,1,t.at_⟩) rfl _ rfl rfl HS HS') rfl ?_;exact ⟨⟨4,0,⟨#[]⟩,op,some ⟨g5,0,none⟩,1,1,t.at_⟩,rfl,HQ,HP⟩
theorem enclosed_any {m:Nat} (IH:PExp m) (w:World) (b n c q d:Nat) (A:Option Addr) (xs r:List Tk) (t:Tk) (h:Pst w b n c q d A xs (t::r)) (he:TkEnds r) (hm:r.length<=m) :
  Calls Tryz.prog 267 #[.pointer (some ⟨b,0,none⟩)] w (PRet w b n c d A xs ((nR d t (Pf 0 (d+1) r)).andThen shutP)):=by
 obtain ⟨W0,g1,g2,hW0,hg1,hg2,HX,HF,HB0,hg1w,hg2w,hg12,hg10,hg20⟩:=ret_cells w;have hbw:=h.ps.lt
 have hg1b:g1≠b:=by omega
 have hg2b:g2≠b:=by omega
 have HD:=h_ (nest_exp_R IH W0 b n c q d A xs r t (h.below HB0.out) he hm);have HAW:=h_ (λ (W:World) (hm:Mv b w W)=>h.tk.mv hm h.ab);have HLN:=h_ (And.intro h.tk.1 h.n9)
 obtain ⟨E,hE⟩:∃E,nR d t (Pf 0 (d+1) r)=E:=⟨_,rfl⟩
 rw [hE] at HD ⊢;have HM0:=h_ (Mv.of b HB0.out);have hww0:w.heap.size<=W0.heap.size:=HB0.out.size
 have hbw0:b<W0.heap.size:=by omega
 clear h he hm hE IH HB0;have hmf:∀(fn:Fn) (first cap:Array Value) (w:World),(Instr.makeFunc fn first cap).run Tryz.prog w=.ok (.func fn first cap) w:=λ _ _ _ _=>rfl;unfold PRet at HD ⊢;go_enter Tryz.func267,Tryz.ntmps267;go_upto_region 1 with fail;rw [<-hW0,<-hg2,<-hg1];clear hW0 hg1 hg2;go_wp2_with fail;refine HD.out.mono ?_;rintro e w3 ⟨v,rfl,hpp,hm⟩;have hvv:v.val=.agg #[.int .i64 v.kind,.int .i64 v.num,.string v.name,.int .i64 v.op,.slice v.A v.len v.cap,.int .i64 v.p]:=rfl;rw [hvv];unfold ftP ftV
 obtain ⟨g3,hg3⟩:∃g3,g3=w3.heap.size:=⟨_,rfl⟩
 obtain ⟨g4,hg4⟩:∃g4,g4=w3.heap.size+1:=⟨_,rfl⟩
 obtain ⟨W4,hW4⟩:∃W4,W4=(w3.alloc (xob v)).alloc (.cells #[.int .i64 E.code,.int .i64 E.pt] 59):=⟨_,rfl⟩
 have hb4:Below w3.heap.size w3 W4:=by rw [hW4];exact ((b_ _ w3).alloc (n_ _) _).alloc (by simp) _
 have HV4:Hid (XpB W4 g3 v):=by rw [hW4,hg3];exact (XpB.new w3 v).alloc _
 have HC4:Hid (FtB W4 g4 (.int .i64 E.code) (.int .i64 E.pt)):=by
  rw [hW4,hg4]
  have e:(w3.alloc (xob v)).heap.size=w3.heap.size+1:=by simp
  rw [<-e];exact FtB.new _ _ _
 have HX4:=h_ ((HX.out.mv hm hg1b).below hb4);have HF4:=h_ ((HF.out.mv hm hg2b).below hb4);have HM4:=h_ ((HM0.out.trans hm).trans (Mv.of b hb4));have HPP4:=h_ (hpp.below hb4)
 have HGV4:Hid (∀x r,E=.ok x r->GW W4 W0.heap.size g3 x.gx v):=λ x r h=>by
  have h1:=hpp;rw [h] at h1;obtain ⟨hv,_⟩:=h1;rw [hg3];exact hv.below hb4 (n_ _)
 have hs3:=World.grownBy.size hm
 have hg31:¬g3=g1:=by omega
 have hg32:¬g3=g2:=by omega
 have hg41:¬g4=g1:=by omega
 have hg42:¬g4=g2:=by omega
 have hg34:¬g3=g4:=by omega
 have hg43:¬g4=g3:=by omega
 have hg3le:g3<=g4:=by omega
 have hg3b:¬g3=b:=by omega
 have hg4b:¬g4=b:=by omega
 have hg4w:w.heap.size<=g4:=by omega
 have hg13:¬g1=g3:=λ e=>hg31 e.symm;have hg14:¬g1=g4:=λ e=>hg41 e.symm
 have hg4s:W0.heap.size<=g4:=by omega
 unfold xob at hW4;clear hpp hm hvv hb4;clear HX HF HM0 HD;go_upto_region 2 with fail;rw [<-hW4,<-hg4,<-hg3];clear hW4 hg4 hg3;have y0:=HC4.out.c0;have y1:=HC4.out.c1
 cases E with
 |out=>exact absurd HPP4.out (by intro h;exact h)
 |bad cc pp =>
  obtain ⟨hcc,q3,hq3,hp3⟩:=HPP4.out;have HP4:=h_ hp3;have HCC:=h_ (And.intro hcc hq3);have hwn:(cc==0)=false:=beq_eq_false_iff_ne.2 hcc;simp only [PR.code,PR.pt] at y0 y1;have a0:=HX4.out.c0;have a1:=HX4.out.c1;have a2:=HX4.out.c2;have a3:=HX4.out.c3;have a4:=HX4.out.c4;have a5:=HX4.out.c5;have f0:=HX4.out.fr 0;have f1:=HX4.out.fr 1;have f2:=HX4.out.fr 2;have f3:=HX4.out.fr 3;have f4:=HX4.out.fr 4;have f5:=HX4.out.fr 5;have k0:=HF4.out.c0;have k1:=HF4.out.c1;have j0:=HF4.out.fr 0;have j1:=HF4.out.fr 1;clear hp3 hcc hq3;go_wp2_with fail
  go_region
  go_wp2_with fail
  obtain ⟨W9,hW9⟩:∃W,W=res2 W4 g1 g2 ev0 cc pp:=⟨_,rfl⟩
  have HS:XpB W9 g1 ev0:=by rw [hW9];exact res2_x HX4.out hg12 ev0 cc pp
  have HS':FtB W9 g2 (.int .i64 cc) (.int .i64 pp):=by rw [hW9];exact res2_f HF4.out hg12 ev0 cc pp
  have HP:Mv b w W9:=by rw [hW9];exact res2_mv HM4.out hg1w hg2w ev0 cc pp
  have HQ:PP W9 w.heap.size b n c d A xs ev0 (.bad cc pp):=by
   rw [hW9];exact ⟨HCC.out.1,q3,HCC.out.2,res2_ps HP4.out (Ne.symm hg1b) (Ne.symm hg2b) _ _ _⟩
  unfold res2 two six at hW9;dsimp only [ev0] at hW9;rw [<-hW9];clear hW9;refine bodyPost_ret (XpB.res2 (w:=W9.drew) (v:=ev0) rfl _ rfl rfl HS HS') rfl ?_;exact ⟨ev0,rfl,HQ.below (b_ _ W9).drew,HP.drew⟩
 |ok x r' =>
  obtain ⟨hgv,hen,q3,hq3,hdr,hp3⟩:=HPP4.out;obtain ⟨u,r',rfl⟩:=ends_cons hen;obtain ⟨hu,hqu,hdu⟩:=drop_get hdr;simp only [PR.code,PR.pt] at y0 y1 HC4;have HP4:=h_ hp3;have HGV:=h_ (HGV4.out x _ rfl)
  have hg3s:g3<=W4.heap.size:=by have:=HV4.out.lt;omega
  have f0:=HC4.out.fr 0;have f1:=HC4.out.fr 1
  have hq9:q3<1000000000:=by have:=HLN.out.2;omega
  cases hs:isSg u [41] with
  |false =>
   have HIN:Hid (((PR.ok x (u::r')).andThen shutP)=.bad (wrC u) u.at_):=by
    show shutP x (u::r')=_;rw [shutP_cons,if_neg (by rw [hs];decide),wrongAt_eq]
   have HC:=h_ (needSign_no W4 b n c q3 d A xs u ⟨#[41]⟩ hp3 (HAW.out W4 HM4.out) hu hs);have hwn:((wrC u)==0)=false:=beq_eq_false_iff_ne.2 (wrC_ne u);have HQ3:=h_ hq3;clear hp3 hgv hen hdr hu hqu hdu;go_wp2_with fail;refine HC.out.mono ?_;rintro e w6 ⟨rfl,hb⟩;unfold ftV;have HX6:=h_ (HX4.out.below hb);have HF6:=h_ (HF4.out.below hb);have HG6:=h_ (HC4.out.below hb);have HM6:=h_ (HM4.out.trans (Mv.of b hb));have HP6:=h_ (HP4.out.below hb);clear hb HC HX4 HF4 HC4 HM4 HP4 y0 y1 f0 f1 HGV HPP4;have y0:=HG6.out.c0;have y1:=HG6.out.c1;have v0:=HG6.out.fr 0;have v1:=HG6.out.fr 1;have HG7:=h_ (HG6.out.two (wrC u) u.at_);have HM7:=h_ (two_put HM6.out hg4w (wrC u) u.at_);have HP7:=h_ (HP6.out.mv (two_mv _ g4 (wrC u) u.at_) (Ne.symm hg4b));have HX7:=h_ (HX6.out.mv (two_mv _ g4 (wrC u) u.at_) (Ne.symm hg41));have HF7:=h_ (HF6.out.mv (two_mv _ g4 (wrC u) u.at_) (Ne.symm hg42));go_upto_region 4 with fail
   obtain ⟨W7,hW7⟩:∃W,W=two w6 g4 (wrC u) u.at_:=⟨_,rfl⟩
   rw [<-hW7] at HG7 HM7 HP7 HX7 HF7;unfold two at hW7;rw [<-hW7];clear hW7 HX6 HF6 HG6 HM6 HP6 y0 y1 v0 v1;have y0:=HG7.out.c0;have y1:=HG7.out.c1;have a0:=HX7.out.c0;have a1:=HX7.out.c1;have a2:=HX7.out.c2;have a3:=HX7.out.c3;have a4:=HX7.out.c4;have a5:=HX7.out.c5;have f0:=HX7.out.fr 0;have f1:=HX7.out.fr 1;have f2:=HX7.out.fr 2;have f3:=HX7.out.fr 3;have f4:=HX7.out.fr 4;have f5:=HX7.out.fr 5;have k0:=HF7.out.c0;have k1:=HF7.out.c1;have j0:=HF7.out.fr 0;have j1:=HF7.out.fr 1;go_wp2_with fail
   go_region
   go_wp2_with fail
   obtain ⟨W9,hW9⟩:∃W,W=res2 W7 g1 g2 ev0 (wrC u) u.at_:=⟨_,rfl⟩
   have HS:XpB W9 g1 ev0:=by rw [hW9];exact res2_x HX7.out hg12 ev0 (wrC u) u.at_
   have HS':FtB W9 g2 (.int .i64 (wrC u)) (.int .i64 u.at_):=by rw [hW9];exact res2_f HF7.out hg12 ev0 (wrC u) u.at_
   have HP:Mv b w W9:=by rw [hW9];exact res2_mv HM7.out hg1w hg2w ev0 (wrC u) u.at_
   have HQ:PP W9 w.heap.size b n c d A xs ev0 ((PR.ok x (u::r')).andThen shutP):=by
    rw [hW9];rw [HIN.out];exact ⟨wrC_ne _,q3,HQ3.out,res2_ps HP7.out (Ne.symm hg1b) (Ne.symm hg2b) _ _ _⟩
   unfold res2 two six at hW9;dsimp only [ev0] at hW9;rw [<-hW9];clear hW9;refine bodyPost_ret (XpB.res2 (w:=W9.drew) (v:=ev0) rfl _ rfl rfl HS HS') rfl ?_;exact ⟨ev0,by rw [HIN.out];rfl,HQ.below (b_ _ W9).drew,HP.drew⟩
  |true =>
   have HIN:Hid (((PR.ok x (u::r')).andThen shutP)=.ok x r'):=by
    show shutP x (u::r')=_;rw [shutP_cons,if_pos hs]
   have HC:=h_ (needSign_yes W4 b n c q3 d A xs u ⟨#[41]⟩ hp3 (HAW.out W4 HM4.out) hu hq9 hs);have he4:=hen.tail (sg_kind hs)
   have hq4:q3+1<n:=by
    obtain ⟨u4,r4,rfl⟩:=ends_cons he4;have:=(drop_get hdu).2.1;rw [HLN.out.1] at this;omega
   have HE4:=h_ (And.intro he4 (And.intro hq4 hdu));clear hp3 hgv hen hdr hu hqu hdu he4 hq4 hs;go_wp2_with fail;refine HC.out.mono ?_;rintro e w6 ⟨rfl,hp,hm⟩;unfold ftV;have HX6:=h_ (HX4.out.mv hm hg1b);have HF6:=h_ (HF4.out.mv hm hg2b);have HG6:=h_ (HC4.out.mv hm hg4b);have HV6:=h_ (HV4.out.mv hm hg3b);have HM6:=h_ (HM4.out.trans hm);have HP6:=h_ hp;have HGV6:=h_ (HGV.out.mvh hm (.inl hbw0) hg3s)
   have hg3s6:g3<=w6.heap.size:=by have:=HV6.out.lt;omega
   clear hp hm HC HX4 HF4 HC4 HM4 HP4 y0 y1 f0 f1 HGV HV4 HPP4;have y0:=HG6.out.c0;have y1:=HG6.out.c1;have v0:=HG6.out.fr 0;have v1:=HG6.out.fr 1;have HG7:=h_ (HG6.out.two 0 0);have HM7:=h_ (two_put HM6.out hg4w 0 0);have HP7:=h_ (HP6.out.mv (two_mv _ g4 0 0) (Ne.symm hg4b));have HX7:=h_ (HX6.out.mv (two_mv _ g4 0 0) (Ne.symm hg41));have HF7:=h_ (HF6.out.mv (two_mv _ g4 0 0) (Ne.symm hg42));have HV7:=h_ (HV6.out.mv (two_mv _ g4 0 0) (hg34));have HGV7:Hid (GW (two w6 g4 0 0) W0.heap.size g3 x.gx v):=HGV6.out.mvh (two_mv _ g4 0 0) (.inr (by omega)) hg3s6;go_upto_region 4 with fail
   obtain ⟨W7,hW7⟩:∃W,W=two w6 g4 0 0:=⟨_,rfl⟩
   rw [<-hW7] at HG7 HM7 HP7 HX7 HF7 HV7 HGV7;unfold two at hW7;rw [<-hW7];clear hW7 HX6 HF6 HG6 HM6 HP6 HV6 HGV6 y0 y1 v0 v1;have y0:=HG7.out.c0;have y1:=HG7.out.c1;have a0:=HX7.out.c0;have a1:=HX7.out.c1;have a2:=HX7.out.c2;have a3:=HX7.out.c3;have a4:=HX7.out.c4;have a5:=HX7.out.c5;have f0:=HX7.out.fr 0;have f1:=HX7.out.fr 1;have f2:=HX7.out.fr 2;have f3:=HX7.out.fr 3;have f4:=HX7.out.fr 4;have f5:=HX7.out.fr 5;have k0:=HF7.out.c0;have k1:=HF7.out.c1;have j0:=HF7.out.fr 0;have j1:=HF7.out.fr 1;have b0:=HV7.out.c0;have b1:=HV7.out.c1;have b2:=HV7.out.c2;have b3:=HV7.out.c3;have b4:=HV7.out.c4;have b5:=HV7.out.c5;go_wp2_with fail
   obtain ⟨W9,hW9⟩:∃W,W=res2 W7 g1 g2 v 0 0:=⟨_,rfl⟩
   have HS:XpB W9 g1 v:=by rw [hW9];exact res2_x HX7.out hg12 v 0 0
   have HS':FtB W9 g2 (.int .i64 0) (.int .i64 0):=by rw [hW9];exact res2_f HF7.out hg12 v 0 0
   have HP:Mv b w W9:=by rw [hW9];exact res2_mv HM7.out hg1w hg2w v 0 0
   have HQ:PP W9 w.heap.size b n c d A xs v ((PR.ok x (u::r')).andThen shutP):=by
    rw [hW9];rw [HIN.out];exact ⟨res2_gv (HGV7.out.mono (n_ _) (Nat.le_of_lt HV7.out.lt)) hg10 hg20 hww0 _ _ _,HE4.out.1,q3+1,HE4.out.2.1,HE4.out.2.2,res2_ps HP7.out (Ne.symm hg1b) (Ne.symm hg2b) _ _ _⟩
   unfold res2 two six at hW9;rw [<-hW9];clear hW9;refine bodyPost_ret (XpB.res2 (w:=W9) (v:=v) rfl _ rfl rfl HS HS') rfl ?_;exact ⟨v,by rw [HIN.out];rfl,HQ,HP⟩
theorem kinds_one {t:Tk} {s:List UInt8} (h:isSg t s=true):t.kind=4/\t.text=s:=by simpa [isSg] using h
theorem pone1_any (m:Nat) (IH1:POne m) (IH0:PExp m):POne (m+1):=by
 intro w b n c q d A xs r hm h;obtain ⟨t,r,rfl⟩:=ends_cons h.en
 have hm':r.length<=m:=by simp only [List.length_cons] at hm;omega
 obtain ⟨ht,hqn,hdr⟩:=drop_get h.dr;rw [h.tk.1] at hqn;have hn9:=h.n9;obtain ⟨W0,g1,g2,hW0,hg1,hg2,HX,HF,HB0,hg1w,hg2w,hg12,hg10,hg20⟩:=ret_cells w;have hbw:=h.ps.lt
 have hg1b:g1≠b:=by omega
 have hg2b:g2≠b:=by omega
 have HN:=h_ (now_any W0 b n c q d A xs t (h.ps.below HB0.out) (h.tk.below HB0.out) ht);have HI:=h_ (λ (W:World)=>isInt_any W t (h.lx t (List.mem_of_getElem? ht)));have HBW:=h_ (λ (W:World) (hb:Below w.heap.size w W) (k:Int) (S:ByteArray)=>begins_with W b n c q d A xs t k S (h.ps.below hb) (h.tk.below hb) ht);have HSG:=h_ (λ (W:World) (hb:Below w.heap.size w W)=>h.vs.sg.below hb);have HH:=h_ (λ (W:World) (hb:Below w.heap.size w W)=>h.below hb);have HEN:=h_ (λ (hk:t.kind≠5)=>h.en.tail hk);have HT:=h_ (And.intro ht (And.intro hqn (And.intro hdr (h.lx t (List.mem_of_getElem? ht)))));have HM':=h_ hm'
 obtain ⟨V,hV⟩:∃V,tkV t=V:=⟨_,rfl⟩
 rw [hV] at HN HI;clear h hm hm' ht hdr hV;unfold PRet;go_enter Tryz.func256,Tryz.ntmps256;go_upto_region 1 with fail;rw [<-hW0,<-hg2,<-hg1];clear hW0 hg1 hg2;go_wp2_with fail;refine HN.out.mono ?_;rintro e w1 ⟨rfl,hb⟩;have HX1:=h_ (HX.out.below hb);have HF1:=h_ (HF.out.below hb);have HB1:=h_ (HB0.out.trans (hb.mono HB0.out.size));have hs1:=hb.size;have HC:=h_ (HI.out w1);clear hb HN HX HF HB0 HI;go_wp2_with fail;refine HC.out.mono ?_;rintro e w2 ⟨rfl,hb⟩;have HX2:=h_ (HX1.out.below hb);have HF2:=h_ (HF1.out.below hb);have HB2:=h_ (HB1.out.trans (hb.mono HB1.out.size));have hs2:=hb.size;clear hb HC HX1 HF1 HB1
 obtain ⟨k3,hk3⟩:∃k3,(t.kind==3)=k3:=⟨_,rfl⟩
 rw [hk3]
 cases k3 with
 |true =>
  have e3:t.kind=3:=eq_of_beq hk3
  have HEQ:Hid (Po d (t::r)=.ok (.int t.num t.at_) r):=by
   show _=_;rw [Po_cons,if_neg (by simp [isSg,e3]),if_neg (by simp [isSg,e3]),if_pos e3]
  have HE:=h_ (HEN.out (by rw [e3];decide))
  have hq1:q+1<n:=by
   obtain ⟨u,r',rfl⟩:=ends_cons HE.out;have h1:=(drop_get HT.out.2.2.1).2.1;have h2:=(HH.out w2 HB2.out).tk.1;omega
  have HC:=h_ (pint_any w2 b n c q d A xs t (HH.out w2 HB2.out).ps (HH.out w2 HB2.out).tk HT.out.1 (by omega));clear hk3 e3;go_wp2_with fail;refine HC.out.mono ?_;rintro e w5 ⟨rfl,hp,hm⟩;have hvv:EV.val ⟨1,t.num,⟨#[]⟩,0,none,0,0,t.at_⟩=.agg #[.int .i64 1,.int .i64 t.num,.string ⟨#[]⟩,.int .i64 0,.slice none 0 0,.int .i64 t.at_]:=rfl;rw [hvv];have HX5:=h_ (HX2.out.mv hm hg1b);have HF5:=h_ (HF2.out.mv hm hg2b);have HM5:=h_ ((Mv.of b HB2.out).trans hm);have HP5:=h_ hp;clear hp hm hvv HC;have a0:=HX5.out.c0;have a1:=HX5.out.c1;have a2:=HX5.out.c2;have a3:=HX5.out.c3;have a4:=HX5.out.c4;have a5:=HX5.out.c5;have f0:=HX5.out.fr 0;have f1:=HX5.out.fr 1;have f2:=HX5.out.fr 2;have f3:=HX5.out.fr 3;have f4:=HX5.out.fr 4;have f5:=HX5.out.fr 5;have k0:=HF5.out.c0;have k1:=HF5.out.c1;have j0:=HF5.out.fr 0;have j1:=HF5.out.fr 1;go_wp2_with fail
  obtain ⟨W9,hW9⟩:∃W,W=res2 w5 g1 g2 ⟨1,t.num,⟨#[]⟩,0,none,0,0,t.at_⟩ 0 0:=⟨_,rfl⟩
  have HS:XpB W9 g1 ⟨1,t.num,⟨#[]⟩,0,none,0,0,t.at_⟩:=by rw [hW9];exact res2_x HX5.out hg12 ⟨1,t.num,⟨#[]⟩,0,none,0,0,t.at_⟩ 0 0
  have HS':FtB W9 g2 (.int .i64 0) (.int .i64 0):=by rw [hW9];exact res2_f HF5.out hg12 ⟨1,t.num,⟨#[]⟩,0,none,0,0,t.at_⟩ 0 0
  have HP:Mv b w W9:=by rw [hW9];exact res2_mv HM5.out hg1w hg2w ⟨1,t.num,⟨#[]⟩,0,none,0,0,t.at_⟩ 0 0
  have HQ:PP W9 w.heap.size b n c d A xs ⟨1,t.num,⟨#[]⟩,0,none,0,0,t.at_⟩ (Po d (t::r)):=by
   rw [hW9];rw [HEQ.out];exact PP.leaf HP5.out (Ne.symm hg1b) (Ne.symm hg2b) HE.out hq1 HT.out.2.2.1 _ _ _ _ (λ w lo hi=>GW.leaf w lo hi 1 t.num 0 t.at_ ⟨#[]⟩)
  unfold res2 two six at hW9;dsimp only [ev0] at hW9;rw [<-hW9];clear hW9;refine bodyPost_ret (XpB.res2 (w:=W9) (v:=⟨1,t.num,⟨#[]⟩,0,none,0,0,t.at_⟩) rfl _ rfl rfl HS HS') rfl ?_;exact ⟨⟨1,t.num,⟨#[]⟩,0,none,0,0,t.at_⟩,by rw [HEQ.out];rfl,HQ,HP⟩
 |false =>
  have e3:¬t.kind=3:=beq_eq_false_iff_ne.1 hk3;have HE3:=h_ e3;clear hk3 e3;have HC:=h_ (HBW.out w2 HB2.out 2 ⟨#[105,110]⟩);go_wp2_with fail;refine HC.out.mono ?_;rintro e w3 ⟨rfl,hb⟩;have HX3:=h_ (HX2.out.below hb);have HF3:=h_ (HF2.out.below hb);have HB3:=h_ (HB2.out.trans (hb.mono HB2.out.size));have hs3:=hb.size;clear hb HC HX2 HF2 HB2
  obtain ⟨ki,hki⟩:∃ki,(decide (t.kind=2)&&decide (t.text=[105,110]))=ki:=⟨_,rfl⟩
  dsimp only;rw [hki]
  cases ki with
  |true =>
   have ei:t.kind=2/\t.text=[105,110]:=by simpa using hki
   have HEQ:Hid (Po d (t::r)=innP t.at_ r):=by
    show _=_;rw [Po_cons,if_neg (by simp [isSg,ei.1]),if_neg (by simp [isSg,ei.1]),if_neg HE3.out,if_neg (by rw [ei.1];decide),if_pos ei]
   have HC:=h_ (pin_any w3 b n c q d A xs r t (HH.out w3 HB3.out).ps (HH.out w3 HB3.out).tk (HH.out w3 HB3.out).ab (HH.out w3 HB3.out).dr (HEN.out (by rw [ei.1];decide)) hn9 (HH.out w3 HB3.out).lx (HH.out w3 HB3.out).vs);clear ei hki;go_wp2_with fail;refine HC.out.mono ?_;rintro e w5 ⟨v,rfl,hpp,hm⟩;have hvv:v.val=.agg #[.int .i64 v.kind,.int .i64 v.num,.string v.name,.int .i64 v.op,.slice v.A v.len v.cap,.int .i64 v.p]:=rfl;rw [hvv];unfold ftP ftV
   obtain ⟨E,hE⟩:∃E,E=innP t.at_ r:=⟨_,rfl⟩
   rw [<-hE] at hpp ⊢
   obtain ⟨cc,hcc⟩:∃cc,E.code=cc:=⟨_,rfl⟩
   obtain ⟨pp,hpt⟩:∃pp,E.pt=pp:=⟨_,rfl⟩
   rw [hcc,hpt]
   have HR:Hid (ftP E=ftV cc pp):=by show _=_;unfold ftP;rw [hcc,hpt]
   have HX5:=h_ (HX3.out.mv hm hg1b);have HF5:=h_ (HF3.out.mv hm hg2b);have HM5:=h_ ((Mv.of b HB3.out).trans hm);have HPP:=h_ hpp
   have HREQ:Hid (Po d (t::r)=E):=by show _=_;rw [hE];exact HEQ.out
   clear hm hpp hvv hcc hpt hE;have a0:=HX5.out.c0;have a1:=HX5.out.c1;have a2:=HX5.out.c2;have a3:=HX5.out.c3;have a4:=HX5.out.c4;have a5:=HX5.out.c5;have f0:=HX5.out.fr 0;have f1:=HX5.out.fr 1;have f2:=HX5.out.fr 2;have f3:=HX5.out.fr 3;have f4:=HX5.out.fr 4;have f5:=HX5.out.fr 5;have k0:=HF5.out.c0;have k1:=HF5.out.c1;have j0:=HF5.out.fr 0;have j1:=HF5.out.fr 1;go_wp2_with fail
   obtain ⟨W9,hW9⟩:∃W,W=res2 w5 g1 g2 v cc pp:=⟨_,rfl⟩
   have HS:XpB W9 g1 v:=by rw [hW9];exact res2_x HX5.out hg12 v cc pp
   have HS':FtB W9 g2 (.int .i64 cc) (.int .i64 pp):=by rw [hW9];exact res2_f HF5.out hg12 v cc pp
   have HP:Mv b w W9:=by rw [hW9];exact res2_mv HM5.out hg1w hg2w v cc pp
   have HQ:PP W9 w.heap.size b n c d A xs v (Po d (t::r)):=by
    rw [hW9];rw [HREQ.out];exact res2_pp HPP.out (by omega) (by omega) (by omega) (Ne.symm hg1b) (Ne.symm hg2b) _ _ _
   unfold res2 two six at hW9;rw [<-hW9];clear hW9;refine bodyPost_ret (XpB.res2 (w:=W9) (v:=v) rfl _ rfl rfl HS HS') rfl ?_;exact ⟨v,by rw [HREQ.out,HR.out];rfl,HQ,HP⟩
  |false =>
   have HEI:Hid (¬(t.kind=2/\t.text=[105,110])):=by
    rintro ⟨h1,h2⟩;rw [h1,h2] at hki;simp at hki
   clear hki;have HC:=h_ (HBW.out w3 HB3.out 4 ⟨#[40]⟩);rw [isSg_dec] at HC;go_wp2_with fail;refine HC.out.mono ?_;rintro e w4 ⟨rfl,hb⟩;have HX4:=h_ (HX3.out.below hb);have HF4:=h_ (HF3.out.below hb);have HB4:=h_ (HB3.out.trans (hb.mono HB3.out.size));have hs4:=hb.size;clear hb HC HX3 HF3 HB3
   obtain ⟨ko,hko⟩:∃ko,isSg t [40]=ko:=⟨_,rfl⟩
   dsimp only;rw [hko]
   cases ko with
   |true =>
    have eo:=kinds_one hko
    have HEQ:Hid (Po d (t::r)=(nR d t (Pf 0 (d+1) r)).andThen shutP):=by
     show _=_;rw [Po_cons,if_neg (by simp [isSg,eo.2]),if_pos hko];unfold nR
     split <;> rfl
    have HC:=h_ (enclosed_any IH0 w4 b n c q d A xs r t (HH.out w4 HB4.out) (HEN.out (by rw [eo.1];decide)) HM'.out);unfold PRet at HC;clear eo hko;go_wp2_with fail;refine HC.out.mono ?_;rintro e w5 ⟨v,rfl,hpp,hm⟩;have hvv:v.val=.agg #[.int .i64 v.kind,.int .i64 v.num,.string v.name,.int .i64 v.op,.slice v.A v.len v.cap,.int .i64 v.p]:=rfl;rw [hvv];unfold ftP ftV
    obtain ⟨E,hE⟩:∃E,E=(nR d t (Pf 0 (d+1) r)).andThen shutP:=⟨_,rfl⟩
    rw [<-hE] at hpp ⊢
    obtain ⟨cc,hcc⟩:∃cc,E.code=cc:=⟨_,rfl⟩
    obtain ⟨pp,hpt⟩:∃pp,E.pt=pp:=⟨_,rfl⟩
    rw [hcc,hpt]
    have HR:Hid (ftP E=ftV cc pp):=by show _=_;unfold ftP;rw [hcc,hpt]
    have HX5:=h_ (HX4.out.mv hm hg1b);have HF5:=h_ (HF4.out.mv hm hg2b);have HM5:=h_ ((Mv.of b HB4.out).trans hm);have HPP:=h_ hpp
    have HREQ:Hid (Po d (t::r)=E):=by show _=_;rw [hE];exact HEQ.out
    clear hm hpp hvv hcc hpt hE;have a0:=HX5.out.c0;have a1:=HX5.out.c1;have a2:=HX5.out.c2;have a3:=HX5.out.c3;have a4:=HX5.out.c4;have a5:=HX5.out.c5;have f0:=HX5.out.fr 0;have f1:=HX5.out.fr 1;have f2:=HX5.out.fr 2;have f3:=HX5.out.fr 3;have f4:=HX5.out.fr 4;have f5:=HX5.out.fr 5;have k0:=HF5.out.c0;have k1:=HF5.out.c1;have j0:=HF5.out.fr 0;have j1:=HF5.out.fr 1;go_wp2_with fail
    obtain ⟨W9,hW9⟩:∃W,W=res2 w5 g1 g2 v cc pp:=⟨_,rfl⟩
    have HS:XpB W9 g1 v:=by rw [hW9];exact res2_x HX5.out hg12 v cc pp
    have HS':FtB W9 g2 (.int .i64 cc) (.int .i64 pp):=by rw [hW9];exact res2_f HF5.out hg12 v cc pp
    have HP:Mv b w W9:=by rw [hW9];exact res2_mv HM5.out hg1w hg2w v cc pp
    have HQ:PP W9 w.heap.size b n c d A xs v (Po d (t::r)):=by
     rw [hW9];rw [HREQ.out];exact res2_pp HPP.out (by omega) (by omega) (by omega) (Ne.symm hg1b) (Ne.symm hg2b) _ _ _
    unfold res2 two six at hW9;rw [<-hW9];clear hW9;refine bodyPost_ret (XpB.res2 (w:=W9) (v:=v) rfl _ rfl rfl HS HS') rfl ?_;exact ⟨v,by rw [HREQ.out,HR.out];rfl,HQ,HP⟩
   |false =>
    have HEO:=h_ hko;clear hko;have HS:=h_ (λ m'=>HBW.out (w4.drewN m') (HB4.out.trans ((drewN_below w4 m').mono HB4.out.size)) 4 ⟨#[45]⟩);rw [isSg_dec] at HS;have u14:w4.cell? ⟨1,14,none⟩=some (.string ⟨#[45]⟩):=(HSG.out w4 HB4.out).cell (k:=14) (x:=[45]) rfl
    obtain ⟨kn,hkn⟩:∃kn,isSg t [45]=kn:=⟨_,rfl⟩
    dsimp only at HS;rw [hkn] at HS;go_wp2_with fail
    go_region_with (go_at_call 265;refine (HS.out _).mono ?_;rintro e w5 ⟨rfl,hb5⟩)
    have hb:=(drewN_below w4 _).trans hb5;have HX5:=h_ (HX4.out.below hb);have HF5:=h_ (HF4.out.below hb);have HB5:=h_ (HB4.out.trans (hb.mono HB4.out.size));have hs5:=hb.size;clear hb hb5 HS HX4 HF4 HB4 u14
    cases kn with
    |true =>
     have en:=kinds_one hkn
     have HEQ:Hid (Po d (t::r)=(nR d t (Po (d+1) r)).andThen λ x r'=>.ok (.one 14 x t.at_) r'):=by
      show _=_
      have e33:isSg t [33]=false:=by simp [isSg,en.2]
      rw [Po_cons,if_pos (.inl hkn),e33];unfold nR
      by_cases hd:d=20
      ·rw [if_pos hd,if_pos hd];rfl
      ·rw [if_neg hd,if_neg hd];rfl
     have HC:=h_ (unary_any IH1 w5 b n c q d A xs r t 14 (HH.out w5 HB5.out) (HEN.out (by rw [en.1];decide)) HM'.out);unfold PRet at HC;clear en hkn;go_wp2_with fail;refine HC.out.mono ?_;rintro e w6 ⟨v,rfl,hpp,hm⟩;have hvv:v.val=.agg #[.int .i64 v.kind,.int .i64 v.num,.string v.name,.int .i64 v.op,.slice v.A v.len v.cap,.int .i64 v.p]:=rfl;rw [hvv];unfold ftP ftV
     obtain ⟨E,hE⟩:∃E,E=(nR d t (Po (d+1) r)).andThen λ x r'=>.ok (.one 14 x t.at_) r':=⟨_,rfl⟩
     rw [<-hE] at hpp ⊢
     obtain ⟨cc,hcc⟩:∃cc,E.code=cc:=⟨_,rfl⟩
     obtain ⟨pp,hpt⟩:∃pp,E.pt=pp:=⟨_,rfl⟩
     rw [hcc,hpt]
     have HR:Hid (ftP E=ftV cc pp):=by show _=_;unfold ftP;rw [hcc,hpt]
     have HX6:=h_ (HX5.out.mv hm hg1b);have HF6:=h_ (HF5.out.mv hm hg2b);have HM6:=h_ ((Mv.of b HB5.out).trans hm);have HPP:=h_ hpp
     have HREQ:Hid (Po d (t::r)=E):=by show _=_;rw [hE];exact HEQ.out
     clear hm hpp hvv hcc hpt hE;have a0:=HX6.out.c0;have a1:=HX6.out.c1;have a2:=HX6.out.c2;have a3:=HX6.out.c3;have a4:=HX6.out.c4;have a5:=HX6.out.c5;have f0:=HX6.out.fr 0;have f1:=HX6.out.fr 1;have f2:=HX6.out.fr 2;have f3:=HX6.out.fr 3;have f4:=HX6.out.fr 4;have f5:=HX6.out.fr 5;have k0:=HF6.out.c0;have k1:=HF6.out.c1;have j0:=HF6.out.fr 0;have j1:=HF6.out.fr 1;go_wp2_with fail
     obtain ⟨W9,hW9⟩:∃W,W=res2 w6 g1 g2 v cc pp:=⟨_,rfl⟩
     have HS:XpB W9 g1 v:=by rw [hW9];exact res2_x HX6.out hg12 v cc pp
     have HS':FtB W9 g2 (.int .i64 cc) (.int .i64 pp):=by rw [hW9];exact res2_f HF6.out hg12 v cc pp
     have HP:Mv b w W9:=by rw [hW9];exact res2_mv HM6.out hg1w hg2w v cc pp
     have HQ:PP W9 w.heap.size b n c d A xs v (Po d (t::r)):=by
      rw [hW9];rw [HREQ.out];exact res2_pp HPP.out (by omega) (by omega) (by omega) (Ne.symm hg1b) (Ne.symm hg2b) _ _ _
     unfold res2 two six at hW9;rw [<-hW9];clear hW9;refine bodyPost_ret (XpB.res2 (w:=W9) (v:=v) rfl _ rfl rfl HS HS') rfl ?_;exact ⟨v,by rw [HREQ.out,HR.out];rfl,HQ,HP⟩
    |false =>
     have HEN1:=h_ hkn;clear hkn;have HS:=h_ (λ m'=>HBW.out (w5.drewN m') (HB5.out.trans ((drewN_below w5 m').mono HB5.out.size)) 4 ⟨#[33]⟩);rw [isSg_dec] at HS;have u15:w5.cell? ⟨1,15,none⟩=some (.string ⟨#[33]⟩):=(HSG.out w5 HB5.out).cell (k:=15) (x:=[33]) rfl
     obtain ⟨kn,hkn⟩:∃kn,isSg t [33]=kn:=⟨_,rfl⟩
     dsimp only at HS;rw [hkn] at HS;go_wp2_with fail
     go_region_with (go_at_call 265;refine (HS.out _).mono ?_;rintro e w6 ⟨rfl,hb6⟩)
     have hb:=(drewN_below w5 _).trans hb6;have HX6:=h_ (HX5.out.below hb);have HF6:=h_ (HF5.out.below hb);have HB6:=h_ (HB5.out.trans (hb.mono HB5.out.size));have hs6:=hb.size;clear hb hb6 HS HX5 HF5 HB5 u15
     cases kn with
     |true =>
      have en:=kinds_one hkn
      have HEQ:Hid (Po d (t::r)=(nR d t (Po (d+1) r)).andThen λ x r'=>.ok (.one 15 x t.at_) r'):=by
       show _=_;rw [Po_cons,if_pos (.inr hkn),if_pos hkn];unfold nR
       split <;> rfl
      have HC:=h_ (unary_any IH1 w6 b n c q d A xs r t 15 (HH.out w6 HB6.out) (HEN.out (by rw [en.1];decide)) HM'.out);unfold PRet at HC;clear en hkn;go_wp2_with fail;refine HC.out.mono ?_;rintro e w5 ⟨v,rfl,hpp,hm⟩;have hvv:v.val=.agg #[.int .i64 v.kind,.int .i64 v.num,.string v.name,.int .i64 v.op,.slice v.A v.len v.cap,.int .i64 v.p]:=rfl;rw [hvv];unfold ftP ftV
      obtain ⟨E,hE⟩:∃E,E=(nR d t (Po (d+1) r)).andThen λ x r'=>.ok (.one 15 x t.at_) r':=⟨_,rfl⟩
      rw [<-hE] at hpp ⊢
      obtain ⟨cc,hcc⟩:∃cc,E.code=cc:=⟨_,rfl⟩
      obtain ⟨pp,hpt⟩:∃pp,E.pt=pp:=⟨_,rfl⟩
      rw [hcc,hpt]
      have HR:Hid (ftP E=ftV cc pp):=by show _=_;unfold ftP;rw [hcc,hpt]
      have HX5:=h_ (HX6.out.mv hm hg1b);have HF5:=h_ (HF6.out.mv hm hg2b);have HM5:=h_ ((Mv.of b HB6.out).trans hm);have HPP:=h_ hpp
      have HREQ:Hid (Po d (t::r)=E):=by show _=_;rw [hE];exact HEQ.out
      clear hm hpp hvv hcc hpt hE;have a0:=HX5.out.c0;have a1:=HX5.out.c1;have a2:=HX5.out.c2;have a3:=HX5.out.c3;have a4:=HX5.out.c4;have a5:=HX5.out.c5;have f0:=HX5.out.fr 0;have f1:=HX5.out.fr 1;have f2:=HX5.out.fr 2;have f3:=HX5.out.fr 3;have f4:=HX5.out.fr 4;have f5:=HX5.out.fr 5;have k0:=HF5.out.c0;have k1:=HF5.out.c1;have j0:=HF5.out.fr 0;have j1:=HF5.out.fr 1;go_wp2_with fail
      obtain ⟨W9,hW9⟩:∃W,W=res2 w5 g1 g2 v cc pp:=⟨_,rfl⟩
      have HS:XpB W9 g1 v:=by rw [hW9];exact res2_x HX5.out hg12 v cc pp
      have HS':FtB W9 g2 (.int .i64 cc) (.int .i64 pp):=by rw [hW9];exact res2_f HF5.out hg12 v cc pp
      have HP:Mv b w W9:=by rw [hW9];exact res2_mv HM5.out hg1w hg2w v cc pp
      have HQ:PP W9 w.heap.size b n c d A xs v (Po d (t::r)):=by
       rw [hW9];rw [HREQ.out];exact res2_pp HPP.out (by omega) (by omega) (by omega) (Ne.symm hg1b) (Ne.symm hg2b) _ _ _
      unfold res2 two six at hW9;rw [<-hW9];clear hW9;refine bodyPost_ret (XpB.res2 (w:=W9) (v:=v) rfl _ rfl rfl HS HS') rfl ?_;exact ⟨v,by rw [HREQ.out,HR.out];rfl,HQ,HP⟩
     |false =>
      have HEN2:=h_ hkn;clear hkn
      by_cases hk1:t.kind=1
      ·have HEQ:Hid (Po d (t::r)=.ok (.var t.text t.at_) r):=by
        show _=_;rw [Po_cons,if_neg (by rw [HEN1.out,HEN2.out];decide),if_neg (by rw [HEO.out];decide),if_neg HE3.out,if_pos hk1]
       have HC:=h_ (variable_yes w6 b n c q d A xs r t (HH.out w6 HB6.out).ps (HH.out w6 HB6.out).tk (HH.out w6 HB6.out).dr (HEN.out (by rw [hk1];decide)) hn9 HT.out.2.2.2 (HH.out w6 HB6.out).vs.kw hk1);have e0:ftV 0 0=ftP (PR.ok (.var t.text t.at_) r):=rfl;rw [e0] at HC;clear hk1 e0;go_wp2_with fail;refine HC.out.mono ?_;rintro e w5 ⟨v,rfl,hpp,hm⟩;have hvv:v.val=.agg #[.int .i64 v.kind,.int .i64 v.num,.string v.name,.int .i64 v.op,.slice v.A v.len v.cap,.int .i64 v.p]:=rfl;rw [hvv];unfold ftP ftV
       obtain ⟨E,hE⟩:∃E,E=PR.ok (.var t.text t.at_) r:=⟨_,rfl⟩
       rw [<-hE] at hpp ⊢
       obtain ⟨cc,hcc⟩:∃cc,E.code=cc:=⟨_,rfl⟩
       obtain ⟨pp,hpt⟩:∃pp,E.pt=pp:=⟨_,rfl⟩
       rw [hcc,hpt]
       have HR:Hid (ftP E=ftV cc pp):=by show _=_;unfold ftP;rw [hcc,hpt]
       have HX5:=h_ (HX6.out.mv hm hg1b);have HF5:=h_ (HF6.out.mv hm hg2b);have HM5:=h_ ((Mv.of b HB6.out).trans hm);have HPP:=h_ hpp
       have HREQ:Hid (Po d (t::r)=E):=by show _=_;rw [hE];exact HEQ.out
       clear hm hpp hvv hcc hpt hE;have a0:=HX5.out.c0;have a1:=HX5.out.c1;have a2:=HX5.out.c2;have a3:=HX5.out.c3;have a4:=HX5.out.c4;have a5:=HX5.out.c5;have f0:=HX5.out.fr 0;have f1:=HX5.out.fr 1;have f2:=HX5.out.fr 2;have f3:=HX5.out.fr 3;have f4:=HX5.out.fr 4;have f5:=HX5.out.fr 5;have k0:=HF5.out.c0;have k1:=HF5.out.c1;have j0:=HF5.out.fr 0;have j1:=HF5.out.fr 1;go_wp2_with fail
       obtain ⟨W9,hW9⟩:∃W,W=res2 w5 g1 g2 v cc pp:=⟨_,rfl⟩
       have HS:XpB W9 g1 v:=by rw [hW9];exact res2_x HX5.out hg12 v cc pp
       have HS':FtB W9 g2 (.int .i64 cc) (.int .i64 pp):=by rw [hW9];exact res2_f HF5.out hg12 v cc pp
       have HP:Mv b w W9:=by rw [hW9];exact res2_mv HM5.out hg1w hg2w v cc pp
       have HQ:PP W9 w.heap.size b n c d A xs v (Po d (t::r)):=by
        rw [hW9];rw [HREQ.out];exact res2_pp HPP.out (by omega) (by omega) (by omega) (Ne.symm hg1b) (Ne.symm hg2b) _ _ _
       unfold res2 two six at hW9;rw [<-hW9];clear hW9;refine bodyPost_ret (XpB.res2 (w:=W9) (v:=v) rfl _ rfl rfl HS HS') rfl ?_;exact ⟨v,by rw [HREQ.out,HR.out];rfl,HQ,HP⟩
      ·have HEQ:Hid (Po d (t::r)=wrongAt t):=by
        show _=_;rw [Po_cons,if_neg (by rw [HEN1.out,HEN2.out];decide),if_neg (by rw [HEO.out];decide),if_neg HE3.out,if_neg hk1,if_neg HEI.out]
       have HC:=h_ (variable_no w6 b n c q d A xs r t (HH.out w6 HB6.out).ps (HH.out w6 HB6.out).tk (HH.out w6 HB6.out).dr HT.out.2.2.2 (HH.out w6 HB6.out).vs.kw hk1);clear hk1;go_wp2_with fail;refine HC.out.mono ?_;rintro e w5 ⟨v,rfl,hpp,hm⟩;have hvv:v.val=.agg #[.int .i64 v.kind,.int .i64 v.num,.string v.name,.int .i64 v.op,.slice v.A v.len v.cap,.int .i64 v.p]:=rfl;rw [hvv];unfold ftP ftV
       obtain ⟨E,hE⟩:∃E,E=wrongAt t:=⟨_,rfl⟩
       rw [<-hE] at hpp ⊢
       obtain ⟨cc,hcc⟩:∃cc,E.code=cc:=⟨_,rfl⟩
       obtain ⟨pp,hpt⟩:∃pp,E.pt=pp:=⟨_,rfl⟩
       rw [hcc,hpt]
       have HR:Hid (ftP E=ftV cc pp):=by show _=_;unfold ftP;rw [hcc,hpt]
       have HX5:=h_ (HX6.out.mv hm hg1b);have HF5:=h_ (HF6.out.mv hm hg2b);have HM5:=h_ ((Mv.of b HB6.out).trans hm);have HPP:=h_ hpp
       have HREQ:Hid (Po d (t::r)=E):=by show _=_;rw [hE];exact HEQ.out
       clear hm hpp hvv hcc hpt hE;have a0:=HX5.out.c0;have a1:=HX5.out.c1;have a2:=HX5.out.c2;have a3:=HX5.out.c3;have a4:=HX5.out.c4;have a5:=HX5.out.c5;have f0:=HX5.out.fr 0;have f1:=HX5.out.fr 1;have f2:=HX5.out.fr 2;have f3:=HX5.out.fr 3;have f4:=HX5.out.fr 4;have f5:=HX5.out.fr 5;have k0:=HF5.out.c0;have k1:=HF5.out.c1;have j0:=HF5.out.fr 0;have j1:=HF5.out.fr 1;go_wp2_with fail
       obtain ⟨W9,hW9⟩:∃W,W=res2 w5 g1 g2 v cc pp:=⟨_,rfl⟩
       have HS:XpB W9 g1 v:=by rw [hW9];exact res2_x HX5.out hg12 v cc pp
       have HS':FtB W9 g2 (.int .i64 cc) (.int .i64 pp):=by rw [hW9];exact res2_f HF5.out hg12 v cc pp
       have HP:Mv b w W9:=by rw [hW9];exact res2_mv HM5.out hg1w hg2w v cc pp
       have HQ:PP W9 w.heap.size b n c d A xs v (Po d (t::r)):=by
        rw [hW9];rw [HREQ.out];exact res2_pp HPP.out (by omega) (by omega) (by omega) (Ne.symm hg1b) (Ne.symm hg2b) _ _ _
       unfold res2 two six at hW9;rw [<-hW9];clear hW9;refine bodyPost_ret (XpB.res2 (w:=W9) (v:=v) rfl _ rfl rfl HS HS') rfl ?_;exact ⟨v,by rw [HREQ.out,HR.out];rfl,HQ,HP⟩
end Go.Proofs.YtpgeidpfhakgaaaGreatDoor
