import Derived.Test.YtocecpghoncmgaaGreatDoorQh
import Derived.Test.YtocecpghoncmgaaGreatDoorQPkB
import Derived.Test.YtocecpghoncmgaaGreatDoorQLkG
import Derived.Deep.RegionHeld3
import Derived.Test.YtocecpghoncmgaaGreatDoorQXA
import Derived.Test.YtocecpghoncmgaaGreatDoorQEA
import Derived.Test.YtocecpghoncmgaaGreatDoorQPkA
import Derived.Test.YtocecpghoncmgaaGreatDoorQLnP
import Derived.Shelf.Strings.Builder1
import Derived.Shelf.Strings.Builder2
import Derived.Shelf.Small.Strs
import Derived.Shelf.Strings.BuilderF
import Derived.Shelf.Strconv.Atoi
import Derived.Shelf.Strconv.Itoa0
import Derived.Shelf.Strconv.Itoa1
import Derived.Shelf.LaysM
import Derived.Shelf.Strconv.Itoa2
import Derived.Shelf.Strconv.Itoa3
import Derived.Shelf.Strconv.AtoiErrFast
import Derived.Shelf.Strconv.ParseIntEmpty
import Derived.Shelf.Strconv.AtoiFail
import Derived.Shelf.Strconv.Clone
import Derived.Shelf.Strconv.SyntaxError
import Derived.Shelf.LaysC
import Derived.Shelf.Strconv.ToError
import Derived.Shelf.Strconv.Lower
import Derived.Shelf.Strconv.ParseUint10
import Derived.Shelf.Strconv.ParseUint10Empty
import Derived.Shelf.Strconv.ParseUint10Any
import Derived.Shelf.Strconv.ParseInt10
import Derived.Shelf.Strconv.AtoiLong
import Derived.Shelf.Strconv.AtoiInnerAll
import Derived.Shelf.Strconv.RangeError
import Derived.Shelf.Strconv.ToErrorRange
import Derived.Shelf.Strconv.AtoiAll
import Derived.Shelf.Strconv.ErrVarAll
import Derived.Shelf.Strings.Search1
import Derived.Shelf.Strings.Prefix
import Derived.Shelf.Bits.Mul64
import Derived.Shelf.Strings.Repeat
import Derived.Test.YtocecpghoncmgaaGreatDoorProg
set_option maxHeartbeats 12800000
set_option maxRecDepth 20000
namespace Go.Proofs.YtocecpghoncmgaaGreatDoor
open Go.RowKit
def GM.len (m:GM):Prop:=m.acts.length<=1000000000000000
mutual
def GN.len:GN->Prop
 |.mk _ _ _ _ en le mo ks _=>en.length<=1000000000000000/\le.length<=1000000000000000/\mo.length<=1000000000000000/\ks.length<=1000000000000000/\(∀m∈mo,m.len)/\GN.lens ks
def GN.lens:List GN->Prop
 |[]=>True
 |x::l=>x.len/\GN.lens l
end
theorem GN.lens_iff:∀{l:List GN},GN.lens l ↔ ∀x∈l,x.len
 |[]=>by rw [GN.lens];simp
 |x::l=>by rw [GN.lens,GN.lens_iff];simp
def ifv (c:Bool) (v:Value):Value:=if c=true then v else undef
theorem ifv_true (v:Value):ifv true v=v:=rfl
theorem ifv_false (v:Value):ifv false v=undef:=rfl
theorem yif {P:Program} {ops:Array Oper} {S:World->Prop} {o:Oper} {a:Act} {v:Value} {c:Bool} (hw:Region.wanted o (yielded ops a.tmps)=c) (h:c=true->∀w,S w->(execOp a.eval o).run P w=.ok (.value v) w):YieldsIf P ops S o (ifv c v) a:=by
 cases c
 ·exact .inr ⟨hw,rfl⟩
 ·exact .inl ⟨hw,h rfl⟩
theorem callq {P:Program} {ops:Array Oper} {Q:Exit->Act->World->Prop} {S:World->Prop} {fuel:Nat} {listed:Array Bool} {a:Act} {w:World} {i:Nat} {o:Oper} {c q:Bool} (T0 T1:World->Prop)
  (ho:ops[i]?=some o) (hr:Region.ready .any ops listed=[i]) (hw:Region.wanted o (yielded ops a.tmps)=c) (h0:c=false->∀w,T0 w->T1 w)
  (hc:c=true->∀K:Act->World->Prop,(∀w',T1 w'->K (a.put o.dst (.bool q)) w')->Oper.wp P o a w K Q)
  (hS:∀w,T1 w->S w) (hT:T0 w)
  (h:∀w',T1 w'->S w'->wpAnyH P .any ops Q S fuel (listed.setIfInBounds i true) (a.put o.dst (ifv c (.bool q))) w') :
  wpAnyH P .any ops Q S (fuel+1) listed a w:=by
 refine wpAnyH_ready (rs:=[i]) hr (by simp) ?_;refine AllReadyH.cons (o:=o) ho (λ K hK=>?_) AllReadyH.nil;cases c
 ·rw [if_neg (by rw [hw];decide)];exact hK.out _ _ (hS _ (h0 rfl _ hT)) (λ s=>h _ (h0 rfl _ hT) s)
 ·rw [if_pos hw];exact hc rfl K (λ w' ht=>hK.out _ _ (hS _ ht) (λ s=>h _ ht s))
abbrev QB (w0 w:World) (b g1 L1:Nat) (V:List Value) (W:World) (t:Nat×Nat×Nat):Prop:=Hid (CB W g1 27 V/\KS w0 W b L1 t/\Mv b w W)
def bdS (lvl:Nat) (s:Nat×Nat×Nat) (ini:List UInt8) (en le:List GA) (mo:List GM) (ks:List GN):Bool×(Nat×Nat×Nat) :=
 if (hdS s ini en le mo).1=true then ndsS (lvl+1) (hdS s ini en le mo).2 ks else (false,(hdS s ini en le mo).2)
theorem bdS_rm {lvl:Nat} {s:Nat×Nat×Nat} {ini:List UInt8} {en le:List GA} {mo:List GM} {ks:List GN} (hs:Rm s) (h:(bdS lvl s ini en le mo ks).1=true):Rm (bdS lvl s ini en le mo ks).2:=by
 unfold bdS at h ⊢
 by_cases c:(hdS s ini en le mo).1=true
 ·rw [if_pos c] at h ⊢;exact ((ndsS_spec ks (lvl+1) _ ((hdS_spec s ini en le mo hs).1 c).1).1 h).1
 ·rw [if_neg c] at h;cases h
def KN (w0:World) (b lvl:Nat) (x:GN):Prop:=∀(w:World) (s:Nat×Nat×Nat) (xs:List Value),KS w0 w b lvl s->Rm s->DxsAt w0 (gNode x) xs->x.rng->x.len->lvl<=12 ->
 Calls Tryz.prog 83 #[.pointer (some ⟨b,0,none⟩),.agg xs.toArray] w λ e w'=>e=.returned (.bool (ndS lvl s x).1)/\(KS w0 w' b lvl (ndS lvl s x).2/\((ndS lvl s x).1=true->Rm (ndS lvl s x).2))/\Mv b w w'
theorem allM_of {w0:World} {b lvl:Nat} {l:List GM} {v:Value} (hb:w0.heap.size<=b) (hx:DxAt w0 (gMoves l) v) (hE:Ee w0) (hr:∀a∈l,a.rng) (hl:∀a∈l,a.len):Hid (allWM w0 b lvl mvS Rm l v):=by
 intro i a ha;obtain ⟨g,og,c,ys,hv,_,_,hg,hy,_,hyc⟩:=DxAt.elem gMove_len (by decide) (show DxAt w0 (.row _ 13 l.length (l.flatMap gMove)) v from hx) ha;obtain ⟨ev,A1,A2,c1,c2,rfl,h1,h2,h3⟩:=move_vals' hy;refine ⟨g,og,c,a.kind,a.wait,a.at_,⟨a.event.toArray⟩,a.guarded,ev,A1,A2,a.acts.length,a.targets.length,c1,c2,hv,hg,hyc 0 _ rfl,hyc 1 _ rfl,hyc 2 _ rfl,hyc 3 _ rfl,hyc 4 _ rfl,hyc 5 _ rfl,hyc 6 _ rfl,hyc 7 _ rfl,hyc 8 _ rfl,hyc 9 _ rfl,hyc 10 _ rfl,hyc 11 _ rfl,hyc 12 _ rfl,λ W s hs hk=>?_⟩;exact kmove_any w0 W b lvl s a ev ⟨a.event.toArray⟩ A1 A2 c1 c2 hE hk hb hs rfl h1 h2 h3 (hr a (List.mem_of_getElem? ha)) (hl a (List.mem_of_getElem? ha))
theorem allN_of {w0:World} {b lvl:Nat} {l:List GN} {v:Value} (hx:DxAt w0 (gKids l) v) (hr:∀a∈l,a.rng) (hl:∀a∈l,a.len) (hlv:lvl<=12) (ih:∀(i:Nat) (a:GN),l[i]?=some a->KN w0 b lvl a):Hid (allWN w0 b lvl (ndS lvl) Rm l v):=by
 intro i a ha;unfold gKids at hx;rw [gNodes_flat] at hx;obtain ⟨g,og,c,ys,hv,_,_,hg,hy,_,hyc⟩:=DxAt.elem gNode_len (by decide) hx ha;have hk:=ih i a ha;have hra:=hr a (List.mem_of_getElem? ha);have hla:=hl a (List.mem_of_getElem? ha);obtain ⟨ka,na,ia,da,ea,la,ma,sa,pa⟩:=a;obtain ⟨A1,A2,A3,A4,c1,c2,c3,c4,rfl,_⟩:=node_v hy;refine ⟨g,og,c,ka,pa,⟨na.toArray⟩,⟨ia.toArray⟩,⟨da.toArray⟩,A1,A2,A3,A4,ea.length,la.length,ma.length,sa.length,c1,c2,c3,c4,hv,hg,hyc 0 _ rfl,hyc 1 _ rfl,hyc 2 _ rfl,hyc 3 _ rfl,hyc 4 _ rfl,hyc 5 _ rfl,hyc 6 _ rfl,hyc 7 _ rfl,hyc 8 _ rfl,λ W s hs hks=>?_⟩;exact hk W s _ hks hs hy hra hla hlv
theorem kbody_any (w0 w:World) (b lvl:Nat) (s:Nat×Nat×Nat) (k p:Int) (nm ini dft:List UInt8) (en le:List GA) (mo:List GM) (ks:List GN) (xs:List Value) (hE:Ee w0) (h:KS w0 w b lvl s) (hb:w0.heap.size<=b) (hs:Rm s) (hx:DxsAt w0 (gNode (.mk k nm ini dft en le mo ks p)) xs) (hr:(GN.mk k nm ini dft en le mo ks p).rng) (hl:(GN.mk k nm ini dft en le mo ks p).len) (hlv:lvl+1<=12) (ih:∀(i:Nat) (a:GN),ks[i]?=some a->KN w0 b (lvl+1) a) :
  Calls Tryz.prog 139 #[.pointer (some ⟨b,0,none⟩),.agg xs.toArray] w λ e w'=>e=.returned (.bool (bdS lvl s ini en le mo ks).1)/\(KS w0 w' b lvl (bdS lvl s ini en le mo ks).2/\((bdS lvl s ini en le mo ks).1=true->Rm (bdS lvl s ini en le mo ks).2))/\Mv b w w':=by
 obtain ⟨A1,A2,A3,A4,Ac1,Ac2,Ac3,Ac4,rfl,a1,a2,a3,a4⟩:=node_v hx;rw [GN.rng] at hr;obtain ⟨_,hri,_,r1,r2,r3,r4⟩:=hr;rw [GN.len] at hl;obtain ⟨l1,l2,l3,l4,l5,l6⟩:=hl;have HSP:=h_ (λ h=>bdS_rm (lvl:=lvl) (ini:=ini) (en:=en) (le:=le) (mo:=mo) (ks:=ks) hs h)
 obtain ⟨N0,hN0⟩:∃N:ByteArray,(⟨nm.toArray⟩:ByteArray)=N:=⟨_,rfl⟩
 obtain ⟨I0,hI0⟩:∃N:ByteArray,(⟨ini.toArray⟩:ByteArray)=N:=⟨_,rfl⟩
 obtain ⟨D0,hD0⟩:∃N:ByteArray,(⟨dft.toArray⟩:ByteArray)=N:=⟨_,rfl⟩
 have eN:txV nm=.string N0:=by rw [<-hN0];rfl
 have eI:txV ini=.string I0:=by rw [<-hI0];rfl
 have eD:txV dft=.string D0:=by rw [<-hD0];rfl
 rw [eN,eI,eD]
 have hIL:I0.data.toList=ini:=by rw [<-hI0]
 have hIS:I0.size<=140737488351232:=by
  have h1:I0.data.toList.length<=140737488351232:=by rw [hIL];exact hri
  exact h1
 obtain ⟨L1,hL1⟩:∃L1,lvl+1=L1:=⟨_,rfl⟩
 have hc1:(lvl:Int)+1=(L1:Int):=by omega
 have hc2:(L1:Int)-1=(lvl:Int):=by omega
 obtain ⟨e0,he0⟩:∃q,I0.toList.isEmpty=q:=⟨_,rfl⟩
 obtain ⟨q0,hq0⟩:∃q,isNm ini=q:=⟨_,rfl⟩
 obtain ⟨⟨q1,s1⟩,hq1⟩:∃q,blkC s en=q:=⟨_,rfl⟩
 obtain ⟨⟨q2,s2⟩,hq2⟩:∃q,blkC s1 le=q:=⟨_,rfl⟩
 obtain ⟨q3,hq3⟩:∃q,decide (s2.2.1+mo.length<=200)=q:=⟨_,rfl⟩
 obtain ⟨s3,hs3⟩:∃q,(s2.1,s2.2.1+mo.length,s2.2.2)=q:=⟨_,rfl⟩
 obtain ⟨⟨q4,s4⟩,hq4⟩:∃q,foldS mvS s3 mo=q:=⟨_,rfl⟩
 obtain ⟨⟨q5,s5⟩,hq5⟩:∃q,foldS (ndS L1) s4 ks=q:=⟨_,rfl⟩
 have HR0:Hid (bdS lvl s ini en le mo ks=if (e0 || q0)=true then (if q1=true then (if q2=true then (if q3=true then (if q4=true then (q5,s5) else (false,s4)) else (false,s3)) else (false,s2)) else (false,s1)) else (false,s)):=by
  show _=_
  have e1:(ini.isEmpty || isNm ini)=(e0 || q0):=by rw [<-he0,<-hq0,Lib.toList_data,hIL]
  unfold bdS hdS;rw [e1,hq1];simp only;rw [hq2];simp only;rw [hs3,hq4]
  by_cases c0:(e0 || q0)=true
  ·rw [if_pos c0,if_pos c0];cases q1
   ·rfl
   ·cases q2
    ·rfl
    ·cases q3
     ·rw [if_neg (of_decide_eq_false hq3)];rfl
     ·rw [if_pos (of_decide_eq_true hq3)];cases q4
      ·rfl
      ·simp only [if_true];rw [ndsS_fold,hL1,hq5]
  ·rw [if_neg c0,if_neg c0];rfl
 obtain ⟨c0,hc0⟩:∃c,(e0 || q0)=c:=⟨_,rfl⟩
 obtain ⟨d1,hd1⟩:∃c,(c0&&q1)=c:=⟨_,rfl⟩
 obtain ⟨d2,hd2⟩:∃c,(d1&&q2)=c:=⟨_,rfl⟩
 obtain ⟨d3,hd3⟩:∃c,(d2&&q3)=c:=⟨_,rfl⟩
 obtain ⟨d4,hd4⟩:∃c,(d3&&q4)=c:=⟨_,rfl⟩
 obtain ⟨d5,hd5⟩:∃c,(d4&&q5)=c:=⟨_,rfl⟩
 obtain ⟨t1,ht1⟩:∃t,(if c0=true then s1 else s)=t:=⟨_,rfl⟩
 obtain ⟨t2,ht2⟩:∃t,(if d1=true then s2 else t1)=t:=⟨_,rfl⟩
 obtain ⟨t3,ht3⟩:∃t,(if d2=true then s3 else t2)=t:=⟨_,rfl⟩
 obtain ⟨t4,ht4⟩:∃t,(if d3=true then s4 else t3)=t:=⟨_,rfl⟩
 obtain ⟨t5,ht5⟩:∃t,(if d4=true then s5 else t4)=t:=⟨_,rfl⟩
 have HR:Hid (bdS lvl s ini en le mo ks=(d5,t5)):=by
  show _=_;rw [HR0.out,hc0,<-ht5,<-ht4,<-ht3,<-ht2,<-ht1,<-hd5,<-hd4,<-hd3,<-hd2,<-hd1]
  cases c0 <;> cases q1 <;> cases q2 <;> cases q3 <;> cases q4 <;> rfl
 have e1:d1=true->c0=true/\q1=true:=λ h=>by rw [<-hd1] at h;simpa using h
 have e2:d2=true->d1=true/\q2=true:=λ h=>by rw [<-hd2] at h;simpa using h
 have e3:d3=true->d2=true/\q3=true:=λ h=>by rw [<-hd3] at h;simpa using h
 have e4:d4=true->d3=true/\q4=true:=λ h=>by rw [<-hd4] at h;simpa using h
 have E1:d1=true->t1=s1:=λ h=>by rw [<-ht1,if_pos (e1 h).1]
 have E2:d2=true->t2=s2:=λ h=>by rw [<-ht2,if_pos (e2 h).1]
 have E3:d3=true->t3=s3:=λ h=>by rw [<-ht3,if_pos (e3 h).1]
 have E4:d4=true->t4=s4:=λ h=>by rw [<-ht4,if_pos (e4 h).1]
 have b1:=blkC_spec s en hs;rw [hq1] at b1;have hm1:q1=true->Rm s1:=λ c=>(b1.1 c).1
 have hm2:q1=true->q2=true->Rm s2:=λ c c2=>by
  have:=blkC_spec s1 le (hm1 c);rw [hq2] at this;exact (this.1 c2).1
 have hm3:q1=true->q2=true->q3=true->Rm s3:=λ c c2 c3=>by
  rw [<-hs3];exact ⟨(hm2 c c2).1,by rw [<-hq3] at c3;exact of_decide_eq_true c3,(hm2 c c2).2.2⟩
 obtain ⟨W1,hW1⟩:∃W,W=w.alloc (.cells #[.int .i64 k,.string N0,.string I0,.string D0,.slice A1 en.length Ac1,.slice A2 le.length Ac2,.slice A3 mo.length Ac3,.slice A4 ks.length Ac4,.int .i64 p] 27):=⟨_,rfl⟩
 obtain ⟨g1,hg1⟩:∃g,g=w.heap.size:=⟨_,rfl⟩
 have hal:Below w.heap.size w W1:=by rw [hW1];exact (b_ _ w).alloc (n_ _) _
 have HX:Hid (CB W1 g1 27 [.int .i64 k,.string N0,.string I0,.string D0,.slice A1 en.length Ac1,.slice A2 le.length Ac2,.slice A3 mo.length Ac3,.slice A4 ks.length Ac4,.int .i64 p]/\KS w0 W1 b lvl s/\Mv b w W1):=⟨by rw [hW1,hg1];exact CB.new w _ [.int .i64 k,.string N0,.string I0,.string D0,.slice A1 en.length Ac1,.slice A2 le.length Ac2,.slice A3 mo.length Ac3,.slice A4 ks.length Ac4,.int .i64 p],h.below hal,Mv.of_below b hal⟩
 have hgb:g1≠b:=by have:=h.2.lt;rw [hg1];exact λ e=>by omega
 have F0:=λ (W:World) (hw:Below w0.heap.size w0 W)=>name_any I0 W hIS (hE.below hw).vr.kw;have F1:=λ (W:World) (hk:KS w0 W b L1 s)=>kblock_any w0 W b L1 s en A1 Ac1 hE hk hb hs a1 r1 l1;have F2:=λ (c:q1=true) (W:World) (hk:KS w0 W b L1 s1)=>kblock_any w0 W b L1 s1 le A2 Ac2 hE hk hb (hm1 c) a2 r2 l2;have F3:=λ (c:q1=true) (c2:q2=true) (W:World) (hk:KS w0 W b L1 s2)=>kcount_any W b 1 s2.2.1 mo.length 200 (hk.2.c 1 rfl) (hk.2.fr 1) (by have:=(hm2 c c2).2.1;omega);have F4:=λ (c:q1=true) (c2:q2=true) (c3:q3=true) (W:World) (hk:KS w0 W b L1 s3)=>everyM_any w0 W b L1 mvS Rm mo A3 Ac3 mo.length s3 rfl (by omega) (allM_of hb a3 hE r3 l5) hk (hm3 c c2 c3);have F5:=λ (hR4:Rm s4) (W:World) (hk:KS w0 W b L1 s4)=>everyN_any w0 W b L1 (ndS L1) Rm ks A4 Ac4 ks.length s4 rfl (by omega) (allN_of a4 (GN.rngs_iff.1 r4) (GN.lens_iff.1 l6) (by omega) (by rw [<-hL1];exact ih)) hk hR4
 have hm4:q1=true->q2=true->q3=true->q4=true->Rm s4:=λ c c2 c3 c4=>by
  have:=mvsS_spec mo s3 (hm3 c c2 c3);rw [hq4] at this;exact (this.1 c4).1
 rw [hIL,hq0] at F0;rw [hq1] at F1;rw [hq2] at F2;rw [hq3] at F3;rw [hq4] at F4;rw [hq5] at F5;simp only at F1 F2 F4 F5;clear b1 hm1 hm2 hm3 hx hri r1 r2 r3 r4 l1 l2 l3 l5 l6 a1 a2 a3 a4 ih hN0 hI0 hD0 eN eI eD hIL hIS hE hs hq0 hq1 hq2 hq3 hq4 hq5
 obtain ⟨n1,hn1⟩:∃n,en.length=n:=⟨_,rfl⟩
 obtain ⟨n2,hn2⟩:∃n,le.length=n:=⟨_,rfl⟩
 obtain ⟨n3,hn3⟩:∃n,mo.length=n:=⟨_,rfl⟩
 obtain ⟨n4,hn4⟩:∃n,ks.length=n:=⟨_,rfl⟩
 rw [hn1] at F1 HX hW1 ⊢;rw [hn2] at F2 HX hW1 ⊢;rw [hn3] at F3 F4 hs3 HX hW1 ⊢;rw [hn4] at F5 HX hW1 ⊢
 obtain ⟨V,hV⟩:∃V:List Value,[.int .i64 k,.string N0,.string I0,.string D0,.slice A1 n1 Ac1,.slice A2 n2 Ac2,.slice A3 n3 Ac3,.slice A4 n4 Ac4,.int .i64 p]=V:=⟨_,rfl⟩
 rw [hV] at HX
 have HC0:Hid (∀W,QB w0 w b g1 L1 V W s->Calls Tryz.prog 137 #[.string I0] W (λ e w'=>e=.returned (.bool q0)/\QB w0 w b g1 L1 V w' s)):=λ W hq=>by
  refine (F0 W hq.out.2.1.1).mono ?_;rintro e w' ⟨rfl,rfl⟩;exact ⟨rfl,hq⟩
 have HC1:Hid (c0=true->∀W,QB w0 w b g1 L1 V W s->Calls Tryz.prog 192 #[.pointer (some ⟨b,0,none⟩),.slice A1 n1 Ac1] W (λ e w'=>e=.returned (.bool q1)/\QB w0 w b g1 L1 V w' t1)):=λ c1 W hq=>by
  refine (F1 W hq.out.2.1).mono ?_;rintro e w' ⟨rfl,hk,hm⟩;have c:=hq.out.1.mv hm hgb;refine ⟨rfl,c,?_,hq.out.2.2.trans hm⟩;rw [<-ht1,if_pos c1];exact hk.1
 have HC2:Hid (d1=true->∀W,QB w0 w b g1 L1 V W t1->Calls Tryz.prog 192 #[.pointer (some ⟨b,0,none⟩),.slice A2 n2 Ac2] W (λ e w'=>e=.returned (.bool q2)/\QB w0 w b g1 L1 V w' t2)):=λ c1 W hq=>by
  rw [E1 c1] at hq;refine (F2 (e1 c1).2 W hq.out.2.1).mono ?_;rintro e w' ⟨rfl,hk,hm⟩;have c:=hq.out.1.mv hm hgb;refine ⟨rfl,c,?_,hq.out.2.2.trans hm⟩;rw [<-ht2,if_pos c1];exact hk.1
 have HC3:Hid (d2=true->∀W,QB w0 w b g1 L1 V W t2->Calls Tryz.prog 138 #[.pointer (some ⟨b,1,none⟩),.int .i64 (n3:Int),.int .i64 200] W (λ e w'=>e=.returned (.bool q3)/\QB w0 w b g1 L1 V w' t3)):=λ c1 W hq=>by
  rw [E2 c1] at hq;refine (F3 (e1 (e2 c1).1).2 (e2 c1).2 W hq.out.2.1).mono ?_;rintro e w' ⟨rfl,rfl⟩;have c:=hq.out.1.other hgb 1 (.int .i64 ((s2.2.1+n3:Nat):Int));refine ⟨rfl,c,?_,hq.out.2.2.trans ((Mv.refl b W).set 1 _)⟩;rw [<-ht3,if_pos c1,<-hs3];exact KS.set1 (n:=s2.1) (m:=s2.2.1) (a:=s2.2.2) hq.out.2.1 hb _
 have HC4:Hid (d3=true->∀W,QB w0 w b g1 L1 V W t3->Calls Tryz.prog 193 #[.slice A3 n3 Ac3,.func (.func 194) #[.pointer (some ⟨b,0,none⟩)] #[]] W (λ e w'=>e=.returned (.bool q4)/\QB w0 w b g1 L1 V w' t4)):=λ c1 W hq=>by
  rw [E3 c1] at hq;refine (F4 (e1 (e2 (e3 c1).1).1).2 (e2 (e3 c1).1).2 (e3 c1).2 W hq.out.2.1).mono ?_;rintro e w' ⟨rfl,hk,hm⟩;have c:=hq.out.1.mv hm hgb;refine ⟨rfl,c,?_,hq.out.2.2.trans hm⟩;rw [<-ht4,if_pos c1];exact hk.1
 have HC5:Hid (d4=true->∀W,QB w0 w b g1 L1 V W t4->Calls Tryz.prog 195 #[.slice A4 n4 Ac4,.func (.func 83) #[.pointer (some ⟨b,0,none⟩)] #[]] W (λ e w'=>e=.returned (.bool q5)/\QB w0 w b g1 L1 V w' t5)):=λ c1 W hq=>by
  rw [E4 c1] at hq;refine (F5 (hm4 (e1 (e2 (e3 (e4 c1).1).1).1).2 (e2 (e3 (e4 c1).1).1).2 (e3 (e4 c1).1).2 (e4 c1).2) W hq.out.2.1).mono ?_;rintro e w' ⟨rfl,hk,hm⟩;have c:=hq.out.1.mv hm hgb;refine ⟨rfl,c,?_,hq.out.2.2.trans hm⟩;rw [<-ht5,if_pos c1];exact hk.1
 have HT:Hid ((c0=false->t1=s)/\(d1=false->t2=t1)/\(d2=false->t3=t2)/\(d3=false->t4=t3)/\(d4=false->t5=t4)):=by
  refine ⟨λ h=>?_,λ h=>?_,λ h=>?_,λ h=>?_,λ h=>?_⟩
  ·rw [<-ht1,h];rfl
  ·rw [<-ht2,h];rfl
  ·rw [<-ht3,h];rfl
  ·rw [<-ht4,h];rfl
  ·rw [<-ht5,h];rfl
 have HDE:=h_ (And.intro hc0 (And.intro hd1 (And.intro hd2 (And.intro hd3 (And.intro hd4 hd5)))))
 have SEE:Hid (∀(W:World) (t:Nat×Nat×Nat),QB w0 w b g1 L1 V W t->W.cell? ⟨g1,2,none⟩=some (.string I0)/\W.cell? ⟨g1,4,none⟩=some (.slice A1 n1 Ac1)/\W.cell? ⟨g1,5,none⟩=some (.slice A2 n2 Ac2)/\W.cell? ⟨g1,6,none⟩=some (.slice A3 n3 Ac3)/\W.cell? ⟨g1,7,none⟩=some (.slice A4 n4 Ac4)):=λ W t hq=>by
  have c:=hq.out.1;rw [<-hV] at c;exact ⟨c.c 2 rfl,c.c 4 rfl,c.c 5 rfl,c.c 6 rfl,c.c 7 rfl⟩
 have x3:=HX.out.2.1.2.c 3 rfl;have f3:=HX.out.2.1.2.fr 3
 obtain ⟨W2,hW2⟩:∃W,W=W1.setCell ⟨b,3,none⟩ (.int .i64 (L1:Int)):=⟨_,rfl⟩
 have HQ0:QB w0 w b g1 L1 V W2 s:=by rw [hW2];exact ⟨HX.out.1.other hgb 3 _,HX.out.2.1.set3 hb L1,HX.out.2.2.trans ((Mv.refl b W1).set 3 _)⟩
 have HQ:QB w0 w b g1 L1 V W2.drew s:=by
  have hd:Below W2.heap.size W2 W2.drew:=(b_ _ W2).drew;exact ⟨HQ0.out.1.below hd,HQ0.out.2.1.below hd,HQ0.out.2.2.trans (Mv.of_below b hd)⟩
 have HBB:=h_ hb;have HLV:=h_ (And.intro hL1 hlv);obtain ⟨z2,z4,z5,z6,z7⟩:=SEE.out W2 s HQ0
 have HFIN:Hid (∀(W:World) (t:Nat×Nat×Nat),QB w0 w b g1 L1 V W t->∃W3,W3=W.setCell ⟨b,3,none⟩ (.int .i64 (lvl:Int))/\W.cell? ⟨b,3,none⟩=some (.int .i64 (L1:Int))/\W.frozen? ⟨b,3,none⟩=false/\Hid (KS w0 W3 b lvl t/\Mv b w W3)):=λ W t hq=>by
  refine ⟨_,rfl,hq.out.2.1.2.c 3 rfl,hq.out.2.1.2.fr 3,?_,?_⟩
  ·exact KS.set3 hq.out.2.1 hb lvl
  ·exact hq.out.2.2.trans ((Mv.refl b W).set 3 _)
 clear hc0 hd1 hd2 hd3 hd4 hd5 ht1 ht2 ht3 ht4 ht5 e1 e2 e3 e4 E1 E2 E3 E4 HR0;clear F0 F1 F2 F3 F4 F5 hm4 hn1 hn2 hn3 hn4 hs3 l4 h hal HX hV hL1 hlv hb hgb HQ0;go_enter Tryz.func139,Tryz.ntmps139;go_upto_region 1 with fail;rw [<-hW1,<-hg1];clear hW1 hg1;go_upto_region 2 with fail
 try rw [hc1]
 try (rw [Go.IntWalk.wrap64_in (L1:Int) (by have:=HLV.out;exact ⟨by omega,by omega⟩)])
 rw [<-hW2];clear hW2 x3 f3 hc1;refine wp_region_held_drew (S:=λ W=>W.cell? ⟨g1,2,none⟩=some (.string I0)/\W.cell? ⟨g1,4,none⟩=some (.slice A1 n1 Ac1)/\W.cell? ⟨g1,5,none⟩=some (.slice A2 n2 Ac2)/\W.cell? ⟨g1,6,none⟩=some (.slice A3 n3 Ac3)/\W.cell? ⟨g1,7,none⟩=some (.slice A4 n4 Ac4)) (by kernel_rfl) (SEE.out _ _ HQ) (λ hHeld=>?_);refine wpAnyH_take (i:=0) (v:=.pointer (some ⟨g1,2,none⟩)) (by simp only [t_,z_];rfl) (by kernel_rfl) (by kernel_rfl) (by kernel_rfl) (by exact λ _ _ _ h=>h) (Or.inl ⟨by rfl,by intro W hSw;obtain ⟨x2,x4,x5,x6,x7⟩:=hSw;go_simp⟩) (by assumption) ?_;simp only [Act.put,u_,v_,k_];refine wpAnyH_take (i:=1) (v:=.string I0) (by simp only [t_,z_,s_];rfl) (by kernel_rfl) (by kernel_rfl) (by kernel_rfl) (by exact λ _ _ _ h=>h) (Or.inl ⟨by rfl,by intro W hSw;obtain ⟨x2,x4,x5,x6,x7⟩:=hSw;go_simp⟩) (by assumption) ?_;simp only [Act.put,u_,v_,k_];refine wpAnyH_take (i:=2) (v:=.bool e0) (by simp only [t_,z_,s_];rfl) (by kernel_rfl) (by kernel_rfl) (by kernel_rfl) (by exact λ _ _ _ h=>h) (Or.inl ⟨by rfl,by intro W hSw;obtain ⟨x2,x4,x5,x6,x7⟩:=hSw;go_simp⟩) (by assumption) ?_;simp only [Act.put,u_,v_,k_];refine wpAnyH_take (i:=3) (v:=.bool e0) (by simp only [t_,z_,s_];rfl) (by kernel_rfl) (by kernel_rfl) (by kernel_rfl) (by exact λ _ _ _ h=>h) (Or.inl ⟨by rfl,by intro W hSw;obtain ⟨x2,x4,x5,x6,x7⟩:=hSw;go_simp⟩) (by assumption) ?_;simp only [Act.put,u_,v_,k_];refine wpAnyH_take (i:=4) (v:=ifv (!e0) (.pointer (some ⟨g1,2,none⟩))) (by simp only [t_,z_,s_];rfl) (by kernel_rfl) (by kernel_rfl) (by kernel_rfl) (by exact λ _ _ _ h=>h) (yif (c:=(!e0)) (by cases e0 <;> rfl) (by intro hc W hSw;obtain ⟨x2,x4,x5,x6,x7⟩:=hSw;cases e0;rotate_left;(exact absurd hc (by decide));(try simp only [Bool.not_false,ifv_true]);go_simp)) (by assumption) ?_;simp only [Act.put,u_,v_,k_];refine wpAnyH_take (i:=5) (v:=ifv (!e0) (.string I0)) (by simp only [t_,z_,s_];rfl) (by kernel_rfl) (by kernel_rfl) (by kernel_rfl) (by exact λ _ _ _ h=>h) (yif (c:=(!e0)) (by cases e0 <;> rfl) (by intro hc W hSw;obtain ⟨x2,x4,x5,x6,x7⟩:=hSw;cases e0;rotate_left;(exact absurd hc (by decide));(try simp only [Bool.not_false,ifv_true]);go_simp)) (by assumption) ?_;simp only [Act.put,u_,v_,k_];refine callq (i:=6) (c:=(!e0)) (q:=q0) (λ W=>QB w0 w b g1 L1 V W s) (λ W=>QB w0 w b g1 L1 V W s) (by simp only [t_,z_,s_];rfl) (by kernel_rfl) (by cases e0 <;> rfl) (λ hc W hq=>hq) ?_ (λ W hq=>SEE.out W _ hq) HQ ?_
 ·intro hc K hK;clear hHeld;cases e0;rotate_left;(exact absurd hc (by decide))
  try simp only [Bool.not_false,ifv_true] at hK ⊢
  go_simp;refine (HC0.out _ HQ).mono ?_;rintro e wa ⟨rfl,hq⟩;exact hK wa hq
 clear HQ hHeld;intro wa HQ hHeld;simp only [Act.put,u_,v_,k_];refine wpAnyH_take (i:=7) (v:=.bool (e0 || q0)) (by simp only [t_,z_,s_];rfl) (by kernel_rfl) (by kernel_rfl) (by kernel_rfl) (by exact λ _ _ _ h=>h) (Or.inl ⟨by rfl,by intro W hSw;clear hSw;cases e0 <;> simp only [Bool.not_false,Bool.not_true,ifv_true,ifv_false,Bool.true_or,Bool.false_or] <;> go_simp⟩) (by assumption) ?_;simp only [Act.put,u_,v_,k_];rw [HDE.out.1];refine wpAnyH_take (i:=8) (v:=.bool c0) (by simp only [t_,z_,s_];rfl) (by kernel_rfl) (by kernel_rfl) (by kernel_rfl) (by exact λ _ _ _ h=>h) (Or.inl ⟨by rfl,by intro W hSw;obtain ⟨x2,x4,x5,x6,x7⟩:=hSw;go_simp⟩) (by assumption) ?_;simp only [Act.put,u_,v_,k_];refine wpAnyH_take (i:=9) (v:=ifv c0 (.pointer (some ⟨b,0,none⟩))) (by simp only [t_,z_,s_];rfl) (by kernel_rfl) (by kernel_rfl) (by kernel_rfl) (by exact λ _ _ _ h=>h) (yif (c:=c0) (by cases c0 <;> rfl) (by intro hc W hSw;obtain ⟨x2,x4,x5,x6,x7⟩:=hSw;subst hc;(try simp only [ifv_true]);go_simp)) (by assumption) ?_;simp only [Act.put,u_,v_,k_];refine wpAnyH_take (i:=10) (v:=ifv c0 (.pointer (some ⟨g1,4,none⟩))) (by simp only [t_,z_,s_];rfl) (by kernel_rfl) (by kernel_rfl) (by kernel_rfl) (by exact λ _ _ _ h=>h) (yif (c:=c0) (by cases c0 <;> rfl) (by intro hc W hSw;obtain ⟨x2,x4,x5,x6,x7⟩:=hSw;subst hc;(try simp only [ifv_true]);go_simp)) (by assumption) ?_;simp only [Act.put,u_,v_,k_];refine wpAnyH_take (i:=11) (v:=ifv c0 (.slice A1 n1 Ac1)) (by simp only [t_,z_,s_];rfl) (by kernel_rfl) (by kernel_rfl) (by kernel_rfl) (by exact λ _ _ _ h=>h) (yif (c:=c0) (by cases c0 <;> rfl) (by intro hc W hSw;obtain ⟨x2,x4,x5,x6,x7⟩:=hSw;subst hc;(try simp only [ifv_true]);go_simp)) (by assumption) ?_;simp only [Act.put,u_,v_,k_];refine callq (i:=12) (c:=c0) (q:=q1) (λ W=>QB w0 w b g1 L1 V W s) (λ W=>QB w0 w b g1 L1 V W t1) (by simp only [t_,z_,s_];rfl) (by kernel_rfl) (by cases c0 <;> rfl) (λ hc W hq=>by rw [HT.out.1 hc];exact hq) ?_ (λ W hq=>SEE.out W _ hq) HQ ?_
 ·intro hc K hK;clear hHeld;subst hc
  try simp only [ifv_true] at hK ⊢
  go_simp;refine (HC1.out rfl _ HQ).mono ?_;rintro e wa ⟨rfl,hq⟩;exact hK wa hq
 clear HQ hHeld;intro wa HQ hHeld;simp only [Act.put,u_,v_,k_];refine wpAnyH_take (i:=13) (v:=.bool (c0&&q1)) (by simp only [t_,z_,s_];rfl) (by kernel_rfl) (by kernel_rfl) (by kernel_rfl) (by exact λ _ _ _ h=>h) (Or.inl ⟨by rfl,by intro W hSw;clear hSw;cases c0 <;> simp only [ifv_true,ifv_false,Bool.true_and,Bool.false_and] <;> go_simp⟩) (by assumption) ?_;simp only [Act.put,u_,v_,k_];rw [HDE.out.2.1];refine wpAnyH_take (i:=14) (v:=.bool d1) (by simp only [t_,z_,s_];rfl) (by kernel_rfl) (by kernel_rfl) (by kernel_rfl) (by exact λ _ _ _ h=>h) (Or.inl ⟨by rfl,by intro W hSw;obtain ⟨x2,x4,x5,x6,x7⟩:=hSw;go_simp⟩) (by assumption) ?_;simp only [Act.put,u_,v_,k_];refine wpAnyH_take (i:=15) (v:=ifv d1 (.pointer (some ⟨b,0,none⟩))) (by simp only [t_,z_,s_];rfl) (by kernel_rfl) (by kernel_rfl) (by kernel_rfl) (by exact λ _ _ _ h=>h) (yif (c:=d1) (by cases d1 <;> rfl) (by intro hc W hSw;obtain ⟨x2,x4,x5,x6,x7⟩:=hSw;subst hc;(try simp only [ifv_true]);go_simp)) (by assumption) ?_;simp only [Act.put,u_,v_,k_];refine wpAnyH_take (i:=16) (v:=ifv d1 (.pointer (some ⟨g1,5,none⟩))) (by simp only [t_,z_,s_];rfl) (by kernel_rfl) (by kernel_rfl) (by kernel_rfl) (by exact λ _ _ _ h=>h) (yif (c:=d1) (by cases d1 <;> rfl) (by intro hc W hSw;obtain ⟨x2,x4,x5,x6,x7⟩:=hSw;subst hc;(try simp only [ifv_true]);go_simp)) (by assumption) ?_;simp only [Act.put,u_,v_,k_];refine wpAnyH_take (i:=17) (v:=ifv d1 (.slice A2 n2 Ac2)) (by simp only [t_,z_,s_];rfl) (by kernel_rfl) (by kernel_rfl) (by kernel_rfl) (by exact λ _ _ _ h=>h) (yif (c:=d1) (by cases d1 <;> rfl) (by intro hc W hSw;obtain ⟨x2,x4,x5,x6,x7⟩:=hSw;subst hc;(try simp only [ifv_true]);go_simp)) (by assumption) ?_;simp only [Act.put,u_,v_,k_];refine callq (i:=18) (c:=d1) (q:=q2) (λ W=>QB w0 w b g1 L1 V W t1) (λ W=>QB w0 w b g1 L1 V W t2) (by simp only [t_,z_,s_];rfl) (by kernel_rfl) (by cases d1 <;> rfl) (λ hc W hq=>by rw [HT.out.2.1 hc];exact hq) ?_ (λ W hq=>SEE.out W _ hq) HQ ?_
 ·intro hc K hK;clear hHeld;subst hc
  try simp only [ifv_true] at hK ⊢
  go_simp;refine (HC2.out rfl _ HQ).mono ?_;rintro e wa ⟨rfl,hq⟩;exact hK wa hq
 clear HQ hHeld;intro wa HQ hHeld;simp only [Act.put,u_,v_,k_];refine wpAnyH_take (i:=19) (v:=.bool (d1&&q2)) (by simp only [t_,z_,s_];rfl) (by kernel_rfl) (by kernel_rfl) (by kernel_rfl) (by exact λ _ _ _ h=>h) (Or.inl ⟨by rfl,by intro W hSw;clear hSw;cases d1 <;> simp only [ifv_true,ifv_false,Bool.true_and,Bool.false_and] <;> go_simp⟩) (by assumption) ?_;simp only [Act.put,u_,v_,k_];rw [HDE.out.2.2.1];refine wpAnyH_take (i:=20) (v:=.bool d2) (by simp only [t_,z_,s_];rfl) (by kernel_rfl) (by kernel_rfl) (by kernel_rfl) (by exact λ _ _ _ h=>h) (Or.inl ⟨by rfl,by intro W hSw;obtain ⟨x2,x4,x5,x6,x7⟩:=hSw;go_simp⟩) (by assumption) ?_;simp only [Act.put,u_,v_,k_];refine wpAnyH_take (i:=21) (v:=ifv d2 (.pointer (some ⟨b,0,none⟩))) (by simp only [t_,z_,s_];rfl) (by kernel_rfl) (by kernel_rfl) (by kernel_rfl) (by exact λ _ _ _ h=>h) (yif (c:=d2) (by cases d2 <;> rfl) (by intro hc W hSw;obtain ⟨x2,x4,x5,x6,x7⟩:=hSw;subst hc;(try simp only [ifv_true]);go_simp)) (by assumption) ?_;simp only [Act.put,u_,v_,k_];refine wpAnyH_take (i:=22) (v:=ifv d2 (.pointer (some ⟨b,0,none⟩))) (by simp only [t_,z_,s_];rfl) (by kernel_rfl) (by kernel_rfl) (by kernel_rfl) (by exact λ _ _ _ h=>h) (yif (c:=d2) (by cases d2 <;> rfl) (by intro hc W hSw;obtain ⟨x2,x4,x5,x6,x7⟩:=hSw;subst hc;(try simp only [ifv_true]);go_simp)) (by assumption) ?_;simp only [Act.put,u_,v_,k_];refine wpAnyH_take (i:=23) (v:=ifv d2 (.pointer (some ⟨b,1,none⟩))) (by simp only [t_,z_,s_];rfl) (by kernel_rfl) (by kernel_rfl) (by kernel_rfl) (by exact λ _ _ _ h=>h) (yif (c:=d2) (by cases d2 <;> rfl) (by intro hc W hSw;obtain ⟨x2,x4,x5,x6,x7⟩:=hSw;subst hc;(try simp only [ifv_true]);go_simp)) (by assumption) ?_;simp only [Act.put,u_,v_,k_];refine wpAnyH_take (i:=24) (v:=ifv d2 (.pointer (some ⟨g1,6,none⟩))) (by simp only [t_,z_,s_];rfl) (by kernel_rfl) (by kernel_rfl) (by kernel_rfl) (by exact λ _ _ _ h=>h) (yif (c:=d2) (by cases d2 <;> rfl) (by intro hc W hSw;obtain ⟨x2,x4,x5,x6,x7⟩:=hSw;subst hc;(try simp only [ifv_true]);go_simp)) (by assumption) ?_;simp only [Act.put,u_,v_,k_];refine wpAnyH_take (i:=25) (v:=ifv d2 (.slice A3 n3 Ac3)) (by simp only [t_,z_,s_];rfl) (by kernel_rfl) (by kernel_rfl) (by kernel_rfl) (by exact λ _ _ _ h=>h) (yif (c:=d2) (by cases d2 <;> rfl) (by intro hc W hSw;obtain ⟨x2,x4,x5,x6,x7⟩:=hSw;subst hc;(try simp only [ifv_true]);go_simp)) (by assumption) ?_;simp only [Act.put,u_,v_,k_];refine wpAnyH_take (i:=26) (v:=ifv d2 (.int .i64 (n3:Int))) (by simp only [t_,z_,s_];rfl) (by kernel_rfl) (by kernel_rfl) (by kernel_rfl) (by exact λ _ _ _ h=>h) (yif (c:=d2) (by cases d2 <;> rfl) (by intro hc W hSw;obtain ⟨x2,x4,x5,x6,x7⟩:=hSw;subst hc;(try simp only [ifv_true]);go_simp)) (by assumption) ?_;simp only [Act.put,u_,v_,k_];refine callq (i:=27) (c:=d2) (q:=q3) (λ W=>QB w0 w b g1 L1 V W t2) (λ W=>QB w0 w b g1 L1 V W t3) (by simp only [t_,z_,s_];rfl) (by kernel_rfl) (by cases d2 <;> rfl) (λ hc W hq=>by rw [HT.out.2.2.1 hc];exact hq) ?_ (λ W hq=>SEE.out W _ hq) HQ ?_
 ·intro hc K hK;clear hHeld;subst hc
  try simp only [ifv_true] at hK ⊢
  go_simp;refine (HC3.out rfl _ HQ).mono ?_;rintro e wa ⟨rfl,hq⟩;exact hK wa hq
 clear HQ hHeld;intro wa HQ hHeld;simp only [Act.put,u_,v_,k_];refine wpAnyH_take (i:=28) (v:=.bool (d2&&q3)) (by simp only [t_,z_,s_];rfl) (by kernel_rfl) (by kernel_rfl) (by kernel_rfl) (by exact λ _ _ _ h=>h) (Or.inl ⟨by rfl,by intro W hSw;clear hSw;cases d2 <;> simp only [ifv_true,ifv_false,Bool.true_and,Bool.false_and] <;> go_simp⟩) (by assumption) ?_;simp only [Act.put,u_,v_,k_];rw [HDE.out.2.2.2.1];refine wpAnyH_take (i:=29) (v:=.bool d3) (by simp only [t_,z_,s_];rfl) (by kernel_rfl) (by kernel_rfl) (by kernel_rfl) (by exact λ _ _ _ h=>h) (Or.inl ⟨by rfl,by intro W hSw;obtain ⟨x2,x4,x5,x6,x7⟩:=hSw;go_simp⟩) (by assumption) ?_;simp only [Act.put,u_,v_,k_];refine wpAnyH_take (i:=30) (v:=ifv d3 (.pointer (some ⟨g1,6,none⟩))) (by simp only [t_,z_,s_];rfl) (by kernel_rfl) (by kernel_rfl) (by kernel_rfl) (by exact λ _ _ _ h=>h) (yif (c:=d3) (by cases d3 <;> rfl) (by intro hc W hSw;obtain ⟨x2,x4,x5,x6,x7⟩:=hSw;subst hc;(try simp only [ifv_true]);go_simp)) (by assumption) ?_;simp only [Act.put,u_,v_,k_];refine wpAnyH_take (i:=31) (v:=ifv d3 (.slice A3 n3 Ac3)) (by simp only [t_,z_,s_];rfl) (by kernel_rfl) (by kernel_rfl) (by kernel_rfl) (by exact λ _ _ _ h=>h) (yif (c:=d3) (by cases d3 <;> rfl) (by intro hc W hSw;obtain ⟨x2,x4,x5,x6,x7⟩:=hSw;subst hc;(try simp only [ifv_true]);go_simp)) (by assumption) ?_;simp only [Act.put,u_,v_,k_];refine wpAnyH_take (i:=32) (v:=ifv d3 (.pointer (some ⟨b,0,none⟩))) (by simp only [t_,z_,s_];rfl) (by kernel_rfl) (by kernel_rfl) (by kernel_rfl) (by exact λ _ _ _ h=>h) (yif (c:=d3) (by cases d3 <;> rfl) (by intro hc W hSw;obtain ⟨x2,x4,x5,x6,x7⟩:=hSw;subst hc;(try simp only [ifv_true]);go_simp)) (by assumption) ?_;simp only [Act.put,u_,v_,k_];refine wpAnyH_take (i:=33) (v:=ifv d3 (.func (.func 194) #[.pointer (some ⟨b,0,none⟩)] #[])) (by simp only [t_,z_,s_];rfl) (by kernel_rfl) (by kernel_rfl) (by kernel_rfl) (by exact λ _ _ _ h=>h) (yif (c:=d3) (by cases d3 <;> rfl) (by intro hc W hSw;obtain ⟨x2,x4,x5,x6,x7⟩:=hSw;subst hc;(try simp only [ifv_true]);go_simp)) (by assumption) ?_;simp only [Act.put,u_,v_,k_];refine callq (i:=34) (c:=d3) (q:=q4) (λ W=>QB w0 w b g1 L1 V W t3) (λ W=>QB w0 w b g1 L1 V W t4) (by simp only [t_,z_,s_];rfl) (by kernel_rfl) (by cases d3 <;> rfl) (λ hc W hq=>by rw [HT.out.2.2.2.1 hc];exact hq) ?_ (λ W hq=>SEE.out W _ hq) HQ ?_
 ·intro hc K hK;clear hHeld;subst hc
  try simp only [ifv_true] at hK ⊢
  go_simp;refine (HC4.out rfl _ HQ).mono ?_;rintro e wa ⟨rfl,hq⟩;exact hK wa hq
 clear HQ hHeld;intro wa HQ hHeld;simp only [Act.put,u_,v_,k_];refine wpAnyH_take (i:=35) (v:=.bool (d3&&q4)) (by simp only [t_,z_,s_];rfl) (by kernel_rfl) (by kernel_rfl) (by kernel_rfl) (by exact λ _ _ _ h=>h) (Or.inl ⟨by rfl,by intro W hSw;clear hSw;cases d3 <;> simp only [ifv_true,ifv_false,Bool.true_and,Bool.false_and] <;> go_simp⟩) (by assumption) ?_;simp only [Act.put,u_,v_,k_];rw [HDE.out.2.2.2.2.1];refine wpAnyH_take (i:=36) (v:=.bool d4) (by simp only [t_,z_,s_];rfl) (by kernel_rfl) (by kernel_rfl) (by kernel_rfl) (by exact λ _ _ _ h=>h) (Or.inl ⟨by rfl,by intro W hSw;obtain ⟨x2,x4,x5,x6,x7⟩:=hSw;go_simp⟩) (by assumption) ?_;simp only [Act.put,u_,v_,k_];refine wpAnyH_take (i:=37) (v:=ifv d4 (.pointer (some ⟨g1,7,none⟩))) (by simp only [t_,z_,s_];rfl) (by kernel_rfl) (by kernel_rfl) (by kernel_rfl) (by exact λ _ _ _ h=>h) (yif (c:=d4) (by cases d4 <;> rfl) (by intro hc W hSw;obtain ⟨x2,x4,x5,x6,x7⟩:=hSw;subst hc;(try simp only [ifv_true]);go_simp)) (by assumption) ?_;simp only [Act.put,u_,v_,k_];refine wpAnyH_take (i:=38) (v:=ifv d4 (.slice A4 n4 Ac4)) (by simp only [t_,z_,s_];rfl) (by kernel_rfl) (by kernel_rfl) (by kernel_rfl) (by exact λ _ _ _ h=>h) (yif (c:=d4) (by cases d4 <;> rfl) (by intro hc W hSw;obtain ⟨x2,x4,x5,x6,x7⟩:=hSw;subst hc;(try simp only [ifv_true]);go_simp)) (by assumption) ?_;simp only [Act.put,u_,v_,k_];refine wpAnyH_take (i:=39) (v:=ifv d4 (.pointer (some ⟨b,0,none⟩))) (by simp only [t_,z_,s_];rfl) (by kernel_rfl) (by kernel_rfl) (by kernel_rfl) (by exact λ _ _ _ h=>h) (yif (c:=d4) (by cases d4 <;> rfl) (by intro hc W hSw;obtain ⟨x2,x4,x5,x6,x7⟩:=hSw;subst hc;(try simp only [ifv_true]);go_simp)) (by assumption) ?_;simp only [Act.put,u_,v_,k_];refine wpAnyH_take (i:=40) (v:=ifv d4 (.func (.func 83) #[.pointer (some ⟨b,0,none⟩)] #[])) (by simp only [t_,z_,s_];rfl) (by kernel_rfl) (by kernel_rfl) (by kernel_rfl) (by exact λ _ _ _ h=>h) (yif (c:=d4) (by cases d4 <;> rfl) (by intro hc W hSw;obtain ⟨x2,x4,x5,x6,x7⟩:=hSw;subst hc;(try simp only [ifv_true]);go_simp)) (by assumption) ?_;simp only [Act.put,u_,v_,k_];refine callq (i:=41) (c:=d4) (q:=q5) (λ W=>QB w0 w b g1 L1 V W t4) (λ W=>QB w0 w b g1 L1 V W t5) (by simp only [t_,z_,s_];rfl) (by kernel_rfl) (by cases d4 <;> rfl) (λ hc W hq=>by rw [HT.out.2.2.2.2 hc];exact hq) ?_ (λ W hq=>SEE.out W _ hq) HQ ?_
 ·intro hc K hK;clear hHeld;subst hc
  try simp only [ifv_true] at hK ⊢
  go_simp;refine (HC5.out rfl _ HQ).mono ?_;rintro e wa ⟨rfl,hq⟩;exact hK wa hq
 clear HQ hHeld;intro wa HQ hHeld;simp only [Act.put,u_,v_,k_];refine wpAnyH_take (i:=42) (v:=.bool (d4&&q5)) (by simp only [t_,z_,s_];rfl) (by kernel_rfl) (by kernel_rfl) (by kernel_rfl) (by exact λ _ _ _ h=>h) (Or.inl ⟨by rfl,by intro W hSw;clear hSw;cases d4 <;> simp only [ifv_true,ifv_false,Bool.true_and,Bool.false_and] <;> go_simp⟩) (by assumption) ?_;simp only [Act.put,u_,v_,k_];rw [HDE.out.2.2.2.2.2];refine wpAnyH_take (i:=43) (v:=.bool d5) (by simp only [t_,z_,s_];rfl) (by kernel_rfl) (by kernel_rfl) (by kernel_rfl) (by exact λ _ _ _ h=>h) (Or.inl ⟨by rfl,by intro W hSw;obtain ⟨x2,x4,x5,x6,x7⟩:=hSw;go_simp⟩) (by assumption) ?_;simp only [Act.put,u_,v_,k_];refine wpAnyH_done (by kernel_rfl) ?_ _;obtain ⟨W3,hW3,y3,f3,HF⟩:=HFIN.out _ _ HQ;clear HC0 HC1 HC2 HC3 HC4 HC5 HFIN HQ hHeld SEE HT HDE z2 z4 z5 z6 z7;go_upto_region 4 with fail
 try rw [hc2]
 try (rw [Go.IntWalk.wrap64_in (lvl:Int) (by have:=HLV.out;exact ⟨by omega,by omega⟩)])
 rw [<-hW3];clear hW3 y3 f3 hc2;go_wp2_with fail;go_ret;exact ⟨by rw [HR.out];rfl,⟨by rw [HR.out];exact HF.out.1,HSP.out⟩,HF.out.2⟩
end Go.Proofs.YtocecpghoncmgaaGreatDoor
namespace Go.Proofs.YtocecpghoncmgaaGreatDoor
open Go.RowKit Go.ChangeShapes
theorem sgAt_of {n:String} {rest:List (String×DataW Unit)} {W:World} (hg:Tryz.prog.globalNamed n=some 1)
  (h:laidMet Tryz.prog ((n,Rows.laid_pavane_expr_signs)::rest) W):SgAt W:=by
 have e:(Rows.laid_pavane_expr_signs:DataW Unit)=.agg (sgs.map λ k=>.lit (.string k)):=by kernel_rfl
 rw [e] at h;obtain ⟨ps,⟨g',t',cs,fuel,p,q,hg',ht',hvar,hd,_,_⟩,_⟩:=h;obtain rfl:=Option.some.inj (hg.symm.trans hg');obtain rfl:=Option.some.inj ((show (Tryz.prog.globals[1]?).map (·.type)=some 263 by kernel_rfl).symm.trans ht');have hcs:=cells_of_texts (n:=16) Tryz.underlying263 Tryz.underlying9 (by kernel_rfl) (by kernel_rfl) hd;unfold World.var? at hvar;rw [hg] at hvar;simp only [Option.bind_some] at hvar
 split at hvar
 ·rename_i cs' t fr hh;injection hvar with hvar;refine ⟨t,fr,?_⟩;rw [hh,hvar]
  congr 2
  apply Array.toList_inj.1;rw [hcs];rfl
 ·cases hvar
end Go.Proofs.YtocecpghoncmgaaGreatDoor
namespace Go.Proofs.YtocecpghoncmgaaGreatDoor
open Go.RowKit
theorem ndS_no {lvl:Nat} {s:Nat×Nat×Nat} {k p:Int} {nm ini dft:List UInt8} {en le:List GA} {mo:List GM} {ks:List GN} (h:(decide (s.1+1<=64)&&decide (lvl<12)&&isNm nm)=false):ndS lvl s (.mk k nm ini dft en le mo ks p)=(false,(s.1+1,s.2)):=by
 rw [ndS,if_neg (by rw [h];decide)]
theorem ndS_body {lvl:Nat} {s:Nat×Nat×Nat} {k p:Int} {nm ini dft:List UInt8} {en le:List GA} {mo:List GM} {ks:List GN} (h:(decide (s.1+1<=64)&&decide (lvl<12)&&isNm nm)=true) (hk:k=1∨k=2):ndS lvl s (.mk k nm ini dft en le mo ks p)=if dft.isEmpty=true then bdS lvl (s.1+1,s.2) ini en le mo ks else (false,(s.1+1,s.2)):=by
 rw [ndS,if_pos h,if_pos hk];rfl
theorem ndS_hist {lvl:Nat} {s:Nat×Nat×Nat} {k p:Int} {nm ini dft:List UInt8} {en le:List GA} {mo:List GM} {ks:List GN} (h:(decide (s.1+1<=64)&&decide (lvl<12)&&isNm nm)=true) (hk:k=3∨k=4):ndS lvl s (.mk k nm ini dft en le mo ks p)=(isNm dft&&(ini.isEmpty&&en.isEmpty&&le.isEmpty&&mo.isEmpty&&ks.isEmpty),(s.1+1,s.2)):=by
 rw [ndS,if_pos h,if_neg (by omega),if_pos hk]
theorem ndS_none {lvl:Nat} {s:Nat×Nat×Nat} {k p:Int} {nm ini dft:List UInt8} {en le:List GA} {mo:List GM} {ks:List GN} (h:(decide (s.1+1<=64)&&decide (lvl<12)&&isNm nm)=true) (h1:k≠1) (h2:k≠2) (h3:k≠3) (h4:k≠4):ndS lvl s (.mk k nm ini dft en le mo ks p)=(false,(s.1+1,s.2)):=by
 rw [ndS,if_pos h,if_neg (by omega),if_neg (by omega)]
theorem knode_any (w0 w:World) (b lvl:Nat) (s:Nat×Nat×Nat) (k p:Int) (nm ini dft:List UInt8) (en le:List GA) (mo:List GM) (ks:List GN) (xs:List Value) (hE:Ee w0) (h:KS w0 w b lvl s) (hb:w0.heap.size<=b) (hs:Rm s) (hx:DxsAt w0 (gNode (.mk k nm ini dft en le mo ks p)) xs) (hr:(GN.mk k nm ini dft en le mo ks p).rng) (hl:(GN.mk k nm ini dft en le mo ks p).len) (hlv:lvl<=12) (ih:lvl+1<=12->∀(i:Nat) (a:GN),ks[i]?=some a->KN w0 b (lvl+1) a) :
  Calls Tryz.prog 83 #[.pointer (some ⟨b,0,none⟩),.agg xs.toArray] w λ e w'=>e=.returned (.bool (ndS lvl s (.mk k nm ini dft en le mo ks p)).1)/\(KS w0 w' b lvl (ndS lvl s (.mk k nm ini dft en le mo ks p)).2/\((ndS lvl s (.mk k nm ini dft en le mo ks p)).1=true->Rm (ndS lvl s (.mk k nm ini dft en le mo ks p)).2))/\Mv b w w':=by
 have HSP:=h_ (λ h=>((ndS_spec (.mk k nm ini dft en le mo ks p) lvl s hs).1 h).1);have HB0:=h_ (λ (q:s.1+1<=64) (c:lvl<12) (W:World) (hk:KS w0 W b lvl (s.1+1,s.2))=>kbody_any w0 W b lvl (s.1+1,s.2) k p nm ini dft en le mo ks xs hE hk hb ⟨q,hs.2⟩ hx hr hl c (ih c));obtain ⟨A1,A2,A3,A4,c1,c2,c3,c4,rfl,_⟩:=node_v hx;rw [GN.rng] at hr;obtain ⟨hrn,hri,hrd,_⟩:=hr
 obtain ⟨N0,hN0⟩:∃N:ByteArray,(⟨nm.toArray⟩:ByteArray)=N:=⟨_,rfl⟩
 obtain ⟨I0,hI0⟩:∃N:ByteArray,(⟨ini.toArray⟩:ByteArray)=N:=⟨_,rfl⟩
 obtain ⟨D0,hD0⟩:∃N:ByteArray,(⟨dft.toArray⟩:ByteArray)=N:=⟨_,rfl⟩
 have eN:txV nm=.string N0:=by rw [<-hN0];rfl
 have eI:txV ini=.string I0:=by rw [<-hI0];rfl
 have eD:txV dft=.string D0:=by rw [<-hD0];rfl
 rw [eN,eI,eD] at HB0 ⊢
 have hNL:N0.data.toList=nm:=by rw [<-hN0]
 have hIL:I0.data.toList=ini:=by rw [<-hI0]
 have hDL:D0.data.toList=dft:=by rw [<-hD0]
 have hNS:N0.size<=140737488351232:=by
  have h1:N0.data.toList.length<=140737488351232:=by rw [hNL];exact hrn
  exact h1
 have hDS:D0.size<=140737488351232:=by
  have h1:D0.data.toList.length<=140737488351232:=by rw [hDL];exact hrd
  exact h1
 obtain ⟨q1,hq1⟩:∃q,decide (s.1+1<=64)=q:=⟨_,rfl⟩
 obtain ⟨LV,hLV⟩:∃L:Int,(lvl:Int)=L:=⟨_,rfl⟩
 obtain ⟨q2,hq2⟩:∃q,decide (LV ≥ 12)=q:=⟨_,rfl⟩
 have hq2':decide (lvl<12)=!q2:=by
  rw [<-hq2,<-hLV]
  by_cases c:lvl<12
  ·rw [decide_eq_true c,decide_eq_false (by omega)];rfl
  ·rw [decide_eq_false c,decide_eq_true (by omega)];rfl
 obtain ⟨q3,hq3⟩:∃q,isNm nm=q:=⟨_,rfl⟩
 obtain ⟨d0,hd0⟩:∃d,D0.toList.isEmpty=d:=⟨_,rfl⟩
 have hd0':dft.isEmpty=d0:=by rw [<-hd0,Lib.toList_data,hDL]
 obtain ⟨⟨qb,sb⟩,hqb⟩:∃q,bdS lvl (s.1+1,s.2) ini en le mo ks=q:=⟨_,rfl⟩
 obtain ⟨q4,hq4⟩:∃q,isNm dft=q:=⟨_,rfl⟩
 obtain ⟨X,hX⟩:∃X,ndS lvl s (.mk k nm ini dft en le mo ks p)=X:=⟨_,rfl⟩
 have HNO:=h_ (λ (c:(q1 && !q2&&q3)=false)=>ndS_no (lvl:=lvl) (s:=s) (k:=k) (p:=p) (nm:=nm) (ini:=ini) (dft:=dft) (en:=en) (le:=le) (mo:=mo) (ks:=ks) (by rw [hq1,hq2',hq3];exact c));have HBO:=h_ (λ (c:(q1 && !q2&&q3)=true) (hk:k=1∨k=2)=>ndS_body (lvl:=lvl) (s:=s) (p:=p) (nm:=nm) (ini:=ini) (dft:=dft) (en:=en) (le:=le) (mo:=mo) (ks:=ks) (by rw [hq1,hq2',hq3];exact c) hk);have HHI:=h_ (λ (c:(q1 && !q2&&q3)=true) (hk:k=3∨k=4)=>ndS_hist (lvl:=lvl) (s:=s) (p:=p) (nm:=nm) (ini:=ini) (dft:=dft) (en:=en) (le:=le) (mo:=mo) (ks:=ks) (by rw [hq1,hq2',hq3];exact c) hk);have HNN:=h_ (λ (c:(q1 && !q2&&q3)=true) h1 h2 h3 h4=>ndS_none (k:=k) (lvl:=lvl) (s:=s) (p:=p) (nm:=nm) (ini:=ini) (dft:=dft) (en:=en) (le:=le) (mo:=mo) (ks:=ks) (by rw [hq1,hq2',hq3];exact c) h1 h2 h3 h4);rw [hX] at HNO HSP ⊢;rw [hX,hd0',hqb] at HBO
 have hbl:(ini.isEmpty&&en.isEmpty&&le.isEmpty&&mo.isEmpty&&ks.isEmpty)=(I0.toList.isEmpty&&((en.length:Int)==0)&&((le.length:Int)==0)&&((mo.length:Int)==0)&&((ks.length:Int)==0)):=by
  rw [Lib.toList_data,hIL,len_beq en,len_beq le,len_beq mo,len_beq ks]
 obtain ⟨n1,hn1⟩:∃n,en.length=n:=⟨_,rfl⟩
 obtain ⟨n2,hn2⟩:∃n,le.length=n:=⟨_,rfl⟩
 obtain ⟨n3,hn3⟩:∃n,mo.length=n:=⟨_,rfl⟩
 obtain ⟨n4,hn4⟩:∃n,ks.length=n:=⟨_,rfl⟩
 rw [hn1,hn2,hn3,hn4] at hbl HB0 ⊢
 obtain ⟨q5,hq5⟩:∃q:Bool,(I0.toList.isEmpty&&((n1:Int)==0)&&((n2:Int)==0)&&((n3:Int)==0)&&((n4:Int)==0))=q:=⟨_,rfl⟩
 rw [hX,hq4,hbl,hq5] at HHI;rw [hX] at HNN
 obtain ⟨K,hK⟩:∃K,k=K:=⟨_,rfl⟩
 have hkd:K=1∨K=2∨K=3∨K=4∨(K≠1/\K≠2/\K≠3/\K≠4):=by omega
 rw [hK] at HB0 HBO HHI HNN ⊢
 obtain ⟨W1,hW1⟩:∃W,W=w.alloc (.cells #[.int .i64 K,.string N0,.string I0,.string D0,.slice A1 n1 c1,.slice A2 n2 c2,.slice A3 n3 c3,.slice A4 n4 c4,.int .i64 p] 27):=⟨_,rfl⟩
 obtain ⟨g1,hg1⟩:∃g,g=w.heap.size:=⟨_,rfl⟩
 have hal:Below w.heap.size w W1:=by rw [hW1];exact (b_ _ w).alloc (n_ _) _
 have hc1:CB W1 g1 27 [.int .i64 K,.string N0,.string I0,.string D0,.slice A1 n1 c1,.slice A2 n2 c2,.slice A3 n3 c3,.slice A4 n4 c4,.int .i64 p]:=by rw [hW1,hg1];exact CB.new w _ [.int .i64 K,.string N0,.string I0,.string D0,.slice A1 n1 c1,.slice A2 n2 c2,.slice A3 n3 c3,.slice A4 n4 c4,.int .i64 p]
 have hk1:KS w0 W1 b lvl s:=h.below hal
 have hgb:g1≠b:=by have:=h.2.lt;rw [hg1];exact λ e=>by omega
 obtain ⟨W2,hW2⟩:∃W,W=W1.setCell ⟨b,0,none⟩ (.int .i64 ((s.1+1:Nat):Int)):=⟨_,rfl⟩
 have hk2:KS w0 W2 b lvl (s.1+1,s.2):=by
  rw [hW2];exact KS.set0 (n:=s.1) (m:=s.2.1) (a:=s.2.2) hk1 hb _
 have HC2:Hid (CB W2 g1 27 [.int .i64 K,.string N0,.string I0,.string D0,.slice A1 n1 c1,.slice A2 n2 c2,.slice A3 n3 c3,.slice A4 n4 c4,.int .i64 p]):=by rw [hW2];exact hc1.other hgb 0 _
 have HK2:=h_ (And.intro hk2 (show Mv b w W2 from by rw [hW2];exact (Mv.of_below b hal).trans ((Mv.refl b W1).set 0 _)));have HCN:=h_ (kcount_any W1 b 0 s.1 1 64 (hk1.2.c 0 rfl) (hk1.2.fr 0) (by have:=hs.1;omega));rw [hq1,<-hW2] at HCN;have HNM:=h_ (name_any N0 W2 hNS (hE.below hk2.1).vr.kw);rw [hNL,hq3] at HNM;have HDN:=h_ (name_any D0 W2 hDS (hE.below hk2.1).vr.kw);rw [hDL,hq4] at HDN
 have HBD:Hid (q1=true->q2=false->Calls Tryz.prog 139 #[.pointer (some ⟨b,0,none⟩),.agg #[.int .i64 K,.string N0,.string I0,.string D0,.slice A1 n1 c1,.slice A2 n2 c2,.slice A3 n3 c3,.slice A4 n4 c4,.int .i64 p]] W2 λ e w'=>e=.returned (.bool qb)/\(KS w0 w' b lvl sb)/\Mv b w w'):=λ c1 c2=>by
  have z:=HB0.out (by rw [<-hq1] at c1;exact of_decide_eq_true c1) (by rw [c2] at hq2';exact of_decide_eq_true hq2') W2 hk2;rw [hqb] at z;refine Calls.mono z ?_;rintro e w' ⟨rfl,hk,hm⟩;exact ⟨rfl,hk.1,HK2.out.2.trans hm⟩
 have HBL:=h_ (bodiless_any W2 K p N0 I0 D0 A1 A2 A3 A4 n1 n2 n3 n4 c1 c2 c3 c4);rw [hq5] at HBL;have x3:=HK2.out.1.2.c 3 rfl;have z0:=HC2.out.c 0 rfl;have z1:=HC2.out.c 1 rfl;have z2:=HC2.out.c 2 rfl;have z3:=HC2.out.c 3 rfl;have z4:=HC2.out.c 4 rfl;have z5:=HC2.out.c 5 rfl;have z6:=HC2.out.c 6 rfl;have z7:=HC2.out.c 7 rfl;have z8:=HC2.out.c 8 rfl;rw [hLV] at x3;have HDD:=h_ (And.intro hX (And.intro hq1 (And.intro hq3 (And.intro hq4 hqb))));clear HB0 hx hE h hb hs hl hlv ih hrn hri hrd hN0 hI0 hD0 eN eI eD hNL hIL hDL hNS hDS hq1 hq2' hq3 hq4 hq5 hqb hd0' hbl hn1 hn2 hn3 hn4 hK hX hal hc1 hk1 hk2 hW2 hgb hLV;go_enter Tryz.func83,Tryz.ntmps83;go_upto_region 1 with fail;rw [<-hW1,<-hg1];clear hW1 hg1;cases q1
 ·clear hq2 hd0;go_wp2_with fail;refine HCN.out.mono ?_;rintro e w2 ⟨rfl,rfl⟩;go_wp2_with fail;go_ret;exact ⟨by rw [HNO.out rfl];rfl,⟨by rw [HNO.out rfl];exact HK2.out.1,HSP.out⟩,HK2.out.2⟩
 ·cases q2
  ·cases q3
   ·clear hd0;go_wp2_with fail;refine HCN.out.mono ?_;rintro e w2 ⟨rfl,rfl⟩;go_wp2_with fail;refine HNM.out.mono ?_;rintro e w3 ⟨rfl,rfl⟩;go_wp2_with fail;go_ret;exact ⟨by rw [HNO.out rfl];rfl,⟨by rw [HNO.out rfl];exact HK2.out.1,HSP.out⟩,HK2.out.2⟩
   ·rcases hkd with rfl|rfl|rfl|rfl|⟨k1,k2,k3,k4⟩
    ·cases d0
     ·go_wp2_with fail;refine HCN.out.mono ?_;rintro e w2 ⟨rfl,rfl⟩;go_wp2_with fail;refine HNM.out.mono ?_;rintro e w3 ⟨rfl,rfl⟩;go_wp2_with fail;go_ret;exact ⟨by rw [HBO.out (by simp) (by simp)];rfl,⟨by rw [HBO.out (by simp) (by simp)];exact HK2.out.1,HSP.out⟩,HK2.out.2⟩
     ·go_wp2_with fail;refine HCN.out.mono ?_;rintro e w2 ⟨rfl,rfl⟩;go_wp2_with fail;refine HNM.out.mono ?_;rintro e w3 ⟨rfl,rfl⟩;go_wp2_with fail;refine (HBD.out (by simp) (by simp)).mono ?_;rintro e w4 ⟨rfl,hk,hm⟩;have HF:=h_ (And.intro hk hm);clear hk hm HBD HDN HBL HNM HCN;go_wp2_with fail;go_ret;exact ⟨by rw [HBO.out (by simp) (by simp)];rfl,⟨by rw [HBO.out (by simp) (by simp)];exact HF.out.1,HSP.out⟩,HF.out.2⟩
    ·cases d0
     ·go_wp2_with fail;refine HCN.out.mono ?_;rintro e w2 ⟨rfl,rfl⟩;go_wp2_with fail;refine HNM.out.mono ?_;rintro e w3 ⟨rfl,rfl⟩;go_wp2_with fail;go_ret;exact ⟨by rw [HBO.out (by simp) (by simp)];rfl,⟨by rw [HBO.out (by simp) (by simp)];exact HK2.out.1,HSP.out⟩,HK2.out.2⟩
     ·go_wp2_with fail;refine HCN.out.mono ?_;rintro e w2 ⟨rfl,rfl⟩;go_wp2_with fail;refine HNM.out.mono ?_;rintro e w3 ⟨rfl,rfl⟩;go_wp2_with fail;refine (HBD.out (by simp) (by simp)).mono ?_;rintro e w4 ⟨rfl,hk,hm⟩;have HF:=h_ (And.intro hk hm);clear hk hm HBD HDN HBL HNM HCN;go_wp2_with fail;go_ret;exact ⟨by rw [HBO.out (by simp) (by simp)];rfl,⟨by rw [HBO.out (by simp) (by simp)];exact HF.out.1,HSP.out⟩,HF.out.2⟩
    ·clear hd0;cases q4
     ·go_wp2_with fail;refine HCN.out.mono ?_;rintro e w2 ⟨rfl,rfl⟩;go_wp2_with fail;refine HNM.out.mono ?_;rintro e w3 ⟨rfl,rfl⟩;go_wp2_with fail;refine HDN.out.mono ?_;rintro e w4 ⟨rfl,rfl⟩;go_wp2_with fail;go_ret;exact ⟨by rw [HHI.out (by simp) (by simp)];rfl,⟨by rw [HHI.out (by simp) (by simp)];exact HK2.out.1,HSP.out⟩,HK2.out.2⟩
     ·go_wp2_with fail;refine HCN.out.mono ?_;rintro e w2 ⟨rfl,rfl⟩;go_wp2_with fail;refine HNM.out.mono ?_;rintro e w3 ⟨rfl,rfl⟩;go_wp2_with fail;refine HDN.out.mono ?_;rintro e w4 ⟨rfl,rfl⟩;go_wp2_with fail;refine HBL.out.mono ?_;rintro e w5 ⟨rfl,hb⟩;have HF:=h_ (And.intro (HK2.out.1.below hb) (HK2.out.2.trans (Mv.of_below b hb)));clear hb HBD HDN HBL HNM HCN;go_wp2_with fail;go_ret;exact ⟨by rw [HHI.out (by simp) (by simp)];rfl,⟨by rw [HHI.out (by simp) (by simp)];exact HF.out.1,HSP.out⟩,HF.out.2⟩
    ·clear hd0;cases q4
     ·go_wp2_with fail;refine HCN.out.mono ?_;rintro e w2 ⟨rfl,rfl⟩;go_wp2_with fail;refine HNM.out.mono ?_;rintro e w3 ⟨rfl,rfl⟩;go_wp2_with fail;refine HDN.out.mono ?_;rintro e w4 ⟨rfl,rfl⟩;go_wp2_with fail;go_ret;exact ⟨by rw [HHI.out (by simp) (by simp)];rfl,⟨by rw [HHI.out (by simp) (by simp)];exact HK2.out.1,HSP.out⟩,HK2.out.2⟩
     ·go_wp2_with fail;refine HCN.out.mono ?_;rintro e w2 ⟨rfl,rfl⟩;go_wp2_with fail;refine HNM.out.mono ?_;rintro e w3 ⟨rfl,rfl⟩;go_wp2_with fail;refine HDN.out.mono ?_;rintro e w4 ⟨rfl,rfl⟩;go_wp2_with fail;refine HBL.out.mono ?_;rintro e w5 ⟨rfl,hb⟩;have HF:=h_ (And.intro (HK2.out.1.below hb) (HK2.out.2.trans (Mv.of_below b hb)));clear hb HBD HDN HBL HNM HCN;go_wp2_with fail;go_ret;exact ⟨by rw [HHI.out (by simp) (by simp)];rfl,⟨by rw [HHI.out (by simp) (by simp)];exact HF.out.1,HSP.out⟩,HF.out.2⟩
    ·clear hd0;go_wp2_with fail;refine HCN.out.mono ?_;rintro e w2 ⟨rfl,rfl⟩;go_wp2_with fail;refine HNM.out.mono ?_;rintro e w3 ⟨rfl,rfl⟩;go_wp2_with fail;go_ret;exact ⟨by rw [HNN.out (by simp) (by simpa using k1) (by simpa using k2) (by simpa using k3) (by simpa using k4)];rfl,⟨by rw [HNN.out (by simp) (by simpa using k1) (by simpa using k2) (by simpa using k3) (by simpa using k4)];exact HK2.out.1,HSP.out⟩,HK2.out.2⟩
  ·clear hd0;go_wp2_with fail;refine HCN.out.mono ?_;rintro e w2 ⟨rfl,rfl⟩;go_wp2_with fail;go_ret;exact ⟨by rw [HNO.out rfl];rfl,⟨by rw [HNO.out rfl];exact HK2.out.1,HSP.out⟩,HK2.out.2⟩
theorem kn_all (w0:World) (b:Nat) (hE:Ee w0) (hb:w0.heap.size<=b):∀(d lvl:Nat) (x:GN),lvl+d=12->KN w0 b lvl x
 |0,lvl,.mk k nm ini dft en le mo ks p=>λ hd w s xs h hs hx hr hl hlv=>knode_any w0 w b lvl s k p nm ini dft en le mo ks xs hE h hb hs hx hr hl hlv (λ c=>absurd c (by omega))
 |d+1,lvl,.mk k nm ini dft en le mo ks p=>λ hd w s xs h hs hx hr hl hlv=>knode_any w0 w b lvl s k p nm ini dft en le mo ks xs hE h hb hs hx hr hl hlv (λ _ _ a _=>kn_all w0 b hE hb d (lvl+1) a (by omega))
end Go.Proofs.YtocecpghoncmgaaGreatDoor
namespace Go.Proofs.YtocecpghoncmgaaGreatDoor
open Go.RowKit
theorem istree_any (w:World) (c:GC) (xs:List Value) (hE:Ee w) (hx:DxsAt w (gChart c) xs) (hr:c.rng) (hl:c.root.len) :
  Calls Tryz.prog 42 #[.agg xs.toArray] w λ e w'=>e=.returned (.bool (okC c))/\Below w.heap.size w w':=by
 have HR0:=h_ (okC_of c)
 obtain ⟨X,hX⟩:∃X,okC c=X:=⟨_,rfl⟩
 rw [hX] at HR0 ⊢;clear hX;obtain ⟨vs,k,nm,ini,dft,en,le,mo,ks,p⟩:=c;obtain ⟨hrv,hrn⟩:=hr;simp only at hrv hrn hl HR0;unfold gChart at hx;obtain ⟨vx,xs,rfl,dv,dn⟩:=hx.uncons;have HND0:=λ (b:Nat) (W:World) (hb:w.heap.size<=b) (hk:KS w W b 0 (0,0,0))=>kn_all w b hE hb 12 0 (.mk k nm ini dft en le mo ks p) rfl W (0,0,0) xs hk ⟨by decide,by decide,by decide⟩ dn hrn hl (by omega);obtain ⟨A1,A2,A3,A4,c1,c2,c3,c4,rfl,_⟩:=node_v dn;obtain ⟨A0,c0,rfl,hc1,hc2⟩:=DxAt.slice (show DxAt w (.row 73 3 vs.length (vs.flatMap dvVar)) vx from dv)
 have hml:vs.length<=9223372036854775807:=by
  have:maxLen<=9223372036854775807:=by decide
  omega
 obtain ⟨N0,hN⟩:=str_of nm;obtain ⟨I0,hI⟩:=str_of ini;obtain ⟨D0,hD⟩:=str_of dft;rw [hN,hI,hD] at HND0 ⊢
 obtain ⟨q1,hq1⟩:∃q,decide (vs.length<=16)=q:=⟨_,rfl⟩
 obtain ⟨q2,hq2⟩:∃q,vs.all okV=q:=⟨_,rfl⟩
 obtain ⟨⟨q4,s4⟩,hq4⟩:∃q,ndS 0 (0,0,0) (.mk k nm ini dft en le mo ks p)=q:=⟨_,rfl⟩
 rw [hq4] at HND0
 obtain ⟨n0,hn0⟩:∃n,vs.length=n:=⟨_,rfl⟩
 obtain ⟨n1,hn1⟩:∃n,en.length=n:=⟨_,rfl⟩
 obtain ⟨n2,hn2⟩:∃n,le.length=n:=⟨_,rfl⟩
 obtain ⟨n3,hn3⟩:∃n,mo.length=n:=⟨_,rfl⟩
 obtain ⟨n4,hn4⟩:∃n,ks.length=n:=⟨_,rfl⟩
 obtain ⟨LV,hLV⟩:∃L:Int,(n0:Int)=L:=⟨_,rfl⟩
 have hq1':decide (LV<=16)=q1:=by
  rw [<-hq1,<-hLV,hn0]
  by_cases z:n0<=16
  ·rw [decide_eq_true z,decide_eq_true (by omega)]
  ·rw [decide_eq_false z,decide_eq_false (by omega)]
 obtain ⟨q3,hq3⟩:∃q:Bool,(k==1)=q:=⟨_,rfl⟩
 have hq3':decide (k=1)=q3:=by rw [dec_beq];exact hq3
 have HR:Hid (X=(q1&&q2&&q3&&q4)):=by
  show _=_;rw [HR0.out,hq1,hq2,hq4,<-hq3'];rfl
 obtain ⟨K,hK⟩:∃K,k=K:=⟨_,rfl⟩
 rw [hn1,hn2,hn3,hn4,hK] at HND0;rw [hK] at hq3;rw [hn0,hn1,hn2,hn3,hn4,hK]
 obtain ⟨W1,hW1⟩:∃W,W=w.alloc (.cells #[.slice A0 n0 c0,.int .i64 K,.string N0,.string I0,.string D0,.slice A1 n1 c1,.slice A2 n2 c2,.slice A3 n3 c3,.slice A4 n4 c4,.int .i64 p] 29):=⟨_,rfl⟩
 obtain ⟨g1,hg1⟩:∃g,g=w.heap.size:=⟨_,rfl⟩
 have hal:Below w.heap.size w W1:=by rw [hW1];exact (b_ _ w).alloc (n_ _) _
 have HX:Hid (CB W1 g1 29 [.slice A0 n0 c0,.int .i64 K,.string N0,.string I0,.string D0,.slice A1 n1 c1,.slice A2 n2 c2,.slice A3 n3 c3,.slice A4 n4 c4,.int .i64 p]):=by rw [hW1,hg1];exact CB.new w _ [.slice A0 n0 c0,.int .i64 K,.string N0,.string I0,.string D0,.slice A1 n1 c1,.slice A2 n2 c2,.slice A3 n3 c3,.slice A4 n4 c4,.int .i64 p]
 have HB:=h_ hal;have HV0:=everyV_any W1 vs A0 c0 n0 hn0 (by omega) (by rw [<-hn0];exact allV_of dv hE hrv hal);rw [hq2] at HV0;have HV:=h_ HV0;have HND:=h_ HND0
 have SEE:Hid (∀W,Below W1.heap.size W1 W->W.cell? ⟨g1,0,none⟩=some (.slice A0 n0 c0)/\W.cell? ⟨g1,1,none⟩=some (.int .i64 K)/\W.cell? ⟨g1,2,none⟩=some (.string N0)/\W.cell? ⟨g1,3,none⟩=some (.string I0)/\W.cell? ⟨g1,4,none⟩=some (.string D0)/\W.cell? ⟨g1,5,none⟩=some (.slice A1 n1 c1)/\W.cell? ⟨g1,6,none⟩=some (.slice A2 n2 c2)/\W.cell? ⟨g1,7,none⟩=some (.slice A3 n3 c3)/\W.cell? ⟨g1,8,none⟩=some (.slice A4 n4 c4)/\W.cell? ⟨g1,9,none⟩=some (.int .i64 p)):=λ W hb=>by
  have z:=HX.out.below hb;exact ⟨z.c 0 rfl,z.c 1 rfl,z.c 2 rfl,z.c 3 rfl,z.c 4 rfl,z.c 5 rfl,z.c 6 rfl,z.c 7 rfl,z.c 8 rfl,z.c 9 rfl⟩
 have hLW:w.heap.size<=W1.heap.size:=hal.size;clear HR0 HND0 HV0 hE hrv hrn hl dv dn hN hI hD hc1 hc2 hml hq1 hq2 hq4 hn0 hn1 hn2 hn3 hn4 hq3' hK hal hx;go_enter Tryz.func42,Tryz.ntmps42;go_upto_region 1 with fail;rw [<-hW1,<-hg1];clear hW1 hg1;have HLW:=h_ hLW;clear hLW;obtain ⟨y0,y1,y2,y3,y4,y5,y6,y7,y8,y9⟩:=SEE.out W1 (b_ _ W1);cases q1
 ·go_wp2_with fail;go_ret;exact ⟨by rw [HR.out];rfl,HB.out⟩
 ·cases q2
  ·go_wp2_with fail;refine HV.out.mono ?_;rintro e w2 ⟨rfl,hb⟩;have HF:=h_ hb;obtain ⟨z0,z1,z2,z3,z4,z5,z6,z7,z8,z9⟩:=SEE.out w2 hb;clear hb HV y0 y1 y2 y3 y4 y5 y6 y7 y8 y9;go_wp2_with fail;go_ret;exact ⟨by rw [HR.out];rfl,HB.out.trans (HF.out.mono HLW.out)⟩
  ·cases q3
   ·go_wp2_with fail;refine HV.out.mono ?_;rintro e w2 ⟨rfl,hb⟩;have HF:=h_ hb;obtain ⟨z0,z1,z2,z3,z4,z5,z6,z7,z8,z9⟩:=SEE.out w2 hb;clear hb HV y0 y1 y2 y3 y4 y5 y6 y7 y8 y9;go_wp2_with fail;go_ret;exact ⟨by rw [HR.out];rfl,HB.out.trans (HF.out.mono HLW.out)⟩
   ·go_wp2_with fail;refine HV.out.mono ?_;rintro e w2 ⟨rfl,hb⟩;have HF:=h_ hb;obtain ⟨z0,z1,z2,z3,z4,z5,z6,z7,z8,z9⟩:=SEE.out w2 hb;clear hb HV y0 y1 y2 y3 y4 y5 y6 y7 y8 y9
    obtain ⟨W3,hW3⟩:∃W,W=w2.alloc (.cells #[.int .i64 0,.int .i64 0,.int .i64 0,.int .i64 0] 150):=⟨_,rfl⟩
    obtain ⟨g3,hg3⟩:∃g,g=w2.heap.size:=⟨_,rfl⟩
    have HK3:Hid (Below W1.heap.size W1 W3/\W1.heap.size<=g3/\KS w W3 g3 0 (0,0,0)):=by
     have hb3:Below W1.heap.size W1 W3:=by rw [hW3];exact HF.out.trans ((b_ _ w2).alloc (by have:=HF.out.size;omega) _)
     refine ⟨hb3,?_,HB.out.trans (hb3.mono HLW.out),?_⟩
     ·have:=HF.out.size;rw [hg3];omega
     ·rw [hW3,hg3];exact CB.new w2 _ [.int .i64 0,.int .i64 0,.int .i64 0,.int .i64 0]
    obtain ⟨u0,u1,u2,u3,u4,u5,u6,u7,u8,u9⟩:=SEE.out W3 HK3.out.1;rw [hW3] at u0 u1 u2 u3 u4 u5 u6 u7 u8 u9;go_wp2_with fail;rw [<-hW3,<-hg3];clear hW3 hg3 u0 u1 u2 u3 u4 u5 u6 u7 u8 u9;refine (HND.out g3 W3 (Nat.le_trans HLW.out HK3.out.2.1) HK3.out.2.2).mono ?_;rintro e w4 ⟨rfl,hk,hm⟩;have HF4:=h_ (hm.belowB HK3.out.1 HK3.out.2.1 HK3.out.1.size);clear hk hm HND HK3;go_wp2_with fail;go_ret;exact ⟨by rw [HR.out];rfl,HB.out.trans (HF4.out.mono HLW.out)⟩
end Go.Proofs.YtocecpghoncmgaaGreatDoor
namespace Go.Proofs.YtocecpghoncmgaaGreatDoor
open Go.RowKit
def WC (w:World) (B b:Nat) (l:List UInt8) (n:Nat) (d:ByteArray):Prop :=
 B<=b/\∃p v,(p=Value.pointer none∨p=.pointer (some ⟨b,0,none⟩))/\w.heap[b]?=some (.cells #[p,v,.int .i64 (n:Int),.string d] 101 (0,0)) /\
  w.ownsRow B 5 1 v l.length (Lib.byteCells l)/\v.ownBlock≠some b
section
variable {w w':World} {B b:Nat} {l:List UInt8} {n:Nat} {d:ByteArray}
theorem WC.lt (h:WC w B b l n d):b<w.heap.size:=by
 obtain ⟨_,p,v,_,hb,_⟩:=h;exact heap_lt hb
theorem WC.c2 (h:WC w B b l n d):w.cell? ⟨b,2,none⟩=some (.int .i64 (n:Int)):=by
 obtain ⟨_,p,v,_,hb,_⟩:=h;rw [Lib.cell_of_heap hb];rfl
theorem WC.c3 (h:WC w B b l n d):w.cell? ⟨b,3,none⟩=some (.string d):=by
 obtain ⟨_,p,v,_,hb,_⟩:=h;rw [Lib.cell_of_heap hb];rfl
theorem WC.fr (h:WC w B b l n d) (i:Nat):w.frozen? ⟨b,i,none⟩=false:=by
 obtain ⟨_,p,v,_,hb,_⟩:=h;exact Lib.frozen_of_heap hb i
theorem WC.set2 (h:WC w B b l n d) (n':Nat):WC (w.setCell ⟨b,2,none⟩ (.int .i64 (n':Int))) B b l n' d:=by
 obtain ⟨hB,p,v,hp,hb,ho,hne⟩:=h;exact ⟨hB,p,v,hp,heap_setCell_same w b 2 _ _ _ hb,owns_set ho hne,hne⟩
theorem WC.set3 (h:WC w B b l n d) (d':ByteArray):WC (w.setCell ⟨b,3,none⟩ (.string d')) B b l n d':=by
 obtain ⟨hB,p,v,hp,hb,ho,hne⟩:=h;exact ⟨hB,p,v,hp,heap_setCell_same w b 3 _ _ _ hb,owns_set ho hne,hne⟩
theorem WC.used (h:WC w B b l n d):WC (w.setCell ⟨b,0,none⟩ (.pointer (some ⟨b,0,none⟩))) B b l n d:=by
 obtain ⟨hB,p,v,hp,hb,ho,hne⟩:=h;exact ⟨hB,_,v,.inr rfl,heap_setCell_same w b 0 _ _ _ hb,owns_set ho hne,hne⟩
theorem WC.below {u:World} (h:WC w B b l n d) (hb':Below w.heap.size w u):WC u B b l n d:=by
 have hlt:=h.lt;obtain ⟨hB,p,v,hp,hb,ho,hne⟩:=h;refine ⟨hB,p,v,hp,(hb'.block b hlt).trans hb,?_,hne⟩;refine ⟨ho.1,?_⟩;rcases ho.2 with hh|⟨g,cap,cur,h1,h2,h3,h4⟩
 ·exact .inl hh
 ·exact .inr ⟨g,cap,cur,h1,h2,(hb'.block g (heap_lt h3)).trans h3,h4⟩
end
theorem WC.put {w:World} {B b:Nat} {l':List UInt8} {n:Nat} {d:ByteArray} {p v v':Value} (hB:B<=b) (hp:p=Value.pointer none∨p=.pointer (some ⟨b,0,none⟩)) (hb:w.heap[b]?=some (.cells #[p,v,.int .i64 (n:Int),.string d] 101 (0,0)))
  (ho:w.ownsRow B 5 1 v' l'.length (Lib.byteCells l')):WC (w.setCell ⟨b,1,none⟩ v') B b l' n d:=by
 have hne:=Lib.ownBlock_ne ho hb (by decide);exact ⟨hB,p,v',hp,heap_setCell_same w b 1 _ _ _ hb,owns_set ho hne,hne⟩
theorem WC.new (w:World):WC (w.alloc (.cells #[.pointer none,.slice none 0 0,.int .i64 0,.string ⟨#[]⟩] 101)) w.heap.size w.heap.size [] 0 ⟨#[]⟩ :=
 ⟨n_ _,_,_,.inl rfl,heap_alloc_new w _,World.ownsRow_nil _ _ _ _,by simp [Value.ownBlock]⟩
set_option maxRecDepth 100000 in
theorem pcheck_any (w:World) (B b:Nat) (l:List UInt8) (n:Nat) (d:ByteArray) (h:WC w B b l n d) :
  Calls Tryz.prog 283 #[.pointer (some ⟨b,0,none⟩)] w λ e w'=>e=.returned (.tuple #[])/\WC w' B b l n d/\Wk B b w w':=by
 have HW:=h_ h;obtain ⟨hB,p,v,hp,hb,_,_⟩:=h
 have h0:w.cell? ⟨b,0,none⟩=some p:=by rw [Lib.cell_of_heap hb];rfl
 have hfr:=HW.out.fr 0
 have hsh:w.shape? b=some (101,4):=by simp [World.shape?,hb]
 obtain ⟨j,hj,hjs⟩:=Option.map_eq_some_iff.1 (show (Tryz.prog.info? 99).map (·.size)=some 2 by kernel_rfl)
 have HL:liesAt Tryz.prog Tryz.prog.depth 101 (4 / Tryz.prog.cellsOf 101) 0 99 1=true:=by kernel_rfl
 clear hb;rcases hp with rfl|rfl
 ·go_enter Tryz.func283,Tryz.ntmps283
  go_wp2
  rw [Lib.run_to_unsafe w ⟨b,0,none⟩ Tryz.underlying96 Tryz.underlying313 hj (by rw [hjs];decide) hsh (Nat.zero_lt_succ 3)];simp only [Result.andThen];rw [Oper.upon_value]
  go_wp2
  rw [run_callFunc_extern Tryz.func313 (by kernel_rfl) (by kernel_rfl) (by kernel_rfl) (e:=Extern.AbiNoEscape.same) (by kernel_rfl)];rw [Lib.run_noEscape];simp only [Result.andThen];rw [Oper.upon_value]
  go_wp2
  rw [Lib.run_from_unsafe w ⟨b,0,none⟩ Tryz.underlying313 Tryz.underlying96 hj hsh HL];simp only [Result.andThen];rw [Oper.upon_value]
  go_wp2
  go_end0;exact ⟨rfl,HW.out.used,Wk.set hB 0 _⟩
 ·go_enter Tryz.func283,Tryz.ntmps283
  go_wp2
  rw [Lib.run_neq_ptr_same w _ Tryz.underlying96 hj]
  go_wp2
  go_end0;exact ⟨rfl,HW.out,Wk.refl B b w⟩
set_option maxRecDepth 100000 in
theorem pblen_any (w:World) (B b:Nat) (l:List UInt8) (n:Nat) (d:ByteArray) (h:WC w B b l n d) :
  Calls Tryz.prog 44 #[.pointer (some ⟨b,0,none⟩)] w λ e w'=>e=.returned (.int .i64 l.length)/\w'=w:=by
 obtain ⟨hB,p,v,hp,hb,hown,_⟩:=h
 obtain ⟨ao,cap,rfl⟩:∃ao cap,v=.slice ao l.length cap:=by
  rcases hown.2 with ⟨hv,h0⟩|⟨g,cap,cur,hv,_⟩
  ·exact ⟨none,0,by rw [hv,h0]⟩
  ·exact ⟨_,_,hv⟩
 have c1:w.cell? ⟨b,1,none⟩=some (.slice ao l.length cap):=by rw [Lib.cell_of_heap hb];rfl
 clear hb hown hp;go_enter Tryz.func44,Tryz.ntmps44
 go_wp2
 go_ret;exact ⟨rfl,rfl⟩
set_option maxRecDepth 100000 in
theorem pbwrite_any (w:World) (B b:Nat) (l:List UInt8) (n:Nat) (d:ByteArray) (s:ByteArray) (h:WC w B b l n d) (hlen:l.length+s.size<=140737488355328) (hBw:B<=w.heap.size) :
  Calls Tryz.prog 247 #[.pointer (some ⟨b,0,none⟩),.string s] w λ e w'=>e=.returned (.tuple #[.int .i64 s.size,.nilIface])/\WC w' B b (l++s.data.toList) n d/\Wk B b w w':=by
 obtain ⟨i0,hi,hz0,hz1,hz2⟩:=info_parts (show (Tryz.prog.info? 5).map (λ i=>(i.zero,i.size,i.bytes))=some (some (.int .u8 0),1,1) by kernel_rfl);have HC:=h_ (pcheck_any w B b l n d h);clear h;go_enter Tryz.func247,Tryz.ntmps247;go_wp2_with (go_at_call 283;refine HC.out.mono ?_);rintro e w1 ⟨rfl,h1,hb1⟩;obtain ⟨hB,p,v,hp,hbk,hown,hne⟩:=h1
 have c0:w1.cell? ⟨b,0,none⟩=some p:=by rw [Lib.cell_of_heap hbk];rfl
 have c1:w1.cell? ⟨b,1,none⟩=some v:=by rw [Lib.cell_of_heap hbk];rfl
 go_wp2_with (at_builtin;refine Lib.wpList_append_own_string _ rfl _ _ 97 9 rfl B 5 i0 Tryz.underlying97 Tryz.underlying9 hi hz0 hz1 hz2 _ _ _ rfl hown s rfl ?c3 ?c4 ?c5 ?_)
 case c3=>unfold maxLen;omega
 case c4=>omega
 case c5=>have:=hb1.size;omega
 intro v' w2 hown' hgrow _;have hlt:b<w1.heap.size:=heap_lt hbk
 have hb2:w2.heap[b]?=some (.cells #[p,v,.int .i64 (n:Int),.string d] 101 (0,0)):=by
  rw [hgrow.block b hlt (λ e=>hne e.symm)];exact hbk
 have d0:w2.cell? ⟨b,0,none⟩=some p:=by rw [Lib.cell_of_heap hb2];rfl
 have d1:w2.cell? ⟨b,1,none⟩=some v:=by rw [Lib.cell_of_heap hb2];rfl
 have f1:w2.frozen? ⟨b,1,none⟩=false:=Lib.frozen_of_heap hb2 1
 obtain ⟨ao,n',cap,rfl⟩:∃ao n' cap,v'=.slice ao n' cap:=by
  rcases hown'.2 with ⟨hv,_⟩|⟨g,cap,cur,hv,_⟩
  ·exact ⟨_,_,_,hv⟩
  ·exact ⟨_,_,_,hv⟩
 go_wp2
 go_ret2;refine ⟨rfl,?_,?_⟩
 ·refine WC.put hB hp hb2 ?_;rw [Lib.byteCells_append,List.length_append];exact hown'
 ·refine hb1.trans (Wk.trans ⟨(b_ B w1).grown hgrow (by have:=hb1.size;omega) (λ k hk=>(hown.lt k hk).1),λ g cs T fr hg hn ht=>?_⟩ (Wk.set hB 1 _));rw [hgrow.block g (heap_lt hg) (λ e=>?_)]
  ·exact hg
  ·rcases hown.2 with ⟨rfl,_⟩|⟨g',cap',cur,rfl,_,hg',_⟩
   ·simp [Value.ownBlock] at e
   ·simp only [Value.ownBlock,j_] at e;subst e;rw [hg'] at hg;injection hg with hg;injection hg with _ hT _;exact ht hT.symm
set_option maxRecDepth 100000 in
theorem pbstring_any (w:World) (B b:Nat) (l:List UInt8) (n:Nat) (d:ByteArray) (h:WC w B b l n d) (h0:l≠[]) :
  Calls Tryz.prog 45 #[.pointer (some ⟨b,0,none⟩)] w λ e w'=>e=.returned (.string ⟨l.toArray⟩)/\Below B w w':=by
 obtain ⟨hB,p,v,hp,hbk,hown,hne⟩:=h
 have hl0:l.length≠0:=by simpa using h0
 obtain ⟨g,cap,cur,rfl,hbg,hg,hnc,hcm,hcs,htake⟩:∃g cap cur,v=.slice (some ⟨g,0,none⟩) l.length cap/\B<=g/\w.heap[g]?=some (.cells cur 5 (0,0))/\l.length<=cap/\cap<=maxLen/\cur.size=cap*1/\cur.toList.take (l.length*1)=Lib.byteCells l:=by
  rcases hown.2 with ⟨_,hz⟩|⟨g,cap,cur,hv,r⟩
  ·exact absurd hz hl0
  ·exact ⟨g,cap,cur,hv,r⟩
 have c1:w.drew.cell? ⟨b,1,none⟩=some (.slice (some ⟨g,0,none⟩) l.length cap):=by
  have:w.drew.heap[b]?=some (.cells #[p,.slice (some ⟨g,0,none⟩) l.length cap,.int .i64 (n:Int),.string d] 101 (0,0)):=hbk;rw [Lib.cell_of_heap this];rfl
 have hSD:(Builtin.unsafeSliceData_ #[97] 154 #[.slice (some ⟨g,0,none⟩) l.length cap]).run Tryz.prog w.drew=.ok (.pointer (some ⟨g,0,none⟩)) w.drew :=
  Lib.run_unsafeSliceData_row _ _ _ _ _ _ (by omega)
 have hUS:(Builtin.unsafeString_ #[154,3] 9 #[.pointer (some ⟨g,0,none⟩),.int .i64 l.length]).run Tryz.prog w.drew=.ok (.string ⟨l.toArray⟩) (w.drew.freeze ⟨g,0,none⟩ l.length):=by
  refine Lib.run_unsafeString_row w.drew 154 3 9 5 Tryz.underlying154 (by kernel_rfl) g cur.size (by have hg':w.drew.heap[g]?=some (.cells cur 5 (0,0)):=hg;simp [World.shape?,hg']) l h0 (by omega) (by unfold maxLen at hcm;omega) ?_;intro j x hx;have:=hown.cells (g:=g) rfl j (.int .u8 x.toNat) (by simp [Lib.byteCells,hx]);exact this
 clear hbk hown hg htake;go_enter Tryz.func45,Tryz.ntmps45
 go_wp2
 go_region
 all_goals (go_wp2;go_ret;exact ⟨rfl,Lib.below_freeze (Below.drew (b_ B w)) (p:=⟨g,0,none⟩) hbg _⟩)
end Go.Proofs.YtocecpghoncmgaaGreatDoor
namespace Go.Proofs.YtocecpghoncmgaaGreatDoor
def sepW (l x:List UInt8):List UInt8:=if x=[59]∨x=[44]∨x=[93] then [] else if l=[]∨l=[91] then [] else [32]
def ptT:List UInt8->List (List UInt8)->List UInt8
 |_,[]=>[]
 |l,x::xs=>sepW l x++(x++ptT x xs)
def ptL:List UInt8->List (List UInt8)->List UInt8
 |l,[]=>l
 |_,x::xs=>ptL x xs
theorem ptT_app:∀(l:List UInt8) (xs ys:List (List UInt8)),ptT l (xs++ys)=ptT l xs++ptT (ptL l xs) ys
 |l,[],ys=>rfl
 |l,x::xs,ys=>by
  show sepW l x++(x++ptT x (xs++ys))=(sepW l x++(x++ptT x xs))++ptT (ptL x xs) ys;rw [ptT_app x xs ys];simp only [a_]
theorem ptL_app:∀(l:List UInt8) (xs ys:List (List UInt8)),ptL l (xs++ys)=ptL (ptL l xs) ys
 |_,[],_=>rfl
 |_,x::xs,ys=>ptL_app x xs ys
def PWd (x:List UInt8):Prop:=x≠[]/\x≠[59]/\x≠[44]/\x≠[93]/\x≠[91]
theorem sep_pw {l x:List UInt8} (hl:PWd l) (hx:PWd x):sepW l x=[32]:=by
 unfold sepW;rw [if_neg (by rintro (h|h|h);exact hx.2.1 h;exact hx.2.2.1 h;exact hx.2.2.2.1 h),if_neg (by rintro (h|h);exact hl.1 h;exact hl.2.2.2.2 h)]
theorem sep_first {x:List UInt8}:sepW [] x=[]:=by
 unfold sepW
 split
 ·rfl
 ·rw [if_pos (.inl rfl)]
theorem sep_semi (l:List UInt8):sepW l [59]=[]:=by unfold sepW;rw [if_pos (.inl rfl)]
theorem sep_comma (l:List UInt8):sepW l [44]=[]:=by unfold sepW;rw [if_pos (.inr (.inl rfl))]
theorem sep_shut (l:List UInt8):sepW l [93]=[]:=by unfold sepW;rw [if_pos (.inr (.inr rfl))]
theorem sep_open (x:List UInt8):sepW [91] x=[]:=by
 unfold sepW
 split
 ·rfl
 ·rw [if_pos (.inr rfl)]
theorem sep_put {l x:List UInt8} (h1:l≠[]) (h2:l≠[91]) (h3:x≠[59]) (h4:x≠[44]) (h5:x≠[93]):sepW l x=[32]:=by
 unfold sepW;rw [if_neg (by rintro (h|h|h);exact h3 h;exact h4 h;exact h5 h),if_neg (by rintro (h|h);exact h1 h;exact h2 h)]
theorem pw_head {c:UInt8} {r:List UInt8} (h1:c≠59) (h2:c≠44) (h3:c≠93) (h4:c≠91):PWd (c::r):=by
 refine ⟨by simp,?_,?_,?_,?_⟩ <;> intro h <;> injection h with h _
 ·exact h1 h
 ·exact h2 h
 ·exact h3 h
 ·exact h4 h
theorem pw_hd {t:List UInt8} (h:Hd t):PWd t:=by
 obtain ⟨c,r,rfl,hh⟩:=h
 refine pw_head ?_ ?_ ?_ ?_ <;> (rintro rfl;revert hh;decide)
theorem pw_name {s:List UInt8} (h:isNm s=true):PWd s:=pw_hd (nm_Hd h)
theorem pw_tx {e:Ex} (h:e.fine):PWd e.tx:=pw_hd (tx_Hd e h)
theorem pw_int (n:Int):PWd (Lib.itoa n):=by
 unfold Lib.itoa
 split
 ·exact pw_head (by decide) (by decide) (by decide) (by decide)
 ·have h1:=dec_digits n.toNat
  have h2:Lib.decDigits n.toNat≠[]:=by
   intro h;have:=congrArg List.length h;unfold Lib.decDigits at this
   split at this <;> simp at this
  cases hd:Lib.decDigits n.toNat with
  |nil=>exact absurd hd h2
  |cons c r =>
   have h3:=h1 c (by rw [hd];simp)
   refine pw_head ?_ ?_ ?_ ?_ <;> (rintro rfl;revert h3;decide)
theorem pw_kw {w:List UInt8} (h:kwOk w=true):PWd w:=by
 cases w with
 |nil=>cases h
 |cons c u =>
  unfold kwOk at h;simp only [Bool.and_eq_true] at h;have hc:=h.1.1.1
  refine pw_head ?_ ?_ ?_ ?_ <;> (rintro rfl;revert hc;decide)
theorem pw_eq:PWd [61]:=pw_head (by decide) (by decide) (by decide) (by decide)
theorem pw_ar:PWd [45,62]:=pw_head (by decide) (by decide) (by decide) (by decide)
theorem pw_lb:PWd [123]:=pw_head (by decide) (by decide) (by decide) (by decide)
theorem pw_rb:PWd [125]:=pw_head (by decide) (by decide) (by decide) (by decide)
theorem pt_head {w nm:List UInt8} (h1:PWd w) (h2:PWd nm):ptT [] [w,nm,[123]]=w++32::(nm++32::[123]):=by
 simp only [ptT,sep_first,sep_pw h1 h2,sep_pw h2 pw_lb,List.nil_append,List.append_nil,List.cons_append]
theorem pt_var {nm:List UInt8} (h:PWd nm) (n:Int):ptT [] [wVar,nm,[61],Lib.itoa n,[59]]=wVar++32::(nm++32::([61,32]++(Lib.itoa n++[59]))):=by
 simp only [ptT,sep_first,sep_pw (pw_kw (w:=wVar) (by decide)) h,sep_pw h pw_eq,sep_pw pw_eq (pw_int n),sep_semi,List.nil_append,List.append_nil,List.cons_append]
theorem pt_ini {nm:List UInt8} (h:PWd nm):ptT [] [wInitial,nm,[59]]=wInitial++32::(nm++[59]):=by
 simp only [ptT,sep_first,sep_pw (pw_kw (w:=wInitial) (by decide)) h,sep_semi,List.nil_append,List.append_nil,List.cons_append]
theorem pt_hist {w nm d:List UInt8} (hw:PWd w) (h:PWd nm) (hd:PWd d):ptT [] [w,nm,[45,62],d,[59]]=w++32::(nm++32::([45,62]++32::(d++[59]))):=by
 simp only [ptT,sep_first,sep_pw hw h,sep_pw h pw_ar,sep_pw pw_ar hd,sep_semi,List.nil_append,List.append_nil,List.cons_append]
theorem pt_shut:ptT [] [[125]]=[125]:=by simp only [ptT,sep_first,List.nil_append,List.append_nil]
def EW (x:List UInt8):Prop:=x≠[]/\x≠[91]
theorem PWd.e {x:List UInt8} (h:PWd x):EW x:=⟨h.1,h.2.2.2.2⟩
theorem ew_semi:EW [59]:=⟨by decide,by decide⟩
theorem ew_lb:EW [123]:=⟨by decide,by decide⟩
theorem ew_rb:EW [125]:=⟨by decide,by decide⟩
theorem ew_shut:EW [93]:=⟨by decide,by decide⟩
theorem sep_ew {l x:List UInt8} (hl:EW l) (hx:PWd x):sepW l x=[32]:=sep_put hl.1 hl.2 hx.2.1 hx.2.2.1 hx.2.2.2.1
theorem sep_eo {l:List UInt8} (hl:EW l):sepW l [91]=[32]:=sep_put hl.1 hl.2 (by decide) (by decide) (by decide)
def acW (a:SyAct):List (List UInt8):=match a.value with
 |some x=>[actW a.kind,a.name,[61],x.tx,[59]]
 |none=>[actW a.kind,a.name,[59]]
theorem pt_act {a:SyAct} (h:a.good) {l:List UInt8} (hl:EW l):ptT l (acW a)=32::actT a/\ptL l (acW a)=[59]:=by
 have hk:=pw_kw (actW_ok h.kind);have hn:=pw_name h.name;unfold acW actT valT
 cases hv:a.value with
 |none =>
  constructor
  ·simp only [ptT,sep_ew hl hk,sep_pw hk hn,sep_semi,List.nil_append,List.append_nil,List.cons_append]
  ·rfl
 |some x =>
  have hx:PWd x.tx:=by
   by_cases h2:a.kind=2
   ·rw [h.raise h2] at hv;cases hv
   ·obtain ⟨y,hy,hm⟩:=h.value h2;rw [hv] at hy;injection hy with hy;rw [hy];exact pw_tx hm.1
  constructor
  ·simp only [ptT,sep_ew hl hk,sep_pw hk hn,sep_pw hn pw_eq,sep_pw pw_eq hx,sep_semi,List.nil_append,List.append_nil,List.cons_append]
  ·rfl
def asW (l:List SyAct):List (List UInt8):=[123]::(l.flatMap acW++[[125]])
theorem pt_acts:∀(aa:List SyAct),(∀a∈aa,a.good)->∀{l:List UInt8},EW l->ptT l (aa.flatMap acW)=actsT aa/\EW (ptL l (aa.flatMap acW))
 |[],_,l,hl=>⟨rfl,hl⟩
 |a::aa,hg,l,hl=>by
  obtain ⟨h1,h2⟩:=pt_act (hg a (by simp)) hl;obtain ⟨h3,h4⟩:=pt_acts aa (λ b hb=>hg b (by simp [hb])) ew_semi;rw [List.flatMap_cons,ptT_app,ptL_app,h1,h2];exact ⟨by rw [h3];rfl,h4⟩
theorem pt_block {aa:List SyAct} (hg:∀a∈aa,a.good) {l:List UInt8} (hl:EW l):ptT l (asW aa)=32::blockT aa/\ptL l (asW aa)=[125]:=by
 obtain ⟨h1,h2⟩:=pt_acts aa hg ew_lb;unfold asW blockT;constructor
 ·show sepW l [123]++([123]++ptT [123] (aa.flatMap acW++[[125]]))=_;rw [sep_ew hl pw_lb,ptT_app,h1];simp only [ptT,sep_ew h2 pw_rb,List.cons_append,List.nil_append,List.append_nil]
 ·show ptL [123] (aa.flatMap acW++[[125]])=_;rw [ptL_app];rfl
def gdW:Option Ex->List (List UInt8)
 |none=>[]
 |some x=>[[91],x.tx,[93]]
theorem pt_guard {g:Option Ex} {l:List UInt8} (hl:EW l):ptT l (gdW g)=gdT g/\EW (ptL l (gdW g)):=by
 cases g with
 |none=>exact ⟨rfl,hl⟩
 |some x =>
  refine ⟨?_,ew_shut⟩;unfold gdW gdT;simp only [ptT,sep_eo hl,sep_open,sep_shut,List.nil_append,List.append_nil,List.cons_append]
def bkW (aa:List SyAct):List (List UInt8):=if aa=[] then [] else asW aa
theorem pt_blk {aa:List SyAct} (hg:∀a∈aa,a.good) {l:List UInt8} (hl:EW l):ptT l (bkW aa)=blkT aa/\EW (ptL l (bkW aa)):=by
 unfold bkW blkT
 split
 ·exact ⟨rfl,hl⟩
 ·obtain ⟨h1,h2⟩:=pt_block hg hl;exact ⟨h1,by rw [h2];exact ew_rb⟩
def tgW1 (l:List (List UInt8)):List (List UInt8):=l.flatMap λ t=>[[44],t]
def tgW:List (List UInt8)->List (List UInt8)
 |[]=>[]
 |t::l=>[45,62]::t::tgW1 l
theorem pt_tg1:∀(ts:List (List UInt8)),(∀t∈ts,isNm t=true)->∀{l:List UInt8},EW l->ptT l (tgW1 ts)=tgT1 ts/\EW (ptL l (tgW1 ts))
 |[],_,l,hl=>⟨rfl,hl⟩
 |t::ts,hg,l,hl=>by
  have ht:=pw_name (hg t (by simp));obtain ⟨h3,h4⟩:=pt_tg1 ts (λ b hb=>hg b (by simp [hb])) ht.e;refine ⟨?_,h4⟩;show sepW l [44]++([44]++(sepW [44] t++(t++ptT t (tgW1 ts))))=_;rw [sep_comma,sep_put (by decide) (by decide) ht.2.1 ht.2.2.1 ht.2.2.2.1,h3];rfl
theorem pt_tg {ts:List (List UInt8)} (hg:∀t∈ts,isNm t=true) {l:List UInt8} (hl:EW l):ptT l (tgW ts)=tgtT ts:=by
 cases ts with
 |nil=>rfl
 |cons t ts =>
  have ht:=pw_name (hg t (by simp));obtain ⟨h3,h4⟩:=pt_tg1 ts (λ b hb=>hg b (by simp [hb])) ht.e;show sepW l [45,62]++([45,62]++(sepW [45,62] t++(t++ptT t (tgW1 ts))))=_;rw [sep_ew hl pw_ar,sep_pw pw_ar ht,h3];rfl
def evW (m:SyMove):List (List UInt8):=if m.kind=1 then [wOn,m.event] else if m.kind=2 then [wAlways] else [wAfter,Lib.itoa m.wait]
def mvW (m:SyMove):List (List UInt8):=evW m++(gdW m.guard++(bkW m.acts++(tgW m.targets++[[59]])))
theorem pt_move {m:SyMove} (h:m.good):ptT [] (mvW m)=moveT m:=by
 have h0:ptT [] (evW m)=moveW m.kind++evT m/\EW (ptL [] (evW m)):=by
  unfold evW moveW evT;rcases h.kind with k|k|k
  ·have he:=pw_name (show isNm m.event=true by rcases h.event with e|e;exact e.2;exact absurd k e.1);rw [k];simp only [if_true,ptT,ptL,sep_first,sep_pw (pw_kw (w:=wOn) (by decide)) he,List.nil_append,List.append_nil,List.cons_append];exact ⟨trivial,he.e⟩
  ·rw [k];exact ⟨rfl,(pw_kw (w:=wAlways) (by decide)).e⟩
  ·rw [k];rw [if_neg (by decide),if_neg (by decide),if_neg (by decide),if_neg (by decide),if_neg (by decide),if_neg (by decide)];simp only [ptT,ptL,sep_first,sep_pw (pw_kw (w:=wAfter) (by decide)) (pw_int m.wait),List.nil_append,List.append_nil,List.cons_append];exact ⟨trivial,(pw_int m.wait).e⟩
 obtain ⟨h1,h2⟩:=pt_guard (g:=m.guard) h0.2;obtain ⟨h3,h4⟩:=pt_blk h.acts h2;have h5:=pt_tg h.targets h4;unfold mvW moveT;rw [ptT_app,ptT_app,ptT_app,ptT_app,h0.1,h1,h3,h5];simp only [ptT,sep_semi,List.nil_append,List.append_nil,a_]
theorem pt_clause {w:List UInt8} (hw:kwOk w=true) {aa:List SyAct} (hg:∀a∈aa,a.good):ptT [] (w::asW aa)=w++32::blockT aa:=by
 show sepW [] w++(w++ptT w (asW aa))=_;rw [sep_first,(pt_block hg (pw_kw hw).e).1];rfl
end Go.Proofs.YtocecpghoncmgaaGreatDoor
namespace Go.Proofs
open Go.Shelf
def Tryz.lays105_ren:Go.Shelf.Ren:=⟨λ|105=>197|212=>248|99=>249|165=>250|166=>247|170=>44|169=>45|263=>284|264=>285|206=>286|240=>283|241=>287|276=>313|277=>314|n=>n,λ|9=>9|3=>3|4=>4|20=>20|0=>0|46=>231|109=>271|5=>5|72=>99|76=>269|51=>261|146=>294|53=>209|148=>296|70=>96|37=>97|75=>268|127=>154|164=>313|80=>104|n=>n,λ|n=>n⟩
theorem Tryz.lays105:Go.Proofs.Lays.n105 Tryz.prog Tryz.lays105_ren:={
 mixed:=by kernel_rfl
 f99:=Tryz.func249.trans (congrArg some (by kernel_rfl))
 f105:=Tryz.func197.trans (congrArg some (by kernel_rfl))
 f165:=Tryz.func250.trans (congrArg some (by kernel_rfl))
 f166:=Tryz.func247.trans (congrArg some (by kernel_rfl))
 f169:=Tryz.func45.trans (congrArg some (by kernel_rfl))
 f170:=Tryz.func44.trans (congrArg some (by kernel_rfl))
 f206:=Tryz.func286.trans (congrArg some (by kernel_rfl))
 f212:=Tryz.func248.trans (congrArg some (by kernel_rfl))
 f240:=Tryz.func283.trans (congrArg some (by kernel_rfl))
 f241:=Tryz.func287.trans (congrArg some (by kernel_rfl))
 f263:=Tryz.func284.trans (congrArg some (by kernel_rfl))
 f264:=Tryz.func285.trans (congrArg some (by kernel_rfl))
 f276:=Tryz.func313.trans (congrArg some (by kernel_rfl))
 f277:=Tryz.func314.trans (congrArg some (by kernel_rfl))
 t0:=Tryz.underlying0
 a0:=Tryz.isAgg0
 z0:=Tryz.sizeOf0
 v0:=Tryz.zeroValue0
 t3:=Tryz.underlying3
 a3:=Tryz.isAgg3
 z3:=Tryz.sizeOf3
 v3:=Tryz.zeroValue3
 t4:=Tryz.underlying4
 a4:=Tryz.isAgg4
 z4:=Tryz.sizeOf4
 v4:=Tryz.zeroValue4
 t5:=Tryz.underlying5
 a5:=Tryz.isAgg5
 z5:=Tryz.sizeOf5
 v5:=Tryz.zeroValue5
 t9:=Tryz.underlying9
 a9:=Tryz.isAgg9
 z9:=Tryz.sizeOf9
 v9:=Tryz.zeroValue9
 t20:=Tryz.underlying20
 a20:=Tryz.isAgg20
 z20:=Tryz.sizeOf20
 v20:=Tryz.zeroValue20
 t37:=Tryz.underlying97
 a37:=Tryz.isAgg97
 z37:=Tryz.sizeOf97
 v37:=Tryz.zeroValue97
 t46:=Tryz.underlying231
 a46:=Tryz.isAgg231
 z46:=Tryz.sizeOf231
 v46:=Tryz.zeroValue231
 t51:=Tryz.underlying261
 a51:=Tryz.isAgg261
 z51:=Tryz.sizeOf261
 v51:=Tryz.zeroValue261
 t53:=Tryz.underlying209
 a53:=Tryz.isAgg209
 z53:=Tryz.sizeOf209
 v53:=Tryz.zeroValue209
 t70:=Tryz.underlying96
 a70:=Tryz.isAgg96
 z70:=Tryz.sizeOf96
 v70:=Tryz.zeroValue96
 t72:=Tryz.underlying99
 a72:=Tryz.isAgg99
 z72:=Tryz.sizeOf99
 v72:=Tryz.zeroValue99
 t75:=Tryz.underlying268
 a75:=Tryz.isAgg268
 z75:=Tryz.sizeOf268
 v75:=Tryz.zeroValue268
 t76:=Tryz.underlying269
 a76:=Tryz.isAgg269
 z76:=Tryz.sizeOf269
 v76:=Tryz.zeroValue269
 t109:=Tryz.underlying271
 a109:=Tryz.isAgg271
 z109:=Tryz.sizeOf271
 v109:=Tryz.zeroValue271
 t127:=Tryz.underlying154
 a127:=Tryz.isAgg154
 z127:=Tryz.sizeOf154
 v127:=Tryz.zeroValue154
 t146:=Tryz.underlying294
 a146:=Tryz.isAgg294
 z146:=Tryz.sizeOf294
 v146:=Tryz.zeroValue294
 t148:=Tryz.underlying296
 a148:=Tryz.isAgg296
 z148:=Tryz.sizeOf296
 v148:=Tryz.zeroValue296
 t164:=Tryz.underlying313
 a164:=Tryz.isAgg313
 z164:=Tryz.sizeOf313
 v164:=Tryz.zeroValue313 }
end Go.Proofs
namespace Go.Proofs.YtocecpghoncmgaaGreatDoor
open Go.RowKit
def Wl (l T:List UInt8):Prop:=(T.length<=16384->l=T)/\(16384<T.length->16384<l.length)/\l.length<=2000000
theorem Wl.add {l T s:List UInt8} (h:Wl l T) (hl:l.length<=16384) (hs:s.length<=1000000):Wl (l++s) (T++s):=by
 obtain ⟨h1,h2,_⟩:=h
 have hT:T.length<=16384:=by
  rcases Nat.lt_or_ge 16384 T.length with h|h
  ·have:=h2 h;omega
  ·exact h
 rw [h1 hT];exact ⟨λ _=>rfl,λ h=>h,by rw [List.length_append];omega⟩
theorem Wl.full {l T s:List UInt8} (h:Wl l T) (hl:¬l.length<=16384):Wl l (T++s):=by
 obtain ⟨h1,h2,h3⟩:=h
 have hT:16384<T.length:=by
  rcases Nat.lt_or_ge 16384 T.length with h|h
  ·exact h
  ·have:=h1 h;subst this;omega
 exact ⟨λ h=>by rw [List.length_append] at h;omega,λ _=>by omega,h3⟩
structure WS (w0 w:World) (b:Nat) (T:List UInt8) (n:Nat) (d:ByteArray):Prop where
 bl:Below w0.heap.size w0 w
 wc:∃l,Wl l T/\WC w w0.heap.size b l n d
theorem WS.lt {w0 w:World} {b n:Nat} {T:List UInt8} {d:ByteArray} (h:WS w0 w b T n d):b<w.heap.size:=by
 obtain ⟨l,_,h⟩:=h.wc;exact h.lt
theorem WS.ge {w0 w:World} {b n:Nat} {T:List UInt8} {d:ByteArray} (h:WS w0 w b T n d):w0.heap.size<=b:=by
 obtain ⟨l,_,h⟩:=h.wc;exact h.1
theorem WS.below {w0 w w':World} {b n:Nat} {T:List UInt8} {d:ByteArray} (h:WS w0 w b T n d) (hb:Below w.heap.size w w'):WS w0 w' b T n d:=by
 obtain ⟨l,h1,h2⟩:=h.wc;exact ⟨h.bl.trans (hb.mono h.bl.size),l,h1,h2.below hb⟩
theorem WS.c2 {w0 w:World} {b n:Nat} {T:List UInt8} {d:ByteArray} (h:WS w0 w b T n d):w.cell? ⟨b,2,none⟩=some (.int .i64 (n:Int)):=by
 obtain ⟨l,_,h⟩:=h.wc;exact h.c2
theorem WS.c3 {w0 w:World} {b n:Nat} {T:List UInt8} {d:ByteArray} (h:WS w0 w b T n d):w.cell? ⟨b,3,none⟩=some (.string d):=by
 obtain ⟨l,_,h⟩:=h.wc;exact h.c3
theorem WS.fr {w0 w:World} {b n:Nat} {T:List UInt8} {d:ByteArray} (h:WS w0 w b T n d) (i:Nat):w.frozen? ⟨b,i,none⟩=false:=by
 obtain ⟨l,_,h⟩:=h.wc;exact h.fr i
theorem WS.set2 {w0 w:World} {b n:Nat} {T:List UInt8} {d:ByteArray} (h:WS w0 w b T n d) (n':Nat):WS w0 (w.setCell ⟨b,2,none⟩ (.int .i64 (n':Int))) b T n' d:=by
 have hg:=h.ge;obtain ⟨l,h1,h2⟩:=h.wc;exact ⟨h.bl.setCell (p:=⟨b,2,none⟩) hg _,l,h1,h2.set2 n'⟩
theorem WS.set3 {w0 w:World} {b n:Nat} {T:List UInt8} {d:ByteArray} (h:WS w0 w b T n d) (d':ByteArray):WS w0 (w.setCell ⟨b,3,none⟩ (.string d')) b T n d':=by
 have hg:=h.ge;obtain ⟨l,h1,h2⟩:=h.wc;exact ⟨h.bl.setCell (p:=⟨b,3,none⟩) hg _,l,h1,h2.set3 d'⟩
theorem CB.wk {B b:Nat} {w w':World} {g:Nat} {T:TypeId} {vs:List Value} (h:CB w g T vs) (hk:Wk B b w w') (hn:g≠b) (ht:T≠5):CB w' g T vs:=hk.keep _ _ _ _ h hn ht
theorem pwrite_any (w0 w:World) (b n:Nat) (T:List UInt8) (d s:ByteArray) (h:WS w0 w b T n d) (hs:s.size<=1000000) :
  Calls Tryz.prog 196 #[.pointer (some ⟨b,0,none⟩),.string s] w λ e w'=>e=.returned (.tuple #[])/\WS w0 w' b (T++s.data.toList) n d/\Wk w0.heap.size b w w':=by
 obtain ⟨l,hl,hw⟩:=h.wc;have HBL:=h_ h.bl;have HL:=h_ hl;have HC:=h_ (pblen_any w _ b l n d hw);have hll:l.length<=2000000:=hl.2.2;have HS:=h_ (show s.data.toList.length<=1000000 from hs);have HW:=h_ (pbwrite_any w _ b l n d s hw (by omega) h.bl.size);have HWC:=h_ hw;clear h hl hw hll hs;go_enter Tryz.func196,Tryz.ntmps196;go_wp2_with fail;refine HC.out.mono ?_;rintro e w1 ⟨rfl,rfl⟩
 by_cases hc:l.length<=16384
 ·have hc':(l.length:Int)<=16384:=by omega
  have HLC:=h_ hc;clear hc;go_wp2_with fail;refine HW.out.mono ?_;rintro e w2 ⟨rfl,hw,hk⟩
  have HF:Hid (WS w0 w2 b (T++s.data.toList) n d):=⟨HBL.out.trans hk.below,_,HL.out.add HLC.out HS.out,hw⟩
  have HK:=h_ hk;clear hw hk;go_wp2_with fail;go_end0;exact ⟨rfl,HF.out,HK.out⟩
 ·have hc':¬(l.length:Int)<=16384:=by omega
  have HF:Hid (WS w0 w1 b (T++s.data.toList) n d):=⟨HBL.out,_,HL.out.full hc,HWC.out⟩
  clear hc;go_wp2_with fail;go_end0;exact ⟨rfl,HF.out,Wk.refl _ _ _⟩
def spcB (d x:ByteArray):Bool:=!(sepW d.data.toList x.data.toList).isEmpty
theorem spc_sep {l x:List UInt8}:sepW l x=if (!(sepW l x).isEmpty)=true then [32] else []:=by
 unfold sepW
 split
 ·rfl
 ·split <;> rfl
theorem spaced_any (w:World) (d x:ByteArray) :
  Calls Tryz.prog 251 #[.string d,.string x] w λ e w'=>e=.returned (.bool (spcB d x))/\w'=w:=by
 have HR:Hid (spcB d x=if (x.toList == [59])=true then false else if (x.toList == [44])=true then false else if (x.toList == [93])=true then false else if d.toList.isEmpty=true then false else !(d.toList == [91])):=by
  show spcB d x=_;unfold spcB sepW;rw [<-Lib.toList_data,<-Lib.toList_data]
  by_cases h1:x.toList=[59]
  ·rw [if_pos (.inl h1),if_pos (by rw [h1];rfl)];rfl
  ·rw [if_neg (c:=(x.toList == [59])=true) (by simpa using h1)]
   by_cases h2:x.toList=[44]
   ·rw [if_pos (.inr (.inl h2)),if_pos (by rw [h2];rfl)];rfl
   ·rw [if_neg (c:=(x.toList == [44])=true) (by simpa using h2)]
    by_cases h3:x.toList=[93]
    ·rw [if_pos (.inr (.inr h3)),if_pos (by rw [h3];rfl)];rfl
    ·rw [if_neg (c:=(x.toList == [93])=true) (by simpa using h3),if_neg (by rintro (h|h|h);exact h1 h;exact h2 h;exact h3 h)]
     by_cases h4:d.toList=[]
     ·rw [if_pos (.inl h4),h4];rfl
     ·rw [if_neg (c:=d.toList.isEmpty=true) (by simpa using h4)]
      by_cases h5:d.toList=[91]
      ·rw [if_pos (.inr h5),h5];rfl
      ·rw [if_neg (by rintro (h|h);exact h4 h;exact h5 h)]
       have:(d.toList == [91])=false:=by simpa using h5
       rw [this];rfl
 obtain ⟨R,hR⟩:∃R,spcB d x=R:=⟨_,rfl⟩
 rw [hR] at HR ⊢;clear hR
 obtain ⟨b1,h1⟩:∃q,(x.toList == [59])=q:=⟨_,rfl⟩
 obtain ⟨b2,h2⟩:∃q,(x.toList == [44])=q:=⟨_,rfl⟩
 obtain ⟨b3,h3⟩:∃q,(x.toList == [93])=q:=⟨_,rfl⟩
 obtain ⟨b4,h4⟩:∃q,d.toList.isEmpty=q:=⟨_,rfl⟩
 obtain ⟨b5,h5⟩:∃q,(d.toList == [91])=q:=⟨_,rfl⟩
 rw [h1,h2,h3,h4,h5] at HR;go_enter Tryz.func251,Tryz.ntmps251
 cases b1 <;> cases b2 <;> cases b3 <;> cases b4 <;> cases b5 <;> (go_wp2_with fail;go_ret;exact ⟨by rw [HR.out];rfl,rfl⟩)
end Go.Proofs.YtocecpghoncmgaaGreatDoor
