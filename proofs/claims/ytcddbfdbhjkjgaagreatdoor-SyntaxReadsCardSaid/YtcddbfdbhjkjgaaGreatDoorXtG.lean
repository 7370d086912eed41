import Derived.Test.YtcddbfdbhjkjgaaGreatDoorQh
import Derived.Test.YtcddbfdbhjkjgaaGreatDoorXtF
import Derived.Test.YtcddbfdbhjkjgaaGreatDoorYE
set_option maxHeartbeats 12800000
set_option maxRecDepth 20000
namespace Go.Proofs.YtcddbfdbhjkjgaaGreatDoor
open Go.RowKit
theorem xok_s (w:World) (b:Nat) (K:Kx) (D:Int) (m:Rs Unit) (h:XS w b K D m) :
  Calls Tryz.prog 42 #[.pointer (some ⟨b,0,none⟩)] w fun e w'=>e=.returned (.bool (m.tell fun _=>true))∧w=w':=by
 obtain ⟨c,r6,hc⟩:=h.code
 obtain ⟨d,hd⟩:∃d,(m.tell fun _=>true)=d:=⟨_,rfl⟩
 rw [hd] at hc ⊢
 clear h hd
 go_enter Tryz.func42,Tryz.ntmps42
 go_wp2_with fail
 go_ret
 exact ⟨rfl,rfl⟩
theorem clause_more {x x':SyB} {s:Ss} {m':Rs Unit} (h:clauseS x s=m'.go fun s=>.ok (x',true) s):It clauseS x s=m'.go (It clauseS x'):=by
 rw [It_eq clauseS_goes,h]
 cases m' <;> rfl
theorem clause_left {x x':SyB} {s:Ss} {m':Rs Unit} (h:clauseS x s=m'.go fun s=>.ok (x',true) s):m'.leftX<(Rs.ok () s:Rs Unit).leftX:=by
 cases m' with
 |out=>exact Nat.succ_pos _
 |bad c p=>exact Nat.succ_pos _
 |ok u s' =>
  have:=clauseS_steps x s x' true s' h
  rw [if_pos rfl] at this
  show s'.ts.length+1<s.ts.length+1
  omega
theorem clause_end {x:SyB} {s:Ss} (h:clauseS x s=.ok (x,false) s):It clauseS x s=.ok x s:=by
 rw [It_eq clauseS_goes,h]
 rfl
theorem clause_wrong {x:SyB} {s:Ss} (h:clauseS x s=wrongR s.ts):It clauseS x s=(wrongR s.ts:Rs Unit).go (It clauseS x):=by
 rw [It_eq clauseS_goes,h]
 obtain ⟨c,p,e⟩:∃c p,∀α:Type,(wrongR s.ts:Rs α)=.bad c p:=by
  cases s.ts with
  |nil=>exact ⟨_,_,fun _=>rfl⟩
  |cons t r =>
   by_cases h5:t.kind=5
   ·exact ⟨3,t.at_,fun α=>by rw [wrongR_cons,if_pos h5]⟩
   ·exact ⟨4,t.at_,fun α=>by rw [wrongR_cons,if_neg h5]⟩
 rw [e,e]
 rfl
theorem words_apart {u v:List UInt8} {ts:List Tk} (h:isAt 2 u ts=true) (hne:u≠v):isAt 2 v ts=false:=by
 cases hv:isAt 2 v ts with
 |false=>rfl
 |true=>exact absurd (isAt_text h hv) hne
theorem word_some {ts:List Tk}:∀{us:List (List UInt8)} {k:Nat},wordAt ts us k≠0→∃u∈us,isAt 2 u ts=true
 |[],_,h=>absurd rfl h
 |v::l,k,h=>by
  rw [wordAt] at h
  split at h
  ·exact ⟨v,List.mem_cons_self ..,by assumption⟩
  ·obtain ⟨u,hu,h2⟩:=word_some h
   exact ⟨u,List.mem_cons_of_mem _ hu,h2⟩
theorem move_clause {x:SyB} {s:Ss} (hk:moveK s.ts≠0):clauseS x s=movS x s:=by
 obtain ⟨u,hu,h⟩:=word_some hk
 have n:∀v∈[wInitial,wEnter,wLeave],isAt 2 v s.ts=false:=fun v hv=>words_apart h (by
  simp only [List.mem_cons,List.not_mem_nil,or_false] at hu hv
  rcases hu with rfl|rfl|rfl <;> rcases hv with rfl|rfl|rfl <;> decide)
 unfold clauseS
 rw [n wInitial (by simp),n wEnter (by simp),n wLeave (by simp)]
 rfl
theorem init_clause {x:SyB} {s:Ss} (h:isAt 2 wInitial s.ts=true):clauseS x s=initS x s:=by
 unfold clauseS
 rw [if_pos h]
theorem enter_clause {x:SyB} {s:Ss} (h:isAt 2 wEnter s.ts=true):clauseS x s=enterS x s:=by
 unfold clauseS
 rw [words_apart (v:=wInitial) h (by decide),if_neg (by decide),if_pos h]
theorem leave_clause {x:SyB} {s:Ss} (h:isAt 2 wLeave s.ts=true):clauseS x s=leaveS x s:=by
 unfold clauseS
 rw [words_apart (v:=wInitial) h (by decide),if_neg (by decide),words_apart (v:=wEnter) h (by decide),if_neg (by decide),if_pos h]
theorem none_clause {x:SyB} {s:Ss} (h:∀j u,j<3→([wInitial,wEnter,wLeave]:List (List UInt8))[j]?=some u→isAt 2 u s.ts=false) (hk:moveK s.ts=0):clauseS x s=.ok (x,false) s:=by
 unfold clauseS movS
 rw [h 0 wInitial (by decide) rfl,h 1 wEnter (by decide) rfl,h 2 wLeave (by decide) rfl,hk]
 rfl
def bdC (kd:Int) (X:ByteArray) (ini v1 v2 v3 v4:Value) (p:Int):List Value:=[.int .i64 kd,.string X,ini,.string ⟨#[]⟩,v1,v2,v3,v4,.int .i64 p]
structure XyI (w:World) (b g3 g4 g5 g6 B:Nat) (K:Kx) (D:Int) (kd:Int) (X:ByteArray) (p:Int) (m0:Rs Unit) (T1:Rs SyB) (W:World) (x:SyB) (m:Rs Unit) (v1 v2 v3:Value) (F1 F2 F3:List Nat):Prop where
 xs:XS W b K D m
 c3:CB W g3 28 (bdC kd X (txV x.initial) v1 v2 v3 (.slice none 0 0) p)
 q4:Q4 W B (dvActs false x.enter) (dvActs false x.leave) (dvMoves false x.moves) (dvKids false []) v1 v2 v3 (.slice none 0 0) F1 F2 F3 []
 c4:CB W g4 28 zNode
 c5:CB W g5 95 [.bool x.hi,.bool x.he,.bool x.hl]
 c6:CB W g6 9 ([wInitial,wEnter,wLeave].map txV)
 mv:Mv b w W
 bs:B≤W.heap.size
 eq:T1=m.go (It clauseS x)
 ok:(∃s,m=.ok () s)→∃s,m0=.ok () s
 len:∀s,m=.ok () s→x.moves.length+s.ts.length≤K.n
theorem XyI.below {w:World} {b g3 g4 g5 g6 B:Nat} {K:Kx} {D:Int} {kd:Int} {X:ByteArray} {p:Int} {m0:Rs Unit} {T1:Rs SyB} {W W':World} {x:SyB} {m:Rs Unit} {v1 v2 v3:Value} {F1 F2 F3:List Nat} (h:XyI w b g3 g4 g5 g6 B K D kd X p m0 T1 W x m v1 v2 v3 F1 F2 F3) (hb:Below W.heap.size W W'):XyI w b g3 g4 g5 g6 B K D kd X p m0 T1 W' x m v1 v2 v3 F1 F2 F3 :=
 ⟨h.xs.below hb,h.c3.below hb,h.q4.ch (Ch.of_below (S:=fun _=>False) hb) (fun _ _ _ h=>h),h.c4.below hb,h.c5.below hb,h.c6.below hb,h.mv.trans (Mv.of b hb),Nat.le_trans h.bs hb.size,h.eq,h.ok,h.len⟩
structure InC (L0 i:Nat) (more:Bool) (m:Rs Unit):Prop where
 le:m.leftX≤L0
 lt:more=true→m.leftX<L0
 no:more=false→∀s,m=.ok () s→∀j u,j<i→([wInitial,wEnter,wLeave]:List (List UInt8))[j]?=some u→isAt 2 u s.ts=false
theorem ok_len {s s':Ss} (h:(Rs.ok () s':Rs Unit).leftX<(Rs.ok () s:Rs Unit).leftX):s'.ts.length<s.ts.length:=by
 have:s'.ts.length+1<s.ts.length+1:=h
 omega
def b7N:Value→Nat
 |.bool true=>1
 |_=>0
def XyEnd (w:World) (b:Nat) (K:Kx) (D:Int) (d:Nat) (m:Rs Unit) (kd:Int) (X:ByteArray) (p:Int) (e:Ending) (w':World):Prop :=
 ∃(z:SyB×List SyNode) (Y:ByteArray) (v1 v2 v3 v4:Value) (F1 F2 F3 F4:List Nat),txV z.1.initial=.string Y∧e=.returned (.agg #[.int .i64 kd,.string X,.string Y,.string ⟨#[]⟩,v1,v2,v3,v4,.int .i64 p])∧(m.go (bodyR (nodeR d))).is z ∧
  Q4 w' w.heap.size (dvActs false z.1.enter) (dvActs false z.1.leave) (dvMoves false z.1.moves) (dvKids false z.2) v1 v2 v3 v4 F1 F2 F3 F4∧XS w' b K D (m.go (bodyR (nodeR d))).void∧Mv b w w'
def XNodeC (b:Nat) (K:Kx) (D:Int) (d:Nat):Prop:=∀(w:World) (s:Ss) (k:Nat),XS w b K D (.ok () s)→nodeK s.ts=k→k≠0 →
 Calls Tryz.prog 48 #[.pointer (some ⟨b,0,none⟩),.int .i64 (k:Int)] w fun e w'=>∃(x:SyNode) (ys:List Value),e=.returned (.agg ys.toArray)∧Rep w' w.heap.size (dvNode false x) ys∧ys.length=9∧(nodeR d s).is x∧XS w' b K D (nodeR d s).void∧Mv b w w'
structure XzI (w:World) (b g3 g4 B:Nat) (K:Kx) (D:Int) (d:Nat) (kd:Int) (X:ByteArray) (p:Int) (m0:Rs Unit) (x:SyB) (T2:Rs (List SyNode)) (W:World) (l:List SyNode) (m:Rs Unit) (v1 v2 v3 v4:Value) (F1 F2 F3 F4:List Nat):Prop where
 xs:XS W b K D m
 c3:CB W g3 28 (bdC kd X (txV x.initial) v1 v2 v3 v4 p)
 q4:Q4 W B (dvActs false x.enter) (dvActs false x.leave) (dvMoves false x.moves) (dvKids false l) v1 v2 v3 v4 F1 F2 F3 F4
 c4:CB W g4 28 zNode
 mv:Mv b w W
 bs:B≤W.heap.size
 eq:T2=m.go (It (kidS (nodeR d)) l)
 ok:(∃s,m=.ok () s)→∃s,m0=.ok () s
 len:∀s,m=.ok () s→l.length+s.ts.length≤K.n
theorem kid_more {nd:Ss→Rs SyNode} (ht:∀s,Takes 1 s (nd s)) {l l':List SyNode} {s:Ss} {m':Rs Unit} (h:kidS nd l s=m'.go fun s=>.ok (l',true) s):It (kidS nd) l s=m'.go (It (kidS nd) l'):=by
 rw [It_eq (kidS_goes ht),h]
 cases m' <;> rfl
theorem kid_end {nd:Ss→Rs SyNode} (ht:∀s,Takes 1 s (nd s)) {l:List SyNode} {s:Ss} (h:nodeK s.ts=0):It (kidS nd) l s=.ok l s:=by
 rw [It_eq (kidS_goes ht)]
 unfold kidS
 rw [if_pos h]
 rfl
theorem dvKids_snoc (l:List SyNode) (x:SyNode):dvKids false (l++[x])=.row 28 9 (l.length+1) (dvNodes false l++dvNode false x):=by
 unfold dvKids
 rw [dvNodes_snoc,List.length_append,List.length_singleton]
theorem dvMoves_snoc (l:List SyMove) (x:SyMove):dvMoves false (l++[x])=.row 56 13 (l.length+1) (l.flatMap (dvMove false)++dvMove false x):=by
 unfold dvMoves
 rw [flat_snoc,List.length_append,List.length_singleton]
theorem xbody_s (w:World) (b:Nat) (K:Kx) (D:Int) (d:Nat) (m:Rs Unit) (kd:Int) (X:ByteArray) (p:Int) (h:XS w b K D m) (hnd:(∃s,m=.ok () s)→XNodeC b K D d) :
  Calls Tryz.prog 20 #[.pointer (some ⟨b,0,none⟩),.agg #[.int .i64 kd,.string X,.string ⟨#[]⟩,.string ⟨#[]⟩,.slice none 0 0,.slice none 0 0,.slice none 0 0,.slice none 0 0,.int .i64 p]] w (XyEnd w b K D d m kd X p):=by
 obtain ⟨g3,hg3⟩:∃g,g=w.heap.size:=⟨_,rfl⟩
 obtain ⟨g4,hg4⟩:∃g,g=w.heap.size+1:=⟨_,rfl⟩
 obtain ⟨g5,hg5⟩:∃g,g=w.heap.size+1+1:=⟨_,rfl⟩
 obtain ⟨g6,hg6⟩:∃g,g=w.heap.size+1+1+1:=⟨_,rfl⟩
 obtain ⟨Wa,hWa⟩:∃W,W=w.alloc (.cells #[.int .i64 kd,.string X,.string ⟨#[]⟩,.string ⟨#[]⟩,.slice none 0 0,.slice none 0 0,.slice none 0 0,.slice none 0 0,.int .i64 p] 28):=⟨_,rfl⟩
 obtain ⟨Wb,hWb⟩:∃W,W=Wa.alloc (.cells #[.int .i64 0,.string ⟨#[]⟩,.string ⟨#[]⟩,.string ⟨#[]⟩,.slice none 0 0,.slice none 0 0,.slice none 0 0,.slice none 0 0,.int .i64 0] 28):=⟨_,rfl⟩
 obtain ⟨Wc,hWc⟩:∃W,W=Wb.alloc (.cells #[.bool false,.bool false,.bool false] 95):=⟨_,rfl⟩
 obtain ⟨W0,hW0⟩:∃W,W=Wc.alloc (.cells #[.string ⟨#[105,110,105,116,105,97,108]⟩,.string ⟨#[101,110,116,101,114]⟩,.string ⟨#[108,101,97,118,101]⟩] 9):=⟨_,rfl⟩
 have hsa:Wa.heap.size=w.heap.size+1:=by rw [hWa];simp
 have hsb:Wb.heap.size=w.heap.size+1+1:=by rw [hWb];simp [hsa]
 have hsc:Wc.heap.size=w.heap.size+1+1+1:=by rw [hWc];simp [hsb]
 have hs0:W0.heap.size=w.heap.size+4:=by rw [hW0];simp [hsc]
 have HB0:Hid (Below w.heap.size w W0):=by rw [hW0,hWc,hWb,hWa];exact ((((b_ _ w).alloc (n_ _) _).alloc (by simp) _).alloc (by simp;omega) _).alloc (by simp;omega) _
 have hbw:=h.blt
 have HN:=h_ h.ok.n
 obtain ⟨T1,hT1⟩:∃T1,m.go (It clauseS SyB.none)=T1:=⟨_,rfl⟩
 obtain ⟨B,hB⟩:∃B,B=w.heap.size+4:=⟨_,rfl⟩
 have HI0:Hid (XyI w b g3 g4 g5 g6 B K D kd X p m T1 W0 SyB.none m (.slice none 0 0) (.slice none 0 0) (.slice none 0 0) [] [] []):=by
  refine ⟨h.below HB0.out,?_,?_,?_,?_,?_,Mv.of b HB0.out,by omega,hT1.symm,fun h=>h,fun s e=>?_⟩
  ·rw [hW0,hWc,hWb,hWa,hg3]
   exact (((CB.new w _ [.int .i64 kd,.string X,.string ⟨#[]⟩,.string ⟨#[]⟩,.slice none 0 0,.slice none 0 0,.slice none 0 0,.slice none 0 0,.int .i64 p]).alloc _).alloc _).alloc _
  ·exact Q4.nil W0 B _ _ _ _ _ _ _ _
  ·have:=CB.new Wa 28 zNode
   rw [hsa,←hg4] at this
   rw [hW0,hWc,hWb]
   exact (this.alloc _).alloc _
  ·have:=CB.new Wb 95 [.bool false,.bool false,.bool false]
   rw [hsb,←hg5] at this
   rw [hW0,hWc]
   exact this.alloc _
  ·have:=CB.new Wc 9 [.string ⟨#[105,110,105,116,105,97,108]⟩,.string ⟨#[101,110,116,101,114]⟩,.string ⟨#[108,101,97,118,101]⟩]
   rw [hsc,←hg6] at this
   rw [hW0]
   exact this
  ·subst e
   have:=h.len
   simpa [SyB.none] using this
 have hb3:b<g3:=by omega
 have h34:g3<g4:=by omega
 have h45:g4<g5:=by omega
 have h56:g5<g6:=by omega
 have h6B:g6<B:=by omega
 have hw3:w.heap.size≤g3:=by omega
 have n3b:g3≠b:=by omega
 have n4b:g4≠b:=by omega
 have n5b:g5≠b:=by omega
 have n6b:g6≠b:=by omega
 have HND:=h_ hnd
 have HT1:=h_ hT1
 clear h hnd hsa hsb hsc hs0 hT1 hB HB0 hbw
 go_enter Tryz.func20,Tryz.ntmps20
 go_upto_region 3 with fail
 rw [←hWa,←hWb,←hWc,←hW0,←hg6,←hg5,←hg4,←hg3]
 clear hWa hWb hWc hW0 hg6 hg5 hg4 hg3
 go_upto_block 0 with fail
 go_cut [7,8,9,10,11] from 15 to 87 (fun _ _ _ _ _ wr=>∃x m2 v1 v2 v3 F1 F2 F3,Hid (XyI w b g3 g4 g5 g6 B K D kd X p m T1 wr x m2 v1 v2 v3 F1 F2 F3)∧Hid (∀s,m2=.ok () s→clauseS x s=.ok (x,false) s))
 case first =>
  go_wp2_with fail
  go_loopw [7] (fun s7 wr=>∃more x m2 v1 v2 v3 F1 F2 F3,s7=.bool more∧Hid (XyI w b g3 g4 g5 g6 B K D kd X p m T1 wr x m2 v1 v2 v3 F1 F2 F3)∧Hid (more=false→∀s,m2=.ok () s→clauseS x s=.ok (x,false) s)) (fun s7 wr=>2*xleft wr b K.n+b7N s7)
  case atStart=>exact ⟨true,_,_,_,_,_,_,_,_,rfl,HI0,fun h=>by cases h⟩
  case round =>
   obtain ⟨more,x,m2,v1,v2,v3,F1,F2,F3,rfl,HI,HF⟩:=hrel
   clear HI0
   cases more with
   |false =>
    have HFX:=h_ (HF.out rfl)
    clear HF
    go_wp2_with fail
    go_meet
    exact ⟨x,m2,v1,v2,v3,F1,F2,F3,HI,HFX⟩
   |true =>
    have HOK:=h_ (xok_s wr b K D m2 HI.out.xs)
    have hx0:=HI.out.xs.left
    cases m2 with
    |out=>exact absurd rfl HI.out.xs.notOut
    |bad c q =>
     rw [Rs.tell_bad] at HOK
     clear hx0
     go_wp2_with fail
     refine HOK.out.mono ?_
     rintro e w2 ⟨rfl,rfl⟩
     go_wp2_with fail
     go_meet
     exact ⟨x,_,v1,v2,v3,F1,F2,F3,HI,fun s e=>by cases e⟩
    |ok u s0 =>
     rw [Rs.tell_ok] at HOK
     obtain ⟨L0,hL0⟩:∃L0,(Rs.ok () s0:Rs Unit).leftX=L0:=⟨_,rfl⟩
     have HX0:Hid (xleft wr b K.n=L0):=hx0.trans hL0
     have HL0:=h_ hL0
     clear hx0 hL0
     go_wp2_with fail
     refine HOK.out.mono ?_
     rintro e w2 ⟨rfl,rfl⟩
     clear HOK HF
     have HIN:Hid (InC L0 0 false (.ok () s0)):=⟨by rw [HL0.out];exact n_ _,fun h=>(by cases h),fun _ _ _ _ _ hj=>absurd hj (Nat.not_lt_zero _)⟩
     obtain ⟨m2,hm2⟩:∃m2:Rs Unit,m2=.ok () s0:=⟨_,rfl⟩
     rw [←hm2] at HI HIN
     obtain ⟨XL,hXL⟩:∃XL,xleft wr b K.n=XL:=⟨_,rfl⟩
     rw [hXL] at HX0
     have HXL:=h_ hXL
     clear hm2 hXL
     go_wp2_with fail
     go_loopw [7,8] (fun s7 s8 wr=>∃(i:Nat) (more:Bool) (x:SyB) (m2:Rs Unit) (v1 v2 v3:Value) (F1 F2 F3:List Nat),s7=.bool more∧((i=0∧s8=.int .i64 0)∨(i=1∧s8=.int .i64 1)∨(i=2∧s8=.int .i64 2)∨(i=3∧s8=.int .i64 3))∧Hid (XyI w b g3 g4 g5 g6 B K D kd X p m T1 wr x m2 v1 v2 v3 F1 F2 F3)∧Hid (InC L0 i more m2)) (fun _ s8 _=>3-(intOf s8).toNat)
     case atStart=>exact ⟨0,false,_,_,_,_,_,_,_,_,rfl,.inl ⟨rfl,rfl⟩,HI,HIN⟩
     case round =>
      clear HI HIN
      obtain ⟨i,more,x,m2,v1,v2,v3,F1,F2,F3,rfl,hi,HI,HIN⟩:=hrel
      rcases hi with ⟨rfl,rfl⟩|⟨rfl,rfl⟩|⟨rfl,rfl⟩|⟨rfl,rfl⟩
      ·have HC:=h_ (xis_s wr b K D _ HI.out.xs 2 ⟨#[105,110,105,116,105,97,108]⟩)
       obtain ⟨d0,hd0⟩:∃d0,(m2.tell fun s=>isAt 2 wInitial s.ts)=d0:=⟨_,rfl⟩
       replace HC:Hid (Calls Tryz.prog 43 #[.pointer (some ⟨b,0,none⟩),.int .i64 2,.string ⟨#[105,110,105,116,105,97,108]⟩] wr fun e w'=>e=.returned (.bool d0)∧Below wr.heap.size wr w'):=by rw [←hd0];exact HC
       have HD0:=h_ hd0
       have u1:wr.cell? ⟨g6,0,none⟩=some (.string ⟨#[105,110,105,116,105,97,108]⟩):=HI.out.c6.c 0 rfl
       obtain ⟨hh,hhh⟩:∃hh,x.hi=hh:=⟨_,rfl⟩
       have HHH:=h_ hhh
       clear hd0
       go_wp2_with fail
       refine HC.out.mono ?_
       rintro e w3 ⟨rfl,hb⟩
       have HI3:=h_ (HI.out.below hb)
       have a5:w3.cell? ⟨g5,0,none⟩=some (.bool hh):=by
        have:=HI3.out.c5.c 0 rfl
        rw [HHH.out] at this
        exact this
       have f5:=HI3.out.c5.fr 0
       clear hb HC u1 hhh
       cases d0 with
       |false =>
        have HIN':Hid (InC L0 (0+1) more m2):=⟨HIN.out.le,HIN.out.lt,fun hm s e j u hj hu=>by
         rcases Nat.lt_succ_iff_lt_or_eq.1 hj with h|h
         ·exact HIN.out.no hm s e j u h hu
         ·subst h
          have h0:=HD0.out
          rw [e] at h0
          have:wInitial=u:=by simpa using hu
          rw [←this]
          exact h0⟩
        clear f5
        go_wp2_with fail
        go_roundw
        case rel=>exact ⟨1,more,x,m2,v1,v2,v3,F1,F2,F3,rfl,.inr (.inl ⟨rfl,rfl⟩),HI3,HIN'⟩
        case measure=>simp [intOf]
       |true =>
        obtain ⟨s1,hs1,hat⟩:=Rs.tell_true HD0.out
        subst hs1
        have HAT:=h_ hat
        clear hat
        cases hh with
        |true =>
         have HCL:Hid (clauseS x s1=wrongR s1.ts):=by
          show _=_
          rw [init_clause HAT.out]
          unfold initS
          rw [HHH.out,if_pos rfl]
         have HC:=h_ (xwrong_s w3 b K D _ HI3.out.xs)
         have HLL:Hid (0<L0):=by have:=HIN.out.le;show 0<L0;exact Nat.lt_of_lt_of_le (Nat.succ_pos _) this
         clear f5
         go_wp2_with fail
         refine HC.out.mono ?_
         rintro e w4 ⟨rfl,hp,hm⟩
         obtain ⟨c,q,hbad⟩:∃c q,(wrongR s1.ts:Rs Unit)=.bad c q:=wrong_bad' _
         replace hp:XS w4 b K D (.bad c q):=by rw [←hbad];exact hp
         have a6:w4.cell? ⟨g5,0,none⟩=some (.bool true):=by
          have:=(HI3.out.c5.mv hm n5b).c 0 rfl
          rw [HHH.out] at this
          exact this
         have HI4:Hid (XyI w b g3 g4 g5 g6 B K D kd X p m T1 w4 x (.bad c q) v1 v2 v3 F1 F2 F3):=⟨hp,HI3.out.c3.mv hm n3b,HI3.out.q4.ch (Ch.of_mv hm) (fun g hg _ e=>by have e':g=b:=e;omega),HI3.out.c4.mv hm n4b,HI3.out.c5.mv hm n5b,HI3.out.c6.mv hm n6b,HI3.out.mv.trans hm,Nat.le_trans HI3.out.bs (World.grownBy.size hm),by rw [HI3.out.eq,Rs.go_ok,clause_wrong HCL.out,hbad],fun ⟨s,e⟩=>(by cases e),fun s e=>(by cases e)⟩
         have HIN':Hid (InC L0 (0+1) more (.bad c q)):=⟨Nat.zero_le _,fun _=>HLL.out,fun _ s e=>(by cases e)⟩
         clear hp hm hbad HC a5
         go_wp2_with fail
         go_roundw
         case rel=>exact ⟨1,more,x,_,v1,v2,v3,F1,F2,F3,rfl,.inr (.inl ⟨rfl,rfl⟩),HI4,HIN'⟩
         case measure=>simp [intOf]
        |false =>
         obtain ⟨r,hr,hr0,hrq,hrd,hrm⟩:=HI3.out.xs.out
         obtain ⟨hst,hxs⟩:=hrm.step (isAt_kind HAT.out (by decide)) HI3.out.xs.at_.1
         have hrq1:r.q≤100000:=by have:=HN.out;omega
         have hm5g:Mv g5 w3 (w3.setCell ⟨g5,0,none⟩ (.bool true)):=(Mv.refl g5 w3).set 0 _
         have r1':(w3.setCell ⟨g5,0,none⟩ (.bool true)).cell? ⟨b,1,none⟩=some (.int .i64 (r.q:Int)):=(hr.mv hm5g (Ne.symm n5b)).c1
         have f1':(w3.setCell ⟨g5,0,none⟩ (.bool true)).frozen? ⟨b,1,none⟩=false:=(hr.mv hm5g (Ne.symm n5b)).fr 1
         obtain ⟨W5,hW5⟩:∃W,W=(w3.setCell ⟨g5,0,none⟩ (.bool true)).setCell ⟨b,1,none⟩ (.int .i64 ((r.q:Int)+1)):=⟨_,rfl⟩
         have hm5:Ch (fun k=>k=b∨k=g5) w3 W5:=by rw [hW5];exact ((Ch.refl _ w3).set (.inl (.inr rfl)) 0 _).set (.inl (.inl rfl)) 1 _
         have hm5b:Mv b (w3.setCell ⟨g5,0,none⟩ (.bool true)) W5:=by rw [hW5];exact (Mv.refl b _).set 1 _
         have hr5:RvB W5 b { r with q:=r.q+1 }:=by
          rw [hW5]
          have:=(hr.mv hm5g (Ne.symm n5b)).setq (r.q+1)
          rw [Int.natCast_add] at this
          exact this
         have HP5:Hid (XS W5 b K D (.ok () s1.drop)):=(HI3.out.xs.ch (Ch.of_mv hm5g) (fun k e=>by have e':k=g5:=e;omega)).turn hm5b hr5 hr0 hst hrd hxs
         have H53:Hid (CB W5 g3 28 (bdC kd X (txV x.initial) v1 v2 v3 (.slice none 0 0) p)):=HI3.out.c3.ch hm5 (fun e=>by rcases e with e|e <;> omega)
         have H5Q:=h_ (HI3.out.q4.ch hm5 (fun g hg _ e=>by rcases e with e|e <;> omega))
         have H54:=h_ (HI3.out.c4.ch hm5 (fun e=>by rcases e with e|e <;> omega))
         have H55:Hid (CB W5 g5 95 [.bool true,.bool x.he,.bool x.hl]):=(HI3.out.c5.set 0 (.bool true)).mv hm5b n5b
         have H56:=h_ (HI3.out.c6.ch hm5 (fun e=>by rcases e with e|e <;> omega))
         have H5M:Hid (Mv b w W5):=((Ch.of_mv HI3.out.mv).trans2 hm5 (S:=fun k=>k=b) (fun j hj e=>by rcases e with e|e <;> omega)).mv (fun _ _ h=>h)
         have H5B:Hid (B≤W5.heap.size):=Nat.le_trans HI3.out.bs hm5.size
         have HLE:Hid (s1.ts.length+1≤L0):=HIN.out.le
         have HWX:=h_ hW5
         clear hr hr0 hrq hrd hrm hst hxs hm5 hm5g hm5b hr5 hW5
         have HC:=h_ (xname_s W5 b K D _ HP5.out)
         go_upto_region 18 with fail
         rw [←HWX.out]
         clear HWX a5 f5 r1' f1'
         go_wp2_with fail
         refine HC.out.mono ?_
         rintro e w6 ⟨nx,NX,np,hnx,rfl,his,hp,hm⟩
         obtain ⟨m6,hm6⟩:∃m6,((Rs.ok () s1.drop:Rs Unit).go nameR).void=m6:=⟨_,rfl⟩
         rw [hm6] at hp
         have HE6:=h_ hm6
         have HC3:=h_ (H53.out.mv hm n3b)
         have hc3:=HC3.out
         unfold bdC at hc3
         have HC3':=h_ hc3
         have c2:w6.cell? ⟨g3,2,none⟩=some (txV x.initial):=HC3'.out.c 2 rfl
         obtain ⟨YI,hYI⟩:∃YI,txV x.initial=.string YI:=⟨_,rfl⟩
         rw [hYI] at c2
         have f2:=HC3'.out.fr 2
         obtain ⟨W7,hW7⟩:∃W,W=w6.setCell ⟨g3,2,none⟩ (.string NX):=⟨_,rfl⟩
         have hm7:Mv g3 w6 W7:=by rw [hW7];exact (Mv.refl g3 w6).set 2 _
         have H73:Hid (CB W7 g3 28 (bdC kd X (txV nx) v1 v2 v3 (.slice none 0 0) p)):=by
          rw [hW7,hnx]
          exact HC3.out.set 2 (.string NX)
         have H7Q:=h_ ((H5Q.out.ch (Ch.of_mv hm) (fun g hg _ e=>by have e':g=b:=e;omega)).ch (Ch.of_mv hm7) (fun g hg _ e=>by have e':g=g3:=e;omega))
         have H74:=h_ ((H54.out.mv hm n4b).mv hm7 (by omega))
         have H75:=h_ ((H55.out.mv hm n5b).mv hm7 (by omega))
         have H76:=h_ ((H56.out.mv hm n6b).mv hm7 (by omega))
         have H7M:Hid (Mv b w W7):=by rw [hW7];exact (H5M.out.trans hm).put 2 g3 hw3 _
         have H7B:Hid (B≤W7.heap.size):=Nat.le_trans (Nat.le_trans H5B.out (World.grownBy.size hm)) (World.grownBy.size hm7)
         have H7P:Hid (XS W7 b K D m6):=hp.ch (Ch.of_mv hm7) (fun k e=>by have e':k=g3:=e;omega)
         have HIS:=h_ his
         have HWY:=h_ hW7
         clear hnx his hp hm hm6 hc3 hW7 hm7 HC hYI
         go_upto_region 19 with fail
         rw [←HWY.out]
         clear HWY c2 f2 HC3 HC3'
         have HC:=h_ (xmust_s W7 b K D _ H7P.out 4 ⟨#[59]⟩ (by decide))
         go_wp2_with fail
         refine HC.out.mono ?_
         rintro e w8 ⟨rfl,hp,hm⟩
         obtain ⟨m8,hm8⟩:∃m8,m6.go (mustR 4 [59])=m8:=⟨_,rfl⟩
         replace hp:XS w8 b K D m8:=by rw [←hm8];exact hp
         have HCL:Hid (clauseS x s1=m8.go fun s'=>.ok (⟨nx,x.enter,x.leave,x.moves,true,x.he,x.hl⟩,true) s'):=by
          show _=_
          rw [init_clause HAT.out,←hm8]
          exact init_out (by unfold onceR;rw [HHH.out,if_neg (by decide)]) HIS.out HE6.out
         have HI8:Hid (XyI w b g3 g4 g5 g6 B K D kd X p m T1 w8 ⟨nx,x.enter,x.leave,x.moves,true,x.he,x.hl⟩ m8 v1 v2 v3 F1 F2 F3):=⟨hp,H73.out.mv hm n3b,H7Q.out.ch (Ch.of_mv hm) (fun g hg _ e=>by have e':g=b:=e;omega),H74.out.mv hm n4b,H75.out.mv hm n5b,H76.out.mv hm n6b,H7M.out.trans hm,Nat.le_trans H7B.out (World.grownBy.size hm),by rw [HI3.out.eq,Rs.go_ok,clause_more HCL.out],fun _=>HI3.out.ok ⟨s1,rfl⟩,fun s e=>by have h1:=HI3.out.len s1 rfl;have h2:=clause_left HCL.out;rw [e] at h2;have:=ok_len h2;show x.moves.length+_≤_;omega⟩
         have HIN':Hid (InC L0 (0+1) true m8):=⟨Nat.le_of_lt (Nat.lt_of_lt_of_le (clause_left HCL.out) HLE.out),fun _=>Nat.lt_of_lt_of_le (clause_left HCL.out) HLE.out,fun h=>(by cases h)⟩
         clear hp hm hm8 HC
         go_wp2_with fail
         go_roundw
         case rel=>exact ⟨1,true,_,_,v1,v2,v3,F1,F2,F3,rfl,.inr (.inl ⟨rfl,rfl⟩),HI8,HIN'⟩
         case measure=>simp [intOf]
      ·have HC:=h_ (xis_s wr b K D _ HI.out.xs 2 ⟨#[101,110,116,101,114]⟩)
       obtain ⟨d0,hd0⟩:∃d0,(m2.tell fun s=>isAt 2 wEnter s.ts)=d0:=⟨_,rfl⟩
       replace HC:Hid (Calls Tryz.prog 43 #[.pointer (some ⟨b,0,none⟩),.int .i64 2,.string ⟨#[101,110,116,101,114]⟩] wr fun e w'=>e=.returned (.bool d0)∧Below wr.heap.size wr w'):=by rw [←hd0];exact HC
       have HD0:=h_ hd0
       have u1:wr.cell? ⟨g6,1,none⟩=some (.string ⟨#[101,110,116,101,114]⟩):=HI.out.c6.c 1 rfl
       obtain ⟨hh,hhh⟩:∃hh,x.he=hh:=⟨_,rfl⟩
       have HHH:=h_ hhh
       clear hd0
       go_wp2_with fail
       refine HC.out.mono ?_
       rintro e w3 ⟨rfl,hb⟩
       have HI3:=h_ (HI.out.below hb)
       have a5:w3.cell? ⟨g5,1,none⟩=some (.bool hh):=by
        have:=HI3.out.c5.c 1 rfl
        rw [HHH.out] at this
        exact this
       have f5:=HI3.out.c5.fr 1
       clear hb HC u1 hhh
       cases d0 with
       |false =>
        have HIN':Hid (InC L0 (1+1) more m2):=⟨HIN.out.le,HIN.out.lt,fun hm s e j u hj hu=>by
         rcases Nat.lt_succ_iff_lt_or_eq.1 hj with h|h
         ·exact HIN.out.no hm s e j u h hu
         ·subst h
          have h0:=HD0.out
          rw [e] at h0
          have:wEnter=u:=by simpa using hu
          rw [←this]
          exact h0⟩
        clear f5
        go_wp2_with fail
        go_roundw
        case rel=>exact ⟨2,more,x,m2,v1,v2,v3,F1,F2,F3,rfl,.inr (.inr (.inl ⟨rfl,rfl⟩)),HI3,HIN'⟩
        case measure=>simp [intOf]
       |true =>
        obtain ⟨s1,hs1,hat⟩:=Rs.tell_true HD0.out
        subst hs1
        have HAT:=h_ hat
        clear hat
        cases hh with
        |true =>
         have HCL:Hid (clauseS x s1=wrongR s1.ts):=by
          show _=_
          rw [enter_clause HAT.out]
          unfold enterS
          rw [HHH.out,if_pos rfl]
         have HC:=h_ (xwrong_s w3 b K D _ HI3.out.xs)
         have HLL:Hid (0<L0):=by have:=HIN.out.le;show 0<L0;exact Nat.lt_of_lt_of_le (Nat.succ_pos _) this
         clear f5
         go_wp2_with fail
         refine HC.out.mono ?_
         rintro e w4 ⟨rfl,hp,hm⟩
         obtain ⟨c,q,hbad⟩:∃c q,(wrongR s1.ts:Rs Unit)=.bad c q:=wrong_bad' _
         replace hp:XS w4 b K D (.bad c q):=by rw [←hbad];exact hp
         have a6:w4.cell? ⟨g5,1,none⟩=some (.bool true):=by
          have:=(HI3.out.c5.mv hm n5b).c 1 rfl
          rw [HHH.out] at this
          exact this
         have HI4:Hid (XyI w b g3 g4 g5 g6 B K D kd X p m T1 w4 x (.bad c q) v1 v2 v3 F1 F2 F3):=⟨hp,HI3.out.c3.mv hm n3b,HI3.out.q4.ch (Ch.of_mv hm) (fun g hg _ e=>by have e':g=b:=e;omega),HI3.out.c4.mv hm n4b,HI3.out.c5.mv hm n5b,HI3.out.c6.mv hm n6b,HI3.out.mv.trans hm,Nat.le_trans HI3.out.bs (World.grownBy.size hm),by rw [HI3.out.eq,Rs.go_ok,clause_wrong HCL.out,hbad],fun ⟨s,e⟩=>(by cases e),fun s e=>(by cases e)⟩
         have HIN':Hid (InC L0 (1+1) more (.bad c q)):=⟨Nat.zero_le _,fun _=>HLL.out,fun _ s e=>(by cases e)⟩
         clear hp hm hbad HC a5
         go_wp2_with fail
         go_roundw
         case rel=>exact ⟨2,more,x,_,v1,v2,v3,F1,F2,F3,rfl,.inr (.inr (.inl ⟨rfl,rfl⟩)),HI4,HIN'⟩
         case measure=>simp [intOf]
        |false =>
         obtain ⟨r,hr,hr0,hrq,hrd,hrm⟩:=HI3.out.xs.out
         obtain ⟨hst,hxs⟩:=hrm.step (isAt_kind HAT.out (by decide)) HI3.out.xs.at_.1
         have hrq1:r.q≤100000:=by have:=HN.out;omega
         have hm5g:Mv g5 w3 (w3.setCell ⟨g5,1,none⟩ (.bool true)):=(Mv.refl g5 w3).set 1 _
         have r1':(w3.setCell ⟨g5,1,none⟩ (.bool true)).cell? ⟨b,1,none⟩=some (.int .i64 (r.q:Int)):=(hr.mv hm5g (Ne.symm n5b)).c1
         have f1':(w3.setCell ⟨g5,1,none⟩ (.bool true)).frozen? ⟨b,1,none⟩=false:=(hr.mv hm5g (Ne.symm n5b)).fr 1
         obtain ⟨W5,hW5⟩:∃W,W=(w3.setCell ⟨g5,1,none⟩ (.bool true)).setCell ⟨b,1,none⟩ (.int .i64 ((r.q:Int)+1)):=⟨_,rfl⟩
         have hm5:Ch (fun k=>k=b∨k=g5) w3 W5:=by rw [hW5];exact ((Ch.refl _ w3).set (.inl (.inr rfl)) 1 _).set (.inl (.inl rfl)) 1 _
         have hm5b:Mv b (w3.setCell ⟨g5,1,none⟩ (.bool true)) W5:=by rw [hW5];exact (Mv.refl b _).set 1 _
         have hr5:RvB W5 b { r with q:=r.q+1 }:=by
          rw [hW5]
          have:=(hr.mv hm5g (Ne.symm n5b)).setq (r.q+1)
          rw [Int.natCast_add] at this
          exact this
         have HP5:Hid (XS W5 b K D (.ok () s1.drop)):=(HI3.out.xs.ch (Ch.of_mv hm5g) (fun k e=>by have e':k=g5:=e;omega)).turn hm5b hr5 hr0 hst hrd hxs
         have H53:Hid (CB W5 g3 28 (bdC kd X (txV x.initial) v1 v2 v3 (.slice none 0 0) p)):=HI3.out.c3.ch hm5 (fun e=>by rcases e with e|e <;> omega)
         have H5Q:=h_ (HI3.out.q4.ch hm5 (fun g hg _ e=>by rcases e with e|e <;> omega))
         have H54:=h_ (HI3.out.c4.ch hm5 (fun e=>by rcases e with e|e <;> omega))
         have H55:Hid (CB W5 g5 95 [.bool x.hi,.bool true,.bool x.hl]):=(HI3.out.c5.set 1 (.bool true)).mv hm5b n5b
         have H56:=h_ (HI3.out.c6.ch hm5 (fun e=>by rcases e with e|e <;> omega))
         have H5M:Hid (Mv b w W5):=((Ch.of_mv HI3.out.mv).trans2 hm5 (S:=fun k=>k=b) (fun j hj e=>by rcases e with e|e <;> omega)).mv (fun _ _ h=>h)
         have H5B:Hid (B≤W5.heap.size):=Nat.le_trans HI3.out.bs hm5.size
         have HLE:Hid (s1.ts.length+1≤L0):=HIN.out.le
         have HWX:=h_ hW5
         clear hr hr0 hrq hrd hrm hst hxs hm5 hm5g hm5b hr5 hW5
         have HC:=h_ (xblock_s W5 b K D _ HP5.out)
         go_upto_region 21 with fail
         rw [←HWX.out]
         clear HWX a5 f5 r1' f1'
         go_wp2_with fail
         refine HC.out.mono ?_
         rintro e w6 ⟨la,va,rfl,his,hrp,hp,hm⟩
         obtain ⟨Av,nv,cv,rfl⟩:=hrp.slice
         obtain ⟨F',hd',hn',hl'⟩:=hrp.one
         obtain ⟨m8,hm8⟩:∃m8,((Rs.ok () s1.drop:Rs Unit).go blockR).void=m8:=⟨_,rfl⟩
         rw [hm8] at hp
         have HC3:=h_ (H53.out.mv hm n3b)
         have hc3:=HC3.out
         unfold bdC at hc3
         have HC3':=h_ hc3
         obtain ⟨Ao,co,hvo,_,_⟩:=xacts_slice H5Q.out.a1
         have c4:=HC3'.out.c 4 rfl
         rw [hvo] at c4
         have f4:=HC3'.out.fr 4
         obtain ⟨W7,hW7⟩:∃W,W=w6.setCell ⟨g3,4,none⟩ (.slice Av nv cv):=⟨_,rfl⟩
         have hm7:Mv g3 w6 W7:=by rw [hW7];exact (Mv.refl g3 w6).set 4 _
         have hq6:Q4 w6 B (dvActs false la) (dvActs false x.leave) (dvMoves false x.moves) (dvKids false []) (.slice Av nv cv) v2 v3 (.slice none 0 0) F' F2 F3 []:=H5Q.out.up1 (Ch.of_mv hm) (fun g hg _ e=>by have e':g=b:=e;omega) hd' hn' (fun g hg=>.inr (hl' g hg)) H5B.out
         have HCL:Hid (clauseS x s1=m8.go fun s'=>.ok (⟨x.initial,la,x.leave,x.moves,x.hi,true,x.hl⟩,true) s'):=by
          show _=_
          rw [enter_clause HAT.out]
          exact enter_out (by unfold onceR;rw [HHH.out,if_neg (by decide)]) his hm8
         have HI8:Hid (XyI w b g3 g4 g5 g6 B K D kd X p m T1 W7 ⟨x.initial,la,x.leave,x.moves,x.hi,true,x.hl⟩ m8 (.slice Av nv cv) v2 v3 F' F2 F3):=by
          refine ⟨hp.ch (Ch.of_mv hm7) (fun k e=>by have e':k=g3:=e;omega),?_,hq6.ch (Ch.of_mv hm7) (fun g hg _ e=>by have e':g=g3:=e;omega),(H54.out.mv hm n4b).mv hm7 (by omega),(H55.out.mv hm n5b).mv hm7 (by omega),(H56.out.mv hm n6b).mv hm7 (by omega),?_,Nat.le_trans (Nat.le_trans H5B.out (World.grownBy.size hm)) (World.grownBy.size hm7),by rw [HI3.out.eq,Rs.go_ok,clause_more HCL.out],fun _=>HI3.out.ok ⟨s1,rfl⟩,fun s e=>by have h1:=HI3.out.len s1 rfl;have h2:=clause_left HCL.out;rw [e] at h2;have:=ok_len h2;show x.moves.length+_≤_;omega⟩
          ·rw [hW7]
           exact HC3.out.set 4 (.slice Av nv cv)
          ·rw [hW7]
           exact (H5M.out.trans hm).put 4 g3 hw3 _
         have HIN':Hid (InC L0 (1+1) true m8):=⟨Nat.le_of_lt (Nat.lt_of_lt_of_le (clause_left HCL.out) HLE.out),fun _=>Nat.lt_of_lt_of_le (clause_left HCL.out) HLE.out,fun h=>(by cases h)⟩
         have HWY:=h_ hW7
         clear his hrp hp hm hm8 hc3 hW7 hm7 hq6 hd' hn' hl' HC hvo
         go_upto_region 8 with fail
         rw [←HWY.out]
         clear HWY c4 f4 HC3 HC3'
         go_wp2_with fail
         go_roundw
         case rel=>exact ⟨2,true,_,_,(.slice Av nv cv),v2,v3,F',F2,F3,rfl,.inr (.inr (.inl ⟨rfl,rfl⟩)),HI8,HIN'⟩
         case measure=>simp [intOf]
      ·have HC:=h_ (xis_s wr b K D _ HI.out.xs 2 ⟨#[108,101,97,118,101]⟩)
       obtain ⟨d0,hd0⟩:∃d0,(m2.tell fun s=>isAt 2 wLeave s.ts)=d0:=⟨_,rfl⟩
       replace HC:Hid (Calls Tryz.prog 43 #[.pointer (some ⟨b,0,none⟩),.int .i64 2,.string ⟨#[108,101,97,118,101]⟩] wr fun e w'=>e=.returned (.bool d0)∧Below wr.heap.size wr w'):=by rw [←hd0];exact HC
       have HD0:=h_ hd0
       have u1:wr.cell? ⟨g6,2,none⟩=some (.string ⟨#[108,101,97,118,101]⟩):=HI.out.c6.c 2 rfl
       obtain ⟨hh,hhh⟩:∃hh,x.hl=hh:=⟨_,rfl⟩
       have HHH:=h_ hhh
       clear hd0
       go_wp2_with fail
       refine HC.out.mono ?_
       rintro e w3 ⟨rfl,hb⟩
       have HI3:=h_ (HI.out.below hb)
       have a5:w3.cell? ⟨g5,2,none⟩=some (.bool hh):=by
        have:=HI3.out.c5.c 2 rfl
        rw [HHH.out] at this
        exact this
       have f5:=HI3.out.c5.fr 2
       clear hb HC u1 hhh
       cases d0 with
       |false =>
        have HIN':Hid (InC L0 (2+1) more m2):=⟨HIN.out.le,HIN.out.lt,fun hm s e j u hj hu=>by
         rcases Nat.lt_succ_iff_lt_or_eq.1 hj with h|h
         ·exact HIN.out.no hm s e j u h hu
         ·subst h
          have h0:=HD0.out
          rw [e] at h0
          have:wLeave=u:=by simpa using hu
          rw [←this]
          exact h0⟩
        clear f5
        go_wp2_with fail
        go_roundw
        case rel=>exact ⟨3,more,x,m2,v1,v2,v3,F1,F2,F3,rfl,.inr (.inr (.inr ⟨rfl,rfl⟩)),HI3,HIN'⟩
        case measure=>simp [intOf]
       |true =>
        obtain ⟨s1,hs1,hat⟩:=Rs.tell_true HD0.out
        subst hs1
        have HAT:=h_ hat
        clear hat
        cases hh with
        |true =>
         have HCL:Hid (clauseS x s1=wrongR s1.ts):=by
          show _=_
          rw [leave_clause HAT.out]
          unfold leaveS
          rw [HHH.out,if_pos rfl]
         have HC:=h_ (xwrong_s w3 b K D _ HI3.out.xs)
         have HLL:Hid (0<L0):=by have:=HIN.out.le;show 0<L0;exact Nat.lt_of_lt_of_le (Nat.succ_pos _) this
         clear f5
         go_wp2_with fail
         refine HC.out.mono ?_
         rintro e w4 ⟨rfl,hp,hm⟩
         obtain ⟨c,q,hbad⟩:∃c q,(wrongR s1.ts:Rs Unit)=.bad c q:=wrong_bad' _
         replace hp:XS w4 b K D (.bad c q):=by rw [←hbad];exact hp
         have a6:w4.cell? ⟨g5,2,none⟩=some (.bool true):=by
          have:=(HI3.out.c5.mv hm n5b).c 2 rfl
          rw [HHH.out] at this
          exact this
         have HI4:Hid (XyI w b g3 g4 g5 g6 B K D kd X p m T1 w4 x (.bad c q) v1 v2 v3 F1 F2 F3):=⟨hp,HI3.out.c3.mv hm n3b,HI3.out.q4.ch (Ch.of_mv hm) (fun g hg _ e=>by have e':g=b:=e;omega),HI3.out.c4.mv hm n4b,HI3.out.c5.mv hm n5b,HI3.out.c6.mv hm n6b,HI3.out.mv.trans hm,Nat.le_trans HI3.out.bs (World.grownBy.size hm),by rw [HI3.out.eq,Rs.go_ok,clause_wrong HCL.out,hbad],fun ⟨s,e⟩=>(by cases e),fun s e=>(by cases e)⟩
         have HIN':Hid (InC L0 (2+1) more (.bad c q)):=⟨Nat.zero_le _,fun _=>HLL.out,fun _ s e=>(by cases e)⟩
         clear hp hm hbad HC a5
         go_wp2_with fail
         go_roundw
         case rel=>exact ⟨3,more,x,_,v1,v2,v3,F1,F2,F3,rfl,.inr (.inr (.inr ⟨rfl,rfl⟩)),HI4,HIN'⟩
         case measure=>simp [intOf]
        |false =>
         obtain ⟨r,hr,hr0,hrq,hrd,hrm⟩:=HI3.out.xs.out
         obtain ⟨hst,hxs⟩:=hrm.step (isAt_kind HAT.out (by decide)) HI3.out.xs.at_.1
         have hrq1:r.q≤100000:=by have:=HN.out;omega
         have hm5g:Mv g5 w3 (w3.setCell ⟨g5,2,none⟩ (.bool true)):=(Mv.refl g5 w3).set 2 _
         have r1':(w3.setCell ⟨g5,2,none⟩ (.bool true)).cell? ⟨b,1,none⟩=some (.int .i64 (r.q:Int)):=(hr.mv hm5g (Ne.symm n5b)).c1
         have f1':(w3.setCell ⟨g5,2,none⟩ (.bool true)).frozen? ⟨b,1,none⟩=false:=(hr.mv hm5g (Ne.symm n5b)).fr 1
         obtain ⟨W5,hW5⟩:∃W,W=(w3.setCell ⟨g5,2,none⟩ (.bool true)).setCell ⟨b,1,none⟩ (.int .i64 ((r.q:Int)+1)):=⟨_,rfl⟩
         have hm5:Ch (fun k=>k=b∨k=g5) w3 W5:=by rw [hW5];exact ((Ch.refl _ w3).set (.inl (.inr rfl)) 2 _).set (.inl (.inl rfl)) 1 _
         have hm5b:Mv b (w3.setCell ⟨g5,2,none⟩ (.bool true)) W5:=by rw [hW5];exact (Mv.refl b _).set 1 _
         have hr5:RvB W5 b { r with q:=r.q+1 }:=by
          rw [hW5]
          have:=(hr.mv hm5g (Ne.symm n5b)).setq (r.q+1)
          rw [Int.natCast_add] at this
          exact this
         have HP5:Hid (XS W5 b K D (.ok () s1.drop)):=(HI3.out.xs.ch (Ch.of_mv hm5g) (fun k e=>by have e':k=g5:=e;omega)).turn hm5b hr5 hr0 hst hrd hxs
         have H53:Hid (CB W5 g3 28 (bdC kd X (txV x.initial) v1 v2 v3 (.slice none 0 0) p)):=HI3.out.c3.ch hm5 (fun e=>by rcases e with e|e <;> omega)
         have H5Q:=h_ (HI3.out.q4.ch hm5 (fun g hg _ e=>by rcases e with e|e <;> omega))
         have H54:=h_ (HI3.out.c4.ch hm5 (fun e=>by rcases e with e|e <;> omega))
         have H55:Hid (CB W5 g5 95 [.bool x.hi,.bool x.he,.bool true]):=(HI3.out.c5.set 2 (.bool true)).mv hm5b n5b
         have H56:=h_ (HI3.out.c6.ch hm5 (fun e=>by rcases e with e|e <;> omega))
         have H5M:Hid (Mv b w W5):=((Ch.of_mv HI3.out.mv).trans2 hm5 (S:=fun k=>k=b) (fun j hj e=>by rcases e with e|e <;> omega)).mv (fun _ _ h=>h)
         have H5B:Hid (B≤W5.heap.size):=Nat.le_trans HI3.out.bs hm5.size
         have HLE:Hid (s1.ts.length+1≤L0):=HIN.out.le
         have HWX:=h_ hW5
         clear hr hr0 hrq hrd hrm hst hxs hm5 hm5g hm5b hr5 hW5
         have HC:=h_ (xblock_s W5 b K D _ HP5.out)
         go_upto_region 23 with fail
         rw [←HWX.out]
         clear HWX a5 f5 r1' f1'
         go_wp2_with fail
         refine HC.out.mono ?_
         rintro e w6 ⟨la,va,rfl,his,hrp,hp,hm⟩
         obtain ⟨Av,nv,cv,rfl⟩:=hrp.slice
         obtain ⟨F',hd',hn',hl'⟩:=hrp.one
         obtain ⟨m8,hm8⟩:∃m8,((Rs.ok () s1.drop:Rs Unit).go blockR).void=m8:=⟨_,rfl⟩
         rw [hm8] at hp
         have HC3:=h_ (H53.out.mv hm n3b)
         have hc3:=HC3.out
         unfold bdC at hc3
         have HC3':=h_ hc3
         obtain ⟨Ao,co,hvo,_,_⟩:=xacts_slice H5Q.out.a2
         have c5:=HC3'.out.c 5 rfl
         rw [hvo] at c5
         have f5:=HC3'.out.fr 5
         obtain ⟨W7,hW7⟩:∃W,W=w6.setCell ⟨g3,5,none⟩ (.slice Av nv cv):=⟨_,rfl⟩
         have hm7:Mv g3 w6 W7:=by rw [hW7];exact (Mv.refl g3 w6).set 5 _
         have hq6:Q4 w6 B (dvActs false x.enter) (dvActs false la) (dvMoves false x.moves) (dvKids false []) v1 (.slice Av nv cv) v3 (.slice none 0 0) F1 F' F3 []:=H5Q.out.up2 (Ch.of_mv hm) (fun g hg _ e=>by have e':g=b:=e;omega) hd' hn' (fun g hg=>.inr (hl' g hg)) H5B.out
         have HCL:Hid (clauseS x s1=m8.go fun s'=>.ok (⟨x.initial,x.enter,la,x.moves,x.hi,x.he,true⟩,true) s'):=by
          show _=_
          rw [leave_clause HAT.out]
          exact leave_out (by unfold onceR;rw [HHH.out,if_neg (by decide)]) his hm8
         have HI8:Hid (XyI w b g3 g4 g5 g6 B K D kd X p m T1 W7 ⟨x.initial,x.enter,la,x.moves,x.hi,x.he,true⟩ m8 v1 (.slice Av nv cv) v3 F1 F' F3):=by
          refine ⟨hp.ch (Ch.of_mv hm7) (fun k e=>by have e':k=g3:=e;omega),?_,hq6.ch (Ch.of_mv hm7) (fun g hg _ e=>by have e':g=g3:=e;omega),(H54.out.mv hm n4b).mv hm7 (by omega),(H55.out.mv hm n5b).mv hm7 (by omega),(H56.out.mv hm n6b).mv hm7 (by omega),?_,Nat.le_trans (Nat.le_trans H5B.out (World.grownBy.size hm)) (World.grownBy.size hm7),by rw [HI3.out.eq,Rs.go_ok,clause_more HCL.out],fun _=>HI3.out.ok ⟨s1,rfl⟩,fun s e=>by have h1:=HI3.out.len s1 rfl;have h2:=clause_left HCL.out;rw [e] at h2;have:=ok_len h2;show x.moves.length+_≤_;omega⟩
          ·rw [hW7]
           exact HC3.out.set 5 (.slice Av nv cv)
          ·rw [hW7]
           exact (H5M.out.trans hm).put 5 g3 hw3 _
         have HIN':Hid (InC L0 (2+1) true m8):=⟨Nat.le_of_lt (Nat.lt_of_lt_of_le (clause_left HCL.out) HLE.out),fun _=>Nat.lt_of_lt_of_le (clause_left HCL.out) HLE.out,fun h=>(by cases h)⟩
         have HWY:=h_ hW7
         clear his hrp hp hm hm8 hc3 hW7 hm7 hq6 hd' hn' hl' HC hvo
         go_upto_region 8 with fail
         rw [←HWY.out]
         clear HWY c5 f5 HC3 HC3'
         go_wp2_with fail
         go_roundw
         case rel=>exact ⟨3,true,_,_,v1,(.slice Av nv cv),v3,F1,F',F3,rfl,.inr (.inr (.inr ⟨rfl,rfl⟩)),HI8,HIN'⟩
         case measure=>simp [intOf]
      ·have HC:=h_ (xmoving_s wr b K D _ HI.out.xs)
       obtain ⟨k,hk⟩:∃k,(m2.num fun s=>moveK s.ts)=k:=⟨_,rfl⟩
       rw [hk] at HC
       have HKK:=h_ hk
       clear hk
       go_wp2_with fail
       refine HC.out.mono ?_
       rintro e w3 ⟨rfl,hb⟩
       have HI3:=h_ (HI.out.below hb)
       clear hb HC
       by_cases hk0:k=0
       ·have hkz:¬(k:Int) > 0:=by omega
        have hkd:decide ((k:Int) > 0)=false:=decide_eq_false hkz
        have hkn:decide (0<k)=false:=decide_eq_false (by omega)
        have HK0:=h_ hk0
        have HNX:Hid (more=false→∀s,m2=.ok () s→clauseS x s=.ok (x,false) s):=fun hm s e=>none_clause (fun j u hj hu=>HIN.out.no hm s e j u hj hu) (by have h1:=HKK.out;rw [e,HK0.out] at h1;exact h1)
        have HMS:Hid (2*xleft w3 b K.n+b7N (.bool more)<2*XL+b7N (.bool true)):=by
         show _<_
         rw [HI3.out.xs.left,HX0.out]
         have h1:=HIN.out.le
         cases more with
         |false =>
          show 2*m2.leftX+0<2*L0+1
          omega
         |true =>
          have h2:=HIN.out.lt rfl
          show 2*m2.leftX+1<2*L0+1
          omega
        clear hk0
        go_wp2_with fail
        go_roundw
        case rel=>exact ⟨more,x,m2,v1,v2,v3,F1,F2,F3,rfl,HI3,HNX⟩
        case measure=>rw [HXL.out];exact HMS.out
       ·have hkz:(k:Int) > 0:=by omega
        have hkd:decide ((k:Int) > 0)=true:=decide_eq_true hkz
        have hkn:decide (0<k)=true:=decide_eq_true (by omega)
        obtain ⟨s1,hs1⟩:∃s1,m2=.ok () s1:=by
         have h1:=HKK.out
         cases m2 with
         |out=>exact absurd h1.symm hk0
         |bad c q=>exact absurd h1.symm hk0
         |ok u s1=>exact ⟨s1,rfl⟩
        subst hs1
        have HK1:Hid (moveK s1.ts=k):=HKK.out
        have HC:=h_ (xmove_s w3 b K D s1 k HI3.out.xs HK1.out hk0)
        have HK0:=h_ hk0
        clear hk0
        go_wp2_with fail
        refine HC.out.mono ?_
        rintro e w4 ⟨y,ys,rfl,hrp,hl,his,hp,hm⟩
        obtain ⟨FM,hdM,hnM,hlM⟩:=hrp
        have zo:=hdM.ones
        have hyM:=hdM
        obtain ⟨y0,y1,y2,y3,y4,y5,y6,y7,y8,y9,y10,y11,y12,rfl⟩:=cells13 hl
        obtain ⟨g11,hg11⟩:∃g,g=w4.heap.size:=⟨_,rfl⟩
        obtain ⟨W5,hW5⟩:∃W,W=w4.alloc (.cells #[y0,y1,y2,y3,y4,y5,y6,y7,y8,y9,y10,y11,y12] 56):=⟨_,rfl⟩
        have hb5:Below w4.heap.size w4 W5:=by rw [hW5];exact (b_ _ w4).alloc (n_ _) _
        have HA5:Hid (CB W5 g11 56 [y0,y1,y2,y3,y4,y5,y6,y7,y8,y9,y10,y11,y12]):=by rw [hW5,hg11];exact CB.new w4 _ [y0,y1,y2,y3,y4,y5,y6,y7,y8,y9,y10,y11,y12]
        have hm4:=World.grownBy.size hm
        have hs4:=hb5.size
        have hq5:=((HI3.out.q4.ch (Ch.of_mv hm) (fun g hg _ e=>by have e':g=b:=e;omega)).ch (Ch.of_below (S:=fun _=>False) hb5) (fun _ _ _ h=>h))
        have hlM':∀g∈FM,w3.heap.size≤g:=hlM
        have hbs:=HI3.out.bs
        have hrow5:=hq5.a3
        obtain ⟨Ao,co,hvo,_,_⟩:=DvAt.slice (show DvAt W5 (.row 56 13 x.moves.length (x.moves.flatMap (dvMove false))) v3 F3 from hrow5)
        subst hvo
        have hnl:x.moves.length≤1000000:=by have:=HI3.out.len s1 rfl;have:=HN.out;omega
        have hflt:=HI3.out.q4.a3.lt
        have hdis:∀a∈F3,a∉FM:=fun a ha hb=>by have:=hflt a ha;have:=hlM a hb;omega
        unfold dvMoves at hrow5
        obtain ⟨v',w',F',hr,a1,a2,a3,a4⟩:=app_dv W5 (t:=25) (ty:=25) Tryz.underlying25 infoMove rfl (by decide) (by decide) hrow5 hq5.n3 (hyM.below hb5) rfl hnM hdis hnl
        obtain ⟨An,cn,hvn,_,_⟩:=a1.slice
        subst hvn
        rw [←dvMoves_snoc] at a1
        have hF3:∀g∈F3,B≤g:=hq5.l3
        have n3F:¬g3∈F3:=fun h=>by have:=hF3 g3 h;omega
        have n4F:¬g4∈F3:=fun h=>by have:=hF3 g4 h;omega
        have n5F:¬g5∈F3:=fun h=>by have:=hF3 g5 h;omega
        have n6F:¬g6∈F3:=fun h=>by have:=hF3 g6 h;omega
        have H53:CB W5 g3 28 (bdC kd X (txV x.initial) v1 v2 (.slice Ao x.moves.length co) (.slice none 0 0) p):=(HI3.out.c3.mv hm n3b).below hb5
        have hc3:=H53
        unfold bdC at hc3
        have HC3:=h_ hc3
        have hc3':=H53.ch a4 n3F
        have HCX:=h_ hc3'
        unfold bdC at hc3'
        have HC3':=h_ hc3'
        have c6':=HC3'.out.c 6 rfl
        have f6':=HC3'.out.fr 6
        obtain ⟨W7,hW7⟩:∃W,W=w'.setCell ⟨g3,6,none⟩ (.slice An (x.moves.length+1) cn):=⟨_,rfl⟩
        have hm7:Mv g3 w' W7:=by rw [hW7];exact (Mv.refl g3 w').set 6 _
        obtain ⟨m8,hm8⟩:∃m8,(moveR s1).void=m8:=⟨_,rfl⟩
        rw [hm8] at hp
        have HCL:Hid (clauseS x s1=m8.go fun s'=>.ok (⟨x.initial,x.enter,x.leave,x.moves++[y],x.hi,x.he,x.hl⟩,true) s'):=by
         show _=_
         rw [move_clause (by rw [HK1.out];exact HK0.out),←hm8]
         exact mov_out (by rw [HK1.out];exact HK0.out) his
        have hq':Q4 w' B (dvActs false x.enter) (dvActs false x.leave) (dvMoves false (x.moves++[y])) (dvKids false []) v1 v2 (.slice An (x.moves.length+1) cn) (.slice none 0 0) F1 F2 F' []:=HI3.out.q4.up3 (S:=fun k=>k=b∨k∈F3) ((((Ch.of_mv hm).mono (fun _ _ h=>.inl h)).trans (Ch.of_below hb5)).trans2 a4 (fun j _ h=>.inr h)) (fun g h1 _ h=>h.resolve_left (fun e=>by omega)) a1 a2 (fun g hg=>by
         rcases a3 g hg with h|h|h
         ·exact .inl h
         ·exact .inr (hlM' g h)
         ·exact .inr (by omega)) (by omega)
        have HI8:Hid (XyI w b g3 g4 g5 g6 B K D kd X p m T1 W7 ⟨x.initial,x.enter,x.leave,x.moves++[y],x.hi,x.he,x.hl⟩ m8 v1 v2 (.slice An (x.moves.length+1) cn) F1 F2 F'):=by
         refine ⟨((hp.below hb5).ch a4 (fun k hk=>by have:=hF3 k hk;omega)).ch (Ch.of_mv hm7) (fun k e=>by have e':k=g3:=e;omega),?_,hq'.ch (Ch.of_mv hm7) (fun g hg _ e=>by have e':g=g3:=e;omega),(((HI3.out.c4.mv hm n4b).below hb5).ch a4 n4F).mv hm7 (by omega),(((HI3.out.c5.mv hm n5b).below hb5).ch a4 n5F).mv hm7 (by omega),(((HI3.out.c6.mv hm n6b).below hb5).ch a4 n6F).mv hm7 (by omega),?_,?_,by rw [HI3.out.eq,Rs.go_ok,clause_more HCL.out],fun _=>HI3.out.ok ⟨s1,rfl⟩,fun s e=>by have h1:=HI3.out.len s1 rfl;have h2:=clause_left HCL.out;rw [e] at h2;have:=ok_len h2;show (x.moves++[y]).length+_≤_;rw [List.length_append,List.length_singleton];omega⟩
         ·rw [hW7]
          exact HCX.out.set 6 (.slice An (x.moves.length+1) cn)
         ·rw [hW7]
          have h1:Ch (fun k=>k=b) w w':=((Ch.of_mv (HI3.out.mv.trans hm)).trans (Ch.of_below hb5)).trans2 a4 (fun j hj hs=>by have:=hF3 j hs;omega)
          exact (h1.mv (fun _ _ h=>h)).put 6 g3 hw3 _
         ·have h1:=a4.size
          have h2:=World.grownBy.size hm7
          omega
        have HMS:Hid (2*xleft W7 b K.n+b7N (.bool true)<2*XL+b7N (.bool true)):=by
         show _<_
         rw [HI8.out.xs.left,HX0.out]
         have h1:=HIN.out.le
         have h2:=clause_left HCL.out
         show 2*m8.leftX+1<2*L0+1
         omega
        have HRN:=h_ hr
        have HWX:=h_ hW5
        have HWY:=h_ hW7
        have st:∀u∈[y0,y1,y2,y3,y4,y5,y6,y7,y8,y9,y10,y11,y12],∀(w:World) (a:Addr),(store a u).run Tryz.prog w=stored Tryz.prog w a u .plain:=fun u hu w a=>run_store _ w a u .plain (zo u hu)
        have s0:=st y0 (by simp)
        have s1:=st y1 (by simp)
        have s2:=st y2 (by simp)
        have s3:=st y3 (by simp)
        have s4:=st y4 (by simp)
        have s5:=st y5 (by simp)
        have s6:=st y6 (by simp)
        have s7:=st y7 (by simp)
        have s8:=st y8 (by simp)
        have s9:=st y9 (by simp)
        have s10:=st y10 (by simp)
        have s11:=st y11 (by simp)
        have s12:=st y12 (by simp)
        clear st zo hl his hp hm hdM hnM hlM hlM' hyM hb5 hrow5 hnl hdis hr a1 a2 a3 a4 hflt hF3 n3F n4F n5F n6F H53 hc3 hc3' hm7 hm8 hq' hq5 hW5 hW7 hm4 hs4 hbs HC
        go_upto_region 27 with fail
        rw [←HWX.out,←hg11]
        clear HWX hg11 s0 s1 s2 s3 s4 s5 s6 s7 s8 s9 s10 s11 s12
        have c6:=HC3.out.c 6 rfl
        have z0:=HA5.out.c 0 rfl
        have z1:=HA5.out.c 1 rfl
        have z2:=HA5.out.c 2 rfl
        have z3:=HA5.out.c 3 rfl
        have z4:=HA5.out.c 4 rfl
        have z5:=HA5.out.c 5 rfl
        have z6:=HA5.out.c 6 rfl
        have z7:=HA5.out.c 7 rfl
        have z8:=HA5.out.c 8 rfl
        have z9:=HA5.out.c 9 rfl
        have z10:=HA5.out.c 10 rfl
        have z11:=HA5.out.c 11 rfl
        have z12:=HA5.out.c 12 rfl
        go_wp2_with (at_builtin;refine Lib.wpList_append_run _ rfl _ _ _ _ rfl _ _ rfl rfl _ _ HRN.out ?_)
        clear c6 z0 z1 z2 z3 z4 z5 z6 z7 z8 z9 z10 z11 z12 HRN HC3
        go_upto_region 28 with fail
        rw [←HWY.out]
        clear HWY c6' f6' HC3' HCX
        go_wp2_with fail
        go_roundw
        case rel=>exact ⟨true,_,_,v1,v2,_,F1,F2,F',rfl,HI8,fun h=>(by cases h)⟩
        case measure=>rw [HXL.out];exact HMS.out
 case rest =>
 obtain ⟨x,m2,v1,v2,v3,F1,F2,F3,HI,HF⟩:=hcut
 have HT1E:Hid (T1=m2.go fun s=>.ok x s):=by
  show _=_
  rw [HI.out.eq]
  cases m2 with
  |out=>rfl
  |bad c q=>rfl
  |ok u s =>
   show It clauseS x s=.ok x s
   exact clause_end (HF.out s rfl)
 obtain ⟨T2,hT2⟩:∃T2,m2.go (It (kidS (nodeR d)) [])=T2:=⟨_,rfl⟩
 have HT2:=h_ hT2
 have HZ0:Hid (XzI w b g3 g4 B K D d kd X p m x T2 wc [] m2 v1 v2 v3 (.slice none 0 0) F1 F2 F3 []):=⟨HI.out.xs,HI.out.c3,HI.out.q4,HI.out.c4,HI.out.mv,HI.out.bs,hT2.symm,HI.out.ok,fun s e=>by subst e;have:=HI.out.xs.len;simpa using this⟩
 have HTK:=h_ (nodeR_takes d)
 clear hT2 HI HF HI0
 go_wp2_with fail
 go_loopw [] (fun wr=>∃l m3 v4 F4,Hid (XzI w b g3 g4 B K D d kd X p m x T2 wr l m3 v1 v2 v3 v4 F1 F2 F3 F4)) (fun wr=>xleft wr b K.n)
 case atStart=>exact ⟨[],m2,_,[],HZ0⟩
 case round =>
  obtain ⟨l,m3,v4,F4,HI⟩:=hrel
  clear HZ0
  obtain ⟨cc,r6,hcc⟩:=HI.out.xs.code
  have HLE:Hid (xleft wr b K.n=m3.leftX):=HI.out.xs.left
  cases m3 with
  |out=>exact absurd rfl HI.out.xs.notOut
  |bad c q =>
   rw [Rs.tell_bad] at hcc
   have HZ:Hid (T2=(Rs.bad c q:Rs Unit).go fun s=>.ok l s):=HI.out.eq
   obtain ⟨Y,hY⟩:∃Y,txV x.initial=.string Y:=⟨_,rfl⟩
   obtain ⟨A1,e1,hv1,_,_⟩:=xacts_slice HI.out.q4.a1
   obtain ⟨A2,e2,hv2,_,_⟩:=xacts_slice HI.out.q4.a2
   obtain ⟨A3,e3,hv3,_,_⟩:=DvAt.slice (show DvAt _ (.row 56 13 x.moves.length (x.moves.flatMap (dvMove false))) v3 F3 from HI.out.q4.a3)
   obtain ⟨A4,e4,hv4,_,_⟩:=DvAt.slice (show DvAt _ (.row 28 9 l.length (dvNodes false l)) v4 F4 from HI.out.q4.a4)
   subst hv1 hv2 hv3 hv4
   have hc:=HI.out.c3
   unfold bdC at hc
   rw [hY] at hc
   have HA:=h_ hc
   have HR:=h_ HI.out.c4
   have HM:=h_ HI.out.mv
   have HP:=h_ HI.out.xs
   have HQ:=h_ HI.out.q4
   have HY:=h_ hY
   have hbB:=HI.out.bs
   clear hc hY
   have c0:=HA.out.c 0 rfl
   have c1:=HA.out.c 1 rfl
   have c2:=HA.out.c 2 rfl
   have c3:=HA.out.c 3 rfl
   have c4:=HA.out.c 4 rfl
   have c5:=HA.out.c 5 rfl
   have c6:=HA.out.c 6 rfl
   have c7:=HA.out.c 7 rfl
   have c8:=HA.out.c 8 rfl
   have d0:=HR.out.c 0 rfl
   have f0:=HR.out.fr 0
   have d1:=HR.out.c 1 rfl
   have f1:=HR.out.fr 1
   have d2:=HR.out.c 2 rfl
   have f2:=HR.out.fr 2
   have d3:=HR.out.c 3 rfl
   have f3:=HR.out.fr 3
   have d4:=HR.out.c 4 rfl
   have f4:=HR.out.fr 4
   have d5:=HR.out.c 5 rfl
   have f5:=HR.out.fr 5
   have d6:=HR.out.c 6 rfl
   have f6:=HR.out.fr 6
   have d7:=HR.out.c 7 rfl
   have f7:=HR.out.fr 7
   have d8:=HR.out.c 8 rfl
   have f8:=HR.out.fr 8
   unfold zNode at HR
   go_wp2_with fail
   have hres:=HR.out.all [.int .i64 kd,.string X,.string Y,.string ⟨#[]⟩,.slice A1 x.enter.length e1,.slice A2 x.leave.length e2,.slice A3 x.moves.length e3,.slice A4 l.length e4,.int .i64 p] rfl
   have hmf:=sets_put HM.out (show w.heap.size≤g4 by omega) 0 [.int .i64 kd,.string X,.string Y,.string ⟨#[]⟩,.slice A1 x.enter.length e1,.slice A2 x.leave.length e2,.slice A3 x.moves.length e3,.slice A4 l.length e4,.int .i64 p]
   have hpf:=HP.out.sets (g:=g4) (by omega) 0 [.int .i64 kd,.string X,.string Y,.string ⟨#[]⟩,.slice A1 x.enter.length e1,.slice A2 x.leave.length e2,.slice A3 x.moves.length e3,.slice A4 l.length e4,.int .i64 p]
   simp only [sets,Nat.reduceAdd] at hres hmf hpf
   refine bodyPost_ret (resNode rfl _ rfl hres) rfl ?_
   have hq9:=HQ.out.ch (Ch.of_mv (sets_mv _ g4 0 [.int .i64 kd,.string X,.string Y,.string ⟨#[]⟩,.slice A1 x.enter.length e1,.slice A2 x.leave.length e2,.slice A3 x.moves.length e3,.slice A4 l.length e4,.int .i64 p])) (fun g hg _ e=>by have e':g=g4:=e;omega)
   simp only [sets,Nat.reduceAdd] at hq9
   have hbe:=body_eq (m:=m) (m1:=m2) (m2:=(Rs.bad c q:Rs Unit)) (x:=x) (l:=l) (nd:=nodeR d) (by have e:=HT1.out.trans HT1E.out;rw [e];exact go_ok_is _ _) (by have e:=HT1.out.trans HT1E.out;rw [e];exact go_ok_void _ _) (by have e:=HT2.out.trans HZ.out;rw [e];exact go_ok_is _ _) (by have e:=HT2.out.trans HZ.out;rw [e];exact go_ok_void _ _)
   refine ⟨(x,l),Y,_,_,_,_,F1,F2,F3,F4,HY.out,rfl,?_,?_,?_,hmf⟩
   ·rw [hbe]
    exact go_ok_is _ _
   ·exact { hq9 with l1:=fun g hg=>by have:=hq9.l1 g hg;omega,l2:=fun g hg=>by have:=hq9.l2 g hg;omega,l3:=fun g hg=>by have:=hq9.l3 g hg;omega,l4:=fun g hg=>by have:=hq9.l4 g hg;omega }
   ·rw [hbe,go_ok_void]
    exact hpf
  |ok u s =>
   rw [Rs.tell_ok] at hcc
   have HC:=h_ (xkind_s wr b K D _ HI.out.xs)
   obtain ⟨k,hk⟩:∃k,nodeK s.ts=k:=⟨_,rfl⟩
   replace HC:Hid (Calls Tryz.prog 47 #[.pointer (some ⟨b,0,none⟩)] wr fun e w'=>e=.returned (.int .i64 (k:Int))∧Below wr.heap.size wr w'):=by rw [←hk];exact HC
   have HK1:=h_ hk
   clear hk
   go_wp2_with fail
   refine HC.out.mono ?_
   rintro e w3 ⟨rfl,hb⟩
   have HI3:Hid (XzI w b g3 g4 B K D d kd X p m x T2 w3 l (.ok () s) v1 v2 v3 v4 F1 F2 F3 F4):=⟨HI.out.xs.below hb,HI.out.c3.below hb,HI.out.q4.ch (Ch.of_below (S:=fun _=>False) hb) (fun _ _ _ h=>h),HI.out.c4.below hb,HI.out.mv.trans (Mv.of b hb),Nat.le_trans HI.out.bs hb.size,HI.out.eq,HI.out.ok,HI.out.len⟩
   clear hb HC r6 hcc HI
   by_cases hk0:k=0
   ·have hkz:((k:Int)==0)=true:=by rw [hk0];rfl
    have HZ:Hid (T2=(Rs.ok () s:Rs Unit).go fun s=>.ok l s):=by
     show _=_
     rw [HI3.out.eq,Rs.go_ok,kid_end HTK.out (by rw [HK1.out];exact hk0)]
     rfl
    have HI:=HI3
    clear hk0 HI3
    obtain ⟨Y,hY⟩:∃Y,txV x.initial=.string Y:=⟨_,rfl⟩
    obtain ⟨A1,e1,hv1,_,_⟩:=xacts_slice HI.out.q4.a1
    obtain ⟨A2,e2,hv2,_,_⟩:=xacts_slice HI.out.q4.a2
    obtain ⟨A3,e3,hv3,_,_⟩:=DvAt.slice (show DvAt _ (.row 56 13 x.moves.length (x.moves.flatMap (dvMove false))) v3 F3 from HI.out.q4.a3)
    obtain ⟨A4,e4,hv4,_,_⟩:=DvAt.slice (show DvAt _ (.row 28 9 l.length (dvNodes false l)) v4 F4 from HI.out.q4.a4)
    subst hv1 hv2 hv3 hv4
    have hc:=HI.out.c3
    unfold bdC at hc
    rw [hY] at hc
    have HA:=h_ hc
    have HR:=h_ HI.out.c4
    have HM:=h_ HI.out.mv
    have HP:=h_ HI.out.xs
    have HQ:=h_ HI.out.q4
    have HY:=h_ hY
    have hbB:=HI.out.bs
    clear hc hY
    have c0:=HA.out.c 0 rfl
    have c1:=HA.out.c 1 rfl
    have c2:=HA.out.c 2 rfl
    have c3:=HA.out.c 3 rfl
    have c4:=HA.out.c 4 rfl
    have c5:=HA.out.c 5 rfl
    have c6:=HA.out.c 6 rfl
    have c7:=HA.out.c 7 rfl
    have c8:=HA.out.c 8 rfl
    have d0:=HR.out.c 0 rfl
    have f0:=HR.out.fr 0
    have d1:=HR.out.c 1 rfl
    have f1:=HR.out.fr 1
    have d2:=HR.out.c 2 rfl
    have f2:=HR.out.fr 2
    have d3:=HR.out.c 3 rfl
    have f3:=HR.out.fr 3
    have d4:=HR.out.c 4 rfl
    have f4:=HR.out.fr 4
    have d5:=HR.out.c 5 rfl
    have f5:=HR.out.fr 5
    have d6:=HR.out.c 6 rfl
    have f6:=HR.out.fr 6
    have d7:=HR.out.c 7 rfl
    have f7:=HR.out.fr 7
    have d8:=HR.out.c 8 rfl
    have f8:=HR.out.fr 8
    unfold zNode at HR
    go_wp2_with fail
    have hres:=HR.out.all [.int .i64 kd,.string X,.string Y,.string ⟨#[]⟩,.slice A1 x.enter.length e1,.slice A2 x.leave.length e2,.slice A3 x.moves.length e3,.slice A4 l.length e4,.int .i64 p] rfl
    have hmf:=sets_put HM.out (show w.heap.size≤g4 by omega) 0 [.int .i64 kd,.string X,.string Y,.string ⟨#[]⟩,.slice A1 x.enter.length e1,.slice A2 x.leave.length e2,.slice A3 x.moves.length e3,.slice A4 l.length e4,.int .i64 p]
    have hpf:=HP.out.sets (g:=g4) (by omega) 0 [.int .i64 kd,.string X,.string Y,.string ⟨#[]⟩,.slice A1 x.enter.length e1,.slice A2 x.leave.length e2,.slice A3 x.moves.length e3,.slice A4 l.length e4,.int .i64 p]
    simp only [sets,Nat.reduceAdd] at hres hmf hpf
    refine bodyPost_ret (resNode rfl _ rfl hres) rfl ?_
    have hq9:=HQ.out.ch (Ch.of_mv (sets_mv _ g4 0 [.int .i64 kd,.string X,.string Y,.string ⟨#[]⟩,.slice A1 x.enter.length e1,.slice A2 x.leave.length e2,.slice A3 x.moves.length e3,.slice A4 l.length e4,.int .i64 p])) (fun g hg _ e=>by have e':g=g4:=e;omega)
    simp only [sets,Nat.reduceAdd] at hq9
    have hbe:=body_eq (m:=m) (m1:=m2) (m2:=(Rs.ok () s:Rs Unit)) (x:=x) (l:=l) (nd:=nodeR d) (by have e:=HT1.out.trans HT1E.out;rw [e];exact go_ok_is _ _) (by have e:=HT1.out.trans HT1E.out;rw [e];exact go_ok_void _ _) (by have e:=HT2.out.trans HZ.out;rw [e];exact go_ok_is _ _) (by have e:=HT2.out.trans HZ.out;rw [e];exact go_ok_void _ _)
    refine ⟨(x,l),Y,_,_,_,_,F1,F2,F3,F4,HY.out,rfl,?_,?_,?_,hmf⟩
    ·rw [hbe]
     exact go_ok_is _ _
    ·exact { hq9 with l1:=fun g hg=>by have:=hq9.l1 g hg;omega,l2:=fun g hg=>by have:=hq9.l2 g hg;omega,l3:=fun g hg=>by have:=hq9.l3 g hg;omega,l4:=fun g hg=>by have:=hq9.l4 g hg;omega }
    ·rw [hbe,go_ok_void]
     exact hpf
   ·have hkz:((k:Int)==0)=false:=beq_eq_false_iff_ne.2 (by omega)
    have hnode:=HND.out (HI3.out.ok ⟨s,rfl⟩)
    have HC:=h_ (hnode w3 s k HI3.out.xs HK1.out hk0)
    have HK0:=h_ hk0
    clear hk0 hnode
    go_wp2_with fail
    refine HC.out.mono ?_
    rintro e w4 ⟨y,ys,rfl,hrp,hl,his,hp,hm⟩
    obtain ⟨FM,hdM,hnM,hlM⟩:=hrp
    have zo:=hdM.ones
    have hyM:=hdM
    obtain ⟨y0,y1,y2,y3,y4,y5,y6,y7,y8,rfl⟩:=cells9 hl
    obtain ⟨g13,hg13⟩:∃g,g=w4.heap.size:=⟨_,rfl⟩
    obtain ⟨W5,hW5⟩:∃W,W=w4.alloc (.cells #[y0,y1,y2,y3,y4,y5,y6,y7,y8] 28):=⟨_,rfl⟩
    have hb5:Below w4.heap.size w4 W5:=by rw [hW5];exact (b_ _ w4).alloc (n_ _) _
    have HA5:Hid (CB W5 g13 28 [y0,y1,y2,y3,y4,y5,y6,y7,y8]):=by rw [hW5,hg13];exact CB.new w4 _ [y0,y1,y2,y3,y4,y5,y6,y7,y8]
    have hm4:=World.grownBy.size hm
    have hs4:=hb5.size
    have hq5:=((HI3.out.q4.ch (Ch.of_mv hm) (fun g hg _ e=>by have e':g=b:=e;omega)).ch (Ch.of_below (S:=fun _=>False) hb5) (fun _ _ _ h=>h))
    have hlM':∀g∈FM,w3.heap.size≤g:=hlM
    have hbs:=HI3.out.bs
    have hrow5:=hq5.a4
    obtain ⟨Ao,co,hvo,_,_⟩:=DvAt.slice (show DvAt W5 (.row 28 9 l.length (dvNodes false l)) v4 F4 from hrow5)
    subst hvo
    have hnl:l.length≤1000000:=by have:=HI3.out.len s rfl;have:=HN.out;omega
    have hflt:=HI3.out.q4.a4.lt
    have hdis:∀a∈F4,a∉FM:=fun a ha hb=>by have:=hflt a ha;have:=hlM a hb;omega
    unfold dvKids at hrow5
    obtain ⟨v',w',F',hr,a1,a2,a3,a4⟩:=app_dv W5 (t:=26) (ty:=26) Tryz.underlying26 infoNode rfl (by decide) (by decide) hrow5 hq5.n4 (hyM.below hb5) rfl hnM hdis hnl
    obtain ⟨An,cn,hvn,_,_⟩:=a1.slice
    subst hvn
    rw [←dvKids_snoc] at a1
    have hF4:∀g∈F4,B≤g:=hq5.l4
    have n3F:¬g3∈F4:=fun h=>by have:=hF4 g3 h;omega
    have n4F:¬g4∈F4:=fun h=>by have:=hF4 g4 h;omega
    have H53:CB W5 g3 28 (bdC kd X (txV x.initial) v1 v2 v3 (.slice Ao l.length co) p):=(HI3.out.c3.mv hm n3b).below hb5
    have hc3:=H53
    unfold bdC at hc3
    have HC3:=h_ hc3
    have hc3':=H53.ch a4 n3F
    have HCX:=h_ hc3'
    unfold bdC at hc3'
    have HC3':=h_ hc3'
    have c7':=HC3'.out.c 7 rfl
    have f7':=HC3'.out.fr 7
    obtain ⟨W7,hW7⟩:∃W,W=w'.setCell ⟨g3,7,none⟩ (.slice An (l.length+1) cn):=⟨_,rfl⟩
    have hm7:Mv g3 w' W7:=by rw [hW7];exact (Mv.refl g3 w').set 7 _
    obtain ⟨m8,hm8⟩:∃m8,(nodeR d s).void=m8:=⟨_,rfl⟩
    rw [hm8] at hp
    have hkm:kidS (nodeR d) l s=m8.go fun s'=>.ok (l++[y],true) s':=by
     rw [←hm8]
     exact kid_out (by rw [HK1.out];exact HK0.out) his
    have hlt:m8.leftX<(Rs.ok () s:Rs Unit).leftX:=by rw [←hm8];exact left_less (HTK.out s)
    have hq':Q4 w' B (dvActs false x.enter) (dvActs false x.leave) (dvMoves false x.moves) (dvKids false (l++[y])) v1 v2 v3 (.slice An (l.length+1) cn) F1 F2 F3 F':=HI3.out.q4.up4 (S:=fun k=>k=b∨k∈F4) ((((Ch.of_mv hm).mono (fun _ _ h=>.inl h)).trans (Ch.of_below hb5)).trans2 a4 (fun j _ h=>.inr h)) (fun g h1 _ h=>h.resolve_left (fun e=>by omega)) a1 a2 (fun g hg=>by
     rcases a3 g hg with h|h|h
     ·exact .inl h
     ·exact .inr (hlM' g h)
     ·exact .inr (by omega)) (by omega)
    have HI8:Hid (XzI w b g3 g4 B K D d kd X p m x T2 W7 (l++[y]) m8 v1 v2 v3 (.slice An (l.length+1) cn) F1 F2 F3 F'):=by
     refine ⟨((hp.below hb5).ch a4 (fun k hk=>by have:=hF4 k hk;omega)).ch (Ch.of_mv hm7) (fun k e=>by have e':k=g3:=e;omega),?_,hq'.ch (Ch.of_mv hm7) (fun g hg _ e=>by have e':g=g3:=e;omega),(((HI3.out.c4.mv hm n4b).below hb5).ch a4 n4F).mv hm7 (by omega),?_,?_,by rw [HI3.out.eq,Rs.go_ok,kid_more HTK.out hkm],fun _=>HI3.out.ok ⟨s,rfl⟩,fun s' e=>by have h1:=HI3.out.len s rfl;have h2:=hlt;rw [e] at h2;have:=ok_len h2;rw [List.length_append,List.length_singleton];omega⟩
     ·rw [hW7]
      exact HCX.out.set 7 (.slice An (l.length+1) cn)
     ·rw [hW7]
      have h1:Ch (fun k=>k=b) w w':=((Ch.of_mv (HI3.out.mv.trans hm)).trans (Ch.of_below hb5)).trans2 a4 (fun j hj hs=>by have:=hF4 j hs;omega)
      exact (h1.mv (fun _ _ h=>h)).put 7 g3 hw3 _
     ·have h1:=a4.size
      have h2:=World.grownBy.size hm7
      omega
    have HMS:Hid (xleft W7 b K.n<xleft wr b K.n):=by
     show _<_
     rw [HI8.out.xs.left,HLE.out]
     exact hlt
    have HRN:=h_ hr
    have HWX:=h_ hW5
    have HWY:=h_ hW7
    have st:∀u∈[y0,y1,y2,y3,y4,y5,y6,y7,y8],∀(w:World) (a:Addr),(store a u).run Tryz.prog w=stored Tryz.prog w a u .plain:=fun u hu w a=>run_store _ w a u .plain (zo u hu)
    have s0:=st y0 (by simp)
    have s1:=st y1 (by simp)
    have s2:=st y2 (by simp)
    have s3:=st y3 (by simp)
    have s4:=st y4 (by simp)
    have s5:=st y5 (by simp)
    have s6:=st y6 (by simp)
    have s7:=st y7 (by simp)
    have s8:=st y8 (by simp)
    clear st zo hl his hp hm hdM hnM hlM hlM' hyM hb5 hrow5 hnl hdis hr a1 a2 a3 a4 hflt hF4 n3F n4F H53 hc3 hc3' hm7 hm8 hq' hq5 hW5 hW7 hm4 hs4 hbs HC hkm hlt
    go_upto_region 33 with fail
    rw [←HWX.out,←hg13]
    clear HWX hg13 s0 s1 s2 s3 s4 s5 s6 s7 s8
    have c7:=HC3.out.c 7 rfl
    have z0:=HA5.out.c 0 rfl
    have z1:=HA5.out.c 1 rfl
    have z2:=HA5.out.c 2 rfl
    have z3:=HA5.out.c 3 rfl
    have z4:=HA5.out.c 4 rfl
    have z5:=HA5.out.c 5 rfl
    have z6:=HA5.out.c 6 rfl
    have z7:=HA5.out.c 7 rfl
    have z8:=HA5.out.c 8 rfl
    go_wp2_with (at_builtin;refine Lib.wpList_append_run _ rfl _ _ _ _ rfl _ _ rfl rfl _ _ HRN.out ?_)
    clear c7 z0 z1 z2 z3 z4 z5 z6 z7 z8 HRN HC3
    go_wp2_with fail
    rw [←HWY.out]
    go_roundw
    case rel=>exact ⟨_,_,_,F',HI8⟩
    case measure=>exact HMS.out
end Go.Proofs.YtcddbfdbhjkjgaaGreatDoor
