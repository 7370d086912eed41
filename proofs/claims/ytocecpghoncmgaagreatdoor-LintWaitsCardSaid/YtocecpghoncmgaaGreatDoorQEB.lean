import Derived.Test.YtocecpghoncmgaaGreatDoorQh
import Derived.Test.YtocecpghoncmgaaGreatDoorQEA
import Derived.Test.YtocecpghoncmgaaGreatDoorQVaX
import Derived.Laws.AppendOwn
import Derived.Laws.OwnMore
import Derived.Maps.AppendAt
import Derived.BigQuiet
import Derived.Deep.QuietTactic
import Derived.IntWalk
import Derived.Test.YtocecpghoncmgaaGreatDoorQXA
set_option maxHeartbeats 12800000
set_option maxRecDepth 20000
namespace Go.Proofs.YtocecpghoncmgaaGreatDoor
open Go.RowKit
def LexT (t:Tk):Prop :=
 (t.kind=1/\isKw t.text=false/\∃c r,t.text=c::r/\isLt c=true)∨(t.kind=2/\isKw t.text=true)∨((t.kind=3∨t.kind=5)/\t.text=[])∨(t.kind=4/\∃c r,t.text=c::r/\isLt c=false)
theorem tk_lexT {c:UInt8} {r:List UInt8} (h:tkE (c::r)=0) (q:Int):LexT (tkT (c::r) q):=by
 have hs:0<(if isLt c=true then wdK (c::r) else if isDg c=true then dgK (c::r) else sgn (c::r)):=tkS_pos h;unfold LexT;rw [tkT_cons]
 by_cases hc:isLt c=true
 ·rw [if_pos hc] at hs ⊢
  by_cases hk:isKw ((c::r).take (wdK (c::r)))=true
  ·exact .inr (.inl ⟨by rw [if_pos hk],hk⟩)
  ·refine .inl ⟨by rw [if_neg hk],by simpa using hk,?_⟩
   match hn:wdK (c::r),hs with
   |n+1,_=>exact ⟨c,r.take n,rfl,hc⟩
 ·rw [if_neg hc] at hs ⊢
  by_cases hd:isDg c=true
  ·rw [if_pos hd];exact .inr (.inr (.inl ⟨.inl rfl,rfl⟩))
  ·rw [if_neg hd] at hs ⊢;refine .inr (.inr (.inr ⟨rfl,?_⟩))
   match hn:sgn (c::r),hs with
   |n+1,_=>exact ⟨c,r.take n,rfl,by simpa using hc⟩
theorem scA_lexT:∀(f p:Nat) (acc:List Tk) (l:List UInt8),(∀t∈acc,LexT t)->∀t∈(scA f p acc l).1,LexT t
 |0,_,_,_,_=>λ t ht=>by simp [scA] at ht
 |f+1,p,acc,l,ha=>by
  by_cases hm:l.drop (blK false l)=[]
  ·rw [scA_end hm];intro t ht;rcases List.mem_append.1 ht with ht|ht
   ·exact ha t ht
   ·rw [List.mem_singleton.1 ht];exact .inr (.inr (.inl ⟨.inr rfl,rfl⟩))
  ·by_cases he:tkE (l.drop (blK false l))=0
   ·rw [scA_step rfl hm he]
    obtain ⟨m,hmm⟩:∃m,l.drop (blK false l)=m:=⟨_,rfl⟩
    rw [hmm] at hm he ⊢
    match m,hm with
    |c::r,_ =>
     refine scA_lexT f _ _ _ (λ t ht=>?_);rcases List.mem_append.1 ht with ht|ht
     ·exact ha t ht
     ·rw [List.mem_singleton.1 ht];exact tk_lexT he _
   ·rw [scA_bad rfl hm he]
    exact λ t ht=>(by cases ht)
theorem scF_lexT (l:List UInt8):∀t∈(scF l).1,LexT t:=by
 unfold scF
 split
 ·exact λ t ht=>(by cases ht)
 ·exact scA_lexT (l.length+1) 0 [] l (λ t ht=>by cases ht)
def Tells (k:Int) (u:List UInt8):Prop:=∀t,LexT t->isTk k u t=decide (t.text=u)
theorem kw_lt {l:List UInt8} (h:isKw l=true):∃c r,l=c::r/\isLt c=true:=by
 have:l∈kws:=by simpa [isKw] using h
 simp only [kws,List.mem_cons,List.not_mem_nil,or_false] at this
 rcases this with rfl|rfl|rfl|rfl|rfl|rfl|rfl|rfl|rfl|rfl|rfl|rfl|rfl|rfl|rfl|rfl <;> exact ⟨_,_,rfl,by decide⟩
theorem tells_kw {u:List UInt8} (h:isKw u=true):Tells 2 u:=λ t ht=>by
 unfold isTk;obtain ⟨c,r,e,hc⟩:=kw_lt h;rcases ht with ⟨h1,h2,_⟩|⟨h1,h2⟩|⟨h1,h2⟩|⟨h1,c',r',h2,h3⟩
 ·have:¬t.text=u:=λ e=>by rw [e,h] at h2;cases h2
  simp [this]
 ·simp [h1]
 ·have:¬t.text=u:=λ e'=>by rw [h2,e] at e';cases e'
  simp [this]
 ·have:¬t.text=u:=λ e'=>by
   rw [h2,e] at e';injection e' with e' _;rw [e',hc] at h3;cases h3
  simp [this]
theorem tells_sg {c:UInt8} {u:List UInt8} (h:isLt c=false):Tells 4 (c::u):=λ t ht=>by
 unfold isTk
 have no:∀c' r',t.text=c'::r'->isLt c'=true->¬t.text=c::u:=λ c' r' h2 h3 e'=>by
  rw [h2] at e';injection e' with e' _;rw [e',h] at h3;cases h3
 rcases ht with ⟨h1,_,c',r',h2,h3⟩|⟨h1,h2⟩|⟨h1,h2⟩|⟨h1,h2⟩
 ·simp [no c' r' h2 h3]
 ·obtain ⟨c',r',h4,h5⟩:=kw_lt h2;simp [no c' r' h4 h5]
 ·have:¬t.text=c::u:=λ e'=>by rw [h2] at e';cases e'
  simp [this]
 ·simp [h1]
def Rs.void {α:Type} (e:Rs α):Rs Unit:=e.bind λ _ s=>.ok () s
@[simp] theorem Rs.void_ok {α:Type} (x:α) (s:Ss):(Rs.ok x s).void=.ok () s:=rfl
@[simp] theorem Rs.void_bad {α:Type} (c p:Int):(Rs.bad c p:Rs α).void=.bad c p:=rfl
@[simp] theorem Rs.void_out {α:Type}:(Rs.out:Rs α).void=.out:=rfl
def Rs.go {α:Type} (m:Rs Unit) (f:Ss->Rs α):Rs α:=m.bind λ _ s=>f s
@[simp] theorem Rs.go_ok {α:Type} (x:Unit) (s:Ss) (f:Ss->Rs α):(Rs.ok x s).go f=f s:=rfl
@[simp] theorem Rs.go_bad {α:Type} (c p:Int) (f:Ss->Rs α):(Rs.bad c p).go f=.bad c p:=rfl
@[simp] theorem Rs.go_out {α:Type} (f:Ss->Rs α):(Rs.out).go f=(.out:Rs α):=rfl
def Rs.is {α:Type} (e:Rs α) (x:α):Prop:=∀y s,e=.ok y s->y=x
def Rs.tell (m:Rs Unit) (P:Ss->Bool):Bool:=match m with
 |.ok _ s=>P s
 |_=>false
@[simp] theorem Rs.tell_ok (x:Unit) (s:Ss) (P:Ss->Bool):(Rs.ok x s).tell P=P s:=rfl
@[simp] theorem Rs.tell_bad (c p:Int) (P:Ss->Bool):(Rs.bad c p).tell P=false:=rfl
theorem Rs.tell_true {m:Rs Unit} {P:Ss->Bool} (h:m.tell P=true):∃s,m=.ok () s/\P s=true:=by
 cases m with
 |ok x s=>exact ⟨s,rfl,h⟩
 |bad c p=>cases h
 |out=>cases h
def cntN (p:Int) (s:Ss):Rs Unit:=if 64<s.n+1 then .bad 2 p else .ok () ⟨s.ts,s.n+1,s.m,s.a⟩
def cntM (p:Int) (s:Ss):Rs Unit:=if 200<s.m+1 then .bad 2 p else .ok () ⟨s.ts,s.n,s.m+1,s.a⟩
def skipR (k:Int) (u:List UInt8) (s:Ss):Rs Unit:=.ok () (if isAt k u s.ts=true then s.drop else s)
def Fits (s:Ss):Prop:=s.n<=64/\s.m<=200/\s.a<=400
structure Ch (S:Nat->Prop) (w w':World):Prop where
 os:w'.os=w.os
 tape:w'.tape=w.tape
 output:w'.output=w.output
 size:w.heap.size<=w'.heap.size
 block:∀k,k<w.heap.size->¬S k->w'.heap[k]?=w.heap[k]?
theorem Ch.refl (S:Nat->Prop) (w:World):Ch S w w:=⟨rfl,rfl,rfl,n_ _,λ _ _ _=>rfl⟩
theorem Ch.trans {S:Nat->Prop} {u v w:World} (h:Ch S u v) (k:Ch S v w):Ch S u w :=
 ⟨k.os.trans h.os,k.tape.trans h.tape,k.output.trans h.output,Nat.le_trans h.size k.size,λ i hi hs=>(k.block i (Nat.lt_of_lt_of_le hi h.size) hs).trans (h.block i hi hs)⟩
theorem Ch.mono {S S':Nat->Prop} {w w':World} (h:Ch S w w') (hs:∀k,k<w.heap.size->S k->S' k):Ch S' w w' :=
 ⟨h.os,h.tape,h.output,h.size,λ k hk hn=>h.block k hk (λ h'=>hn (hs k hk h'))⟩
theorem Ch.of_mv {b:Nat} {w w':World} (h:Mv b w w'):Ch (·=b) w w':=⟨h.os,h.tape,h.output,h.size,λ _ hk hn=>h.block hk hn⟩
theorem Ch.mv {S:Nat->Prop} {b:Nat} {w w':World} (h:Ch S w w') (hs:∀k,k<w.heap.size->S k->k=b):Mv b w w' :=
 ⟨h.os,h.tape,h.output,h.size,λ k hk hn=>h.block k hk (λ h'=>hn (by rw [hs k hk h']))⟩
theorem Ch.of_below {S:Nat->Prop} {w w':World} (h:Below w.heap.size w w'):Ch S w w':=⟨h.os,h.tape,h.output,h.size,λ k hk _=>h.block k hk⟩
theorem Ch.below {S:Nat->Prop} {w w':World} (h:Ch S w w') (hs:∀k,k<w.heap.size->¬S k):Below w.heap.size w w':=⟨h.os,h.tape,h.output,h.size,λ k hk=>h.block k hk (hs k hk)⟩
theorem Ch.of_grown {row:Option Nat} {S:Nat->Prop} {w w':World} (h:w.grownBy w' row) (hs:∀k,row=some k->S k):Ch S w w' :=
 ⟨h.os,h.tape,h.output,h.size,λ k hk hn=>h.block k hk (λ e=>hn (hs k e.symm))⟩
theorem Ch.alloc {S:Nat->Prop} {w w':World} (h:Ch S w w') (o:Obj):Ch S w (w'.alloc o):=h.trans (Ch.of_below ((b_ _ w').alloc (n_ _) o))
theorem Ch.drew {S:Nat->Prop} {w w':World} (h:Ch S w w'):Ch S w w'.drew:=⟨h.os,h.tape,h.output,h.size,h.block⟩
theorem Ch.set {S:Nat->Prop} {w w':World} (h:Ch S w w') {g:Nat} (hg:S g∨w.heap.size<=g) (i:Nat) (v:Value):Ch S w (w'.setCell ⟨g,i,none⟩ v) :=
 ⟨h.os,h.tape,h.output,by simpa using h.size,λ k hk hn=>by
  rw [Below.heap_setCell w' ⟨g,i,none⟩ v k (λ e=>by
   have e':k=g:=e;subst e';rcases hg with hg|hg
   ·exact hn hg
   ·omega)]
  exact h.block k hk hn⟩
def sets (w:World) (g:Nat):Nat->List Value->World
 |_,[]=>w
 |i,v::l=>sets (w.setCell ⟨g,i,none⟩ v) g (i+1) l
theorem Ch.many {S:Nat->Prop} {w:World} {g:Nat} (hg:S g∨w.heap.size<=g):∀(l:List Value) {w':World} (i:Nat),Ch S w w'->Ch S w (sets w' g i l)
 |[],_,_,h=>h
 |v::l,_,i,h=>Ch.many hg l (i+1) (h.set hg i v)
def CB (w:World) (g:Nat) (T:TypeId) (vs:List Value):Prop:=w.heap[g]?=some (.cells vs.toArray T (0,0))
section
variable {w w':World} {g:Nat} {T:TypeId} {vs:List Value}
theorem CB.lt (h:CB w g T vs):g<w.heap.size:=(Array.getElem?_eq_some_iff.1 h).1
theorem CB.c (h:CB w g T vs) (i:Nat) {v:Value} (hi:vs[i]?=some v):w.cell? ⟨g,i,none⟩=some v:=by
 rw [cell_of_row w g i _ _ _ h];simpa using hi
theorem CB.fr (h:CB w g T vs) (i:Nat):w.frozen? ⟨g,i,none⟩=false:=by
 unfold CB at h;simp [World.frozen?,h]
theorem CB.ch {S:Nat->Prop} (h:CB w g T vs) (hc:Ch S w w') (hn:¬S g):CB w' g T vs:=(hc.block g h.lt hn).trans h
theorem CB.below (h:CB w g T vs) (hb:Below w.heap.size w w'):CB w' g T vs:=(hb.block g h.lt).trans h
theorem CB.alloc (h:CB w g T vs) (o:Obj):CB (w.alloc o) g T vs:=(Below.heap_alloc w o g h.lt).trans h
theorem CB.drew (h:CB w g T vs):CB w.drew g T vs:=h
theorem CB.mv {b:Nat} (h:CB w g T vs) (hb:Mv b w w') (hn:g≠b):CB w' g T vs:=(hb.block h.lt hn).trans h
theorem CB.new (w:World) (T:TypeId) (vs:List Value):CB (w.alloc (.cells vs.toArray T)) w.heap.size T vs:=heap_alloc_new w _
theorem CB.set (h:CB w g T vs) (i:Nat) (v:Value):CB (w.setCell ⟨g,i,none⟩ v) g T (vs.set i v):=by
 have:=heap_setCell_same w g i _ _ v h;rw [u_] at this;exact this
theorem CB.other (h:CB w g T vs) {b:Nat} (hn:g≠b) (i:Nat) (v:Value):CB (w.setCell ⟨b,i,none⟩ v) g T vs:=h.mv ((Mv.refl b w).set i v) hn
end
theorem CB.many {g:Nat} {T:TypeId}:∀(l:List Value) (i:Nat) {w:World} {vs:List Value},CB w g T vs->i+l.length<=vs.length->CB (sets w g i l) g T (vs.take i++l++vs.drop (i+l.length))
 |[],i,w,vs,h,_=>by simpa [sets] using h
 |v::l,i,w,vs,h,hl=>by
  have h1:=CB.many l (i+1) (h.set i v) (by simp at hl ⊢;omega);simp only [List.length_cons] at hl
  have hi:i<vs.length:=by omega
  have e:(vs.set i v).take (i+1)++l++(vs.set i v).drop (i+1+l.length)=vs.take i++(v::l)++vs.drop (i+(v::l).length):=by
   rw [List.take_set,List.drop_set,if_pos (by omega),List.take_add_one,List.getElem?_eq_getElem hi,List.length_cons,show i+(l.length+1)=i+1+l.length from by omega];rw [List.set_append,if_neg (by rw [List.length_take];omega)];rw [List.length_take,show i-min i vs.length=0 from by omega];simp
  rw [e] at h1;exact h1
theorem CB.all {w:World} {g:Nat} {T:TypeId} {vs:List Value} (h:CB w g T vs) (l:List Value) (hl:l.length=vs.length):CB (sets w g 0 l) g T l:=by
 have:=CB.many l 0 h (by omega);rw [Nat.zero_add,hl,List.drop_length,List.take_zero,List.nil_append,List.append_nil] at this;exact this
inductive DV where
 |v (u:Value)
 |sub (o:Bool) (l:List GX)
 |row (e:TypeId) (k n:Nat) (cs:List DV)
def SubAt (w:World) (o:Bool) (lo hi:Nat) (l:List GX) (x:Value):Prop:=∃A c,x=.slice A l.length c/\l.length<=c/\c<=maxLen/\lo<=hi/\hi<=w.heap.size /\
 match o with
 |true=>l=[]∨∃g cs,A=some ⟨g,0,none⟩/\lo<=g/\g<hi/\w.heap[g]?=some (.cells cs 55 (0,0))/\GWs w g lo g l 0
 |false=>GRow w lo hi l A 0
mutual
def DvAt (w:World):DV->Value->List Nat->Prop
 |.v u,x,F=>x=u/\F=[]/\u.oneCell'=true
 |.sub o l,x,F=>∃lo hi,SubAt w o lo hi l x/\F=List.range' lo (hi-lo)
 |.row e k n cs,x,F=>∃xs H,w.ownsRow 0 e k x n xs/\F=x.ownBlock.toList++H/\DvsAt w cs xs H
def DvsAt (w:World):List DV->List Value->List Nat->Prop
 |[],xs,F=>xs=[]/\F=[]
 |d::ds,xs,F=>∃x ys F1 F2,xs=x::ys/\F=F1++F2/\DvAt w d x F1/\DvsAt w ds ys F2
end
theorem mem_range' {lo hi k:Nat} (h:k∈List.range' lo (hi-lo)):lo<=k/\k<hi:=by
 rw [List.mem_range'_1] at h;omega
theorem SubAt.same {w w':World} {o:Bool} {lo hi:Nat} {l:List GX} {x:Value} (h:SubAt w o lo hi l x) (hs:∀g,lo<=g->g<hi->w'.heap[g]?=w.heap[g]?) (hz:w.heap.size<=w'.heap.size):SubAt w' o lo hi l x:=by
 obtain ⟨A,c,h1,h2,h3,h4,h5,h6⟩:=h;refine ⟨A,c,h1,h2,h3,h4,by omega,?_⟩
 cases o with
 |false=>exact GRow.same hs h6
 |true =>
  rcases h6 with h6|⟨g,cs,e,a,b,d,h⟩
  ·exact .inl h6
  ·exact .inr ⟨g,cs,e,a,b,(hs g a b).trans d,GWs.same (hs g a b) (λ j h7 h8=>hs j h7 (by omega)) h⟩
theorem SubAt.one {w:World} {o:Bool} {lo hi:Nat} {l:List GX} {x:Value} (h:SubAt w o lo hi l x):x.oneCell'=true:=by
 obtain ⟨A,c,rfl,_⟩:=h;rfl
theorem ownsRow_lt {w:World} {base:Nat} {e:TypeId} {k n:Nat} {x:Value} {xs:List Value} (h:w.ownsRow base e k x n xs):∀g∈x.ownBlock.toList,base<=g/\g<w.heap.size:=λ g hg=>by
 rw [Option.mem_toList] at hg;exact World.ownsRow.lt h g hg
theorem ownsRow_same {w w':World} {base:Nat} {e:TypeId} {k n:Nat} {x:Value} {xs:List Value} (h:w.ownsRow base e k x n xs) (hs:∀g∈x.ownBlock.toList,w'.heap[g]?=w.heap[g]?):w'.ownsRow base e k x n xs:=by
 refine ⟨h.1,?_⟩;rcases h.2 with h2|⟨g,cap,cur,a1,a2,a3,a4⟩
 ·exact .inl h2
 ·exact .inr ⟨g,cap,cur,a1,a2,(hs g (by rw [a1];simp [Value.ownBlock])).trans a3,a4⟩
mutual
theorem DvAt.same {w w':World} (hz:w.heap.size<=w'.heap.size):∀{d:DV} {x:Value} {F:List Nat},DvAt w d x F->(∀g∈F,w'.heap[g]?=w.heap[g]?)->DvAt w' d x F
 |.v _,_,_,h,_=>by unfold DvAt at h ⊢;exact h
 |.sub _ _,_,_,h,hs=>by
  unfold DvAt at h ⊢;obtain ⟨lo,hi,h1,rfl⟩:=h;exact ⟨lo,hi,h1.same (λ g a b=>hs g (by rw [List.mem_range'_1];omega)) hz,rfl⟩
 |.row _ _ _ cs,_,_,h,hs=>by
  unfold DvAt at h ⊢;obtain ⟨xs,H,h1,rfl,h2⟩:=h;exact ⟨xs,H,ownsRow_same h1 (λ g hg=>hs g (List.mem_append_left _ hg)),rfl,DvsAt.same hz h2 (λ g hg=>hs g (List.mem_append_right _ hg))⟩
theorem DvsAt.same {w w':World} (hz:w.heap.size<=w'.heap.size):∀{ds:List DV} {xs:List Value} {F:List Nat},DvsAt w ds xs F->(∀g∈F,w'.heap[g]?=w.heap[g]?)->DvsAt w' ds xs F
 |[],_,_,h,_=>by unfold DvsAt at h ⊢;exact h
 |d::ds,_,_,h,hs=>by
  unfold DvsAt at h ⊢;obtain ⟨x,ys,F1,F2,rfl,rfl,h1,h2⟩:=h;exact ⟨x,ys,F1,F2,rfl,rfl,DvAt.same hz h1 (λ g hg=>hs g (List.mem_append_left _ hg)),DvsAt.same hz h2 (λ g hg=>hs g (List.mem_append_right _ hg))⟩
end
mutual
theorem DvAt.lt {w:World}:∀{d:DV} {x:Value} {F:List Nat},DvAt w d x F->∀g∈F,g<w.heap.size
 |.v _,_,_,h,g,hg=>by unfold DvAt at h;rw [h.2.1] at hg;cases hg
 |.sub _ _,_,_,h,g,hg=>by
  unfold DvAt at h;obtain ⟨lo,hi,⟨A,c,_,_,_,_,h5,_⟩,rfl⟩:=h;have:=mem_range' hg;omega
 |.row _ _ _ cs,_,_,h,g,hg=>by
  unfold DvAt at h;obtain ⟨xs,H,h1,rfl,h2⟩:=h;rcases List.mem_append.1 hg with hg|hg
  ·exact (ownsRow_lt h1 g hg).2
  ·exact DvsAt.lt h2 g hg
theorem DvsAt.lt {w:World}:∀{ds:List DV} {xs:List Value} {F:List Nat},DvsAt w ds xs F->∀g∈F,g<w.heap.size
 |[],_,_,h,g,hg=>by unfold DvsAt at h;rw [h.2] at hg;cases hg
 |d::ds,_,_,h,g,hg=>by
  unfold DvsAt at h;obtain ⟨x,ys,F1,F2,rfl,rfl,h1,h2⟩:=h;rcases List.mem_append.1 hg with hg|hg
  ·exact DvAt.lt h1 g hg
  ·exact DvsAt.lt h2 g hg
end
theorem DvAt.ch {S:Nat->Prop} {w w':World} {d:DV} {x:Value} {F:List Nat} (h:DvAt w d x F) (hc:Ch S w w') (hF:∀g∈F,¬S g):DvAt w' d x F:=h.same hc.size (λ g hg=>hc.block g (h.lt g hg) (hF g hg))
theorem DvsAt.ch {S:Nat->Prop} {w w':World} {d:List DV} {x:List Value} {F:List Nat} (h:DvsAt w d x F) (hc:Ch S w w') (hF:∀g∈F,¬S g):DvsAt w' d x F:=h.same hc.size (λ g hg=>hc.block g (h.lt g hg) (hF g hg))
theorem DvAt.below {w w':World} {d:DV} {x:Value} {F:List Nat} (h:DvAt w d x F) (hb:Below w.heap.size w w'):DvAt w' d x F:=h.same hb.size (λ g hg=>hb.block g (h.lt g hg))
theorem DvsAt.below {w w':World} {d:List DV} {x:List Value} {F:List Nat} (h:DvsAt w d x F) (hb:Below w.heap.size w w'):DvsAt w' d x F:=h.same hb.size (λ g hg=>hb.block g (h.lt g hg))
theorem DvAt.one {w:World} {d:DV} {x:Value} {F:List Nat} (h:DvAt w d x F):x.oneCell'=true:=by
 cases d with
 |v u=>unfold DvAt at h;rw [h.1];exact h.2.2
 |sub o l=>unfold DvAt at h;obtain ⟨lo,hi,h1,_⟩:=h;exact h1.one
 |row e k n cs =>
  unfold DvAt at h;obtain ⟨xs,H,h1,_⟩:=h
  rcases h1.2 with ⟨rfl,_⟩|⟨g,cap,cur,rfl,_⟩ <;> rfl
theorem DvsAt.ones {w:World}:∀{ds:List DV} {xs:List Value} {F:List Nat},DvsAt w ds xs F->∀u∈xs,u.oneCell'=true
 |[],_,_,h,u,hu=>by unfold DvsAt at h;rw [h.1] at hu;cases hu
 |d::ds,_,_,h,u,hu=>by
  unfold DvsAt at h;obtain ⟨x,ys,F1,F2,rfl,rfl,h1,h2⟩:=h;rcases List.mem_cons.1 hu with rfl|hu
  ·exact h1.one
  ·exact DvsAt.ones h2 u hu
theorem DvsAt.len {w:World}:∀{ds:List DV} {xs:List Value} {F:List Nat},DvsAt w ds xs F->xs.length=ds.length
 |[],_,_,h=>by unfold DvsAt at h;rw [h.1];rfl
 |d::ds,_,_,h=>by
  unfold DvsAt at h;obtain ⟨x,ys,F1,F2,rfl,rfl,h1,h2⟩:=h;simp [DvsAt.len h2]
theorem DvsAt.nil (w:World):DvsAt w [] [] []:=by unfold DvsAt;exact ⟨rfl,rfl⟩
theorem DvsAt.cons {w:World} {d:DV} {x:Value} {F1:List Nat} {ds:List DV} {xs:List Value} {F2:List Nat} (h:DvAt w d x F1) (h2:DvsAt w ds xs F2):DvsAt w (d::ds) (x::xs) (F1++F2):=by
 unfold DvsAt;exact ⟨x,xs,F1,F2,rfl,rfl,h,h2⟩
theorem DvAt.plain (w:World) {u:Value} (h:u.oneCell'=true):DvAt w (.v u) u []:=by unfold DvAt;exact ⟨rfl,rfl,h⟩
theorem DvsAt.v {w:World} {u:Value} {ds:List DV} {xs:List Value} {F:List Nat} (hu:u.oneCell'=true) (h:DvsAt w ds xs F):DvsAt w (.v u::ds) (u::xs) F:=DvsAt.cons (F1:=[]) (DvAt.plain w hu) h
theorem DvsAt.app {w:World}:∀{ds:List DV} {xs:List Value} {F:List Nat} {ds':List DV} {xs':List Value} {F':List Nat},DvsAt w ds xs F->DvsAt w ds' xs' F'->DvsAt w (ds++ds') (xs++xs') (F++F')
 |[],_,_,_,_,_,h,h'=>by
  unfold DvsAt at h;rw [h.1,h.2];exact h'
 |d::ds,_,_,_,_,_,h,h'=>by
  unfold DvsAt at h;obtain ⟨x,ys,F1,F2,rfl,rfl,h1,h2⟩:=h;rw [a_];exact DvsAt.cons h1 (DvsAt.app h2 h')
theorem DvsAt.cut {w:World}:∀{ds:List DV} {ds':List DV} {xs:List Value} {F:List Nat},DvsAt w (ds++ds') xs F->∃xs1 xs2 F1 F2,xs=xs1++xs2/\F=F1++F2/\DvsAt w ds xs1 F1/\DvsAt w ds' xs2 F2
 |[],_,xs,F,h=>⟨[],xs,[],F,rfl,rfl,DvsAt.nil w,h⟩
 |d::ds,ds',_,_,h=>by
  rw [List.cons_append] at h;unfold DvsAt at h;obtain ⟨x,ys,F1,F2,rfl,rfl,h1,h2⟩:=h;obtain ⟨xs1,xs2,F3,F4,rfl,rfl,h3,h4⟩:=DvsAt.cut h2;exact ⟨x::xs1,xs2,F1++F3,F4,rfl,by rw [a_],DvsAt.cons h1 h3,h4⟩
def Rep (w:World) (base:Nat) (ds:List DV) (xs:List Value):Prop:=∃F,DvsAt w ds xs F/\F.Nodup/\∀g∈F,base<=g
theorem Rep.ch {S:Nat->Prop} {w w':World} {base:Nat} {ds:List DV} {xs:List Value} (h:Rep w base ds xs) (hc:Ch S w w') (hs:∀g,base<=g->g<w.heap.size->¬S g):Rep w' base ds xs:=by
 obtain ⟨F,h1,h2,h3⟩:=h;exact ⟨F,h1.ch hc (λ g hg=>hs g (h3 g hg) (h1.lt g hg)),h2,h3⟩
theorem Rep.below {w w':World} {base:Nat} {ds:List DV} {xs:List Value} (h:Rep w base ds xs) (hb:Below w.heap.size w w'):Rep w' base ds xs:=by
 obtain ⟨F,h1,h2,h3⟩:=h;exact ⟨F,h1.below hb,h2,h3⟩
theorem Rep.mv {b:Nat} {w w':World} {base:Nat} {ds:List DV} {xs:List Value} (h:Rep w base ds xs) (hm:Mv b w w') (hb:b<base):Rep w' base ds xs:=h.ch (Ch.of_mv hm) (λ g hg _ e=>by have e':g=b:=e;omega)
theorem Rep.mono {w:World} {base base':Nat} {ds:List DV} {xs:List Value} (h:Rep w base ds xs) (hb:base'<=base):Rep w base' ds xs:=by
 obtain ⟨F,h1,h2,h3⟩:=h;exact ⟨F,h1,h2,λ g hg=>Nat.le_trans hb (h3 g hg)⟩
theorem Rep.nil (w:World) (base:Nat):Rep w base [] []:=⟨[],DvsAt.nil w,List.nodup_nil,λ _ h=>by cases h⟩
theorem Rep.v {w:World} {base:Nat} {u:Value} {ds:List DV} {xs:List Value} (hu:u.oneCell'=true) (h:Rep w base ds xs):Rep w base (.v u::ds) (u::xs):=by
 obtain ⟨F,h1,h2,h3⟩:=h;exact ⟨F,DvsAt.v hu h1,h2,h3⟩
theorem Rep.app {S:Nat->Prop} {w1 w2:World} {base:Nat} {ds ds':List DV} {xs xs':List Value} (h:Rep w1 base ds xs) (hc:Ch S w1 w2) (hs:∀g,base<=g->g<w1.heap.size->¬S g) (h':Rep w2 w1.heap.size ds' xs') (hb:base<=w1.heap.size):Rep w2 base (ds++ds') (xs++xs'):=by
 obtain ⟨F,h1,h2,h3⟩:=h;obtain ⟨F',k1,k2,k3⟩:=h';refine ⟨F++F',(h1.ch hc (λ g hg=>hs g (h3 g hg) (h1.lt g hg))).app k1,List.nodup_append.2 ⟨h2,k2,λ a ha b hb e=>?_⟩,λ g hg=>?_⟩
 ·subst e;have:=h1.lt a ha;have:=k3 a hb;omega
 ·rcases List.mem_append.1 hg with hg|hg
  ·exact h3 g hg
  ·exact Nat.le_trans hb (k3 g hg)
theorem Rep.none (w:World) (base:Nat) (e:TypeId) (k:Nat):Rep w base [.row e k 0 []] [.slice none 0 0]:=by
 refine ⟨[],?_,List.nodup_nil,λ _ h=>by cases h⟩;refine DvsAt.cons (F1:=[]) (F2:=[]) ?_ (DvsAt.nil w);unfold DvAt;exact ⟨[],[],World.ownsRow_nil w 0 e k,rfl,DvsAt.nil w⟩
structure Kx where
 A:Option Addr
 n:Nat
 c:Nat
 xs:List Tk
structure Pv where
 q:Nat
 code:Int
 pos:Int
 V:Int
 N:Int
 M:Int
 C:Int
 D:Int
def Pv.cells (K:Kx) (r:Pv):List Value:=[.slice K.A K.n K.c,.int .i64 (r.q:Int),.int .i64 r.code,.int .i64 r.pos,.int .i64 r.V,.int .i64 r.N,.int .i64 r.M,.int .i64 r.C,.int .i64 r.D]
def PvB (w:World) (b:Nat) (K:Kx) (r:Pv):Prop:=CB w b 122 (r.cells K)
section
variable {w w':World} {b:Nat} {K:Kx} {r:Pv}
theorem PvB.lt (h:PvB w b K r):b<w.heap.size:=CB.lt h
theorem PvB.fr (h:PvB w b K r) (i:Nat):w.frozen? ⟨b,i,none⟩=false:=CB.fr h i
theorem PvB.below (h:PvB w b K r) (hb:Below w.heap.size w w'):PvB w' b K r:=CB.below h hb
theorem PvB.c0 (h:PvB w b K r):w.cell? ⟨b,0,none⟩=some (.slice K.A K.n K.c):=CB.c h 0 rfl
theorem PvB.c1 (h:PvB w b K r):w.cell? ⟨b,1,none⟩=some (.int .i64 (r.q:Int)):=CB.c h 1 rfl
theorem PvB.c2 (h:PvB w b K r):w.cell? ⟨b,2,none⟩=some (.int .i64 r.code):=CB.c h 2 rfl
theorem PvB.c3 (h:PvB w b K r):w.cell? ⟨b,3,none⟩=some (.int .i64 r.pos):=CB.c h 3 rfl
theorem PvB.c4 (h:PvB w b K r):w.cell? ⟨b,4,none⟩=some (.int .i64 r.V):=CB.c h 4 rfl
theorem PvB.c5 (h:PvB w b K r):w.cell? ⟨b,5,none⟩=some (.int .i64 r.N):=CB.c h 5 rfl
theorem PvB.c6 (h:PvB w b K r):w.cell? ⟨b,6,none⟩=some (.int .i64 r.M):=CB.c h 6 rfl
theorem PvB.c7 (h:PvB w b K r):w.cell? ⟨b,7,none⟩=some (.int .i64 r.C):=CB.c h 7 rfl
theorem PvB.c8 (h:PvB w b K r):w.cell? ⟨b,8,none⟩=some (.int .i64 r.D):=CB.c h 8 rfl
theorem PvB.setq (h:PvB w b K r) (q:Nat):PvB (w.setCell ⟨b,1,none⟩ (.int .i64 (q:Int))) b K { r with q:=q }:=CB.set h 1 _
theorem PvB.setF (h:PvB w b K r) (x y:Int):PvB ((w.setCell ⟨b,2,none⟩ (.int .i64 x)).setCell ⟨b,3,none⟩ (.int .i64 y)) b K { r with code:=x,pos:=y }:=CB.set (CB.set h 2 _) 3 _
theorem PvB.setD (h:PvB w b K r) (d:Int):PvB (w.setCell ⟨b,8,none⟩ (.int .i64 d)) b K { r with D:=d }:=CB.set h 8 _
end
def PvM (K:Kx) (r:Pv):Rs Unit->Prop
 |.out=>False
 |.bad c p=>r.code=c/\r.pos=p/\c≠0
 |.ok _ s=>r.code=0/\K.xs.drop r.q=s.ts/\TkEnds s.ts/\r.N=(s.n:Int)/\r.M=(s.m:Int)/\r.C=(s.a:Int)/\Fits s
structure KOk (K:Kx):Prop where
 n:K.n<=100000
 lex:∀t∈K.xs,Lex t
 lexT:∀t∈K.xs,LexT t
 ends:TkEnds K.xs
structure PS (w:World) (b:Nat) (K:Kx) (V D:Int) (m:Rs Unit):Prop where
 out:∃r:Pv,PvB w b K r/\r.q<K.n/\r.V=V/\r.D=D/\PvM K r m
 at_:TkAt w K.A K.n K.xs
 lt:∀g o,K.A=some ⟨g,o,none⟩->g<b
 vs:Vs w
 kb:0<b/\1<b
 ok:KOk K
section
variable {w w':World} {b:Nat} {K:Kx} {V D:Int} {m:Rs Unit}
theorem PS.blt (h:PS w b K V D m):b<w.heap.size:=by
 obtain ⟨r,h1,_⟩:=h.out;exact h1.lt
theorem PS.below (h:PS w b K V D m) (hb:Below w.heap.size w w'):PS w' b K V D m:=by
 obtain ⟨r,h1,h2⟩:=h.out;exact ⟨⟨r,h1.below hb,h2⟩,h.at_.below hb,h.lt,h.vs.below hb,h.kb,h.ok⟩
theorem PS.ch {S:Nat->Prop} (h:PS w b K V D m) (hc:Ch S w w') (hs:∀k,S k->b<k):PS w' b K V D m:=by
 obtain ⟨r,h1,h2⟩:=h.out
 have hn:∀k,k<=b->¬S k:=λ k hk h'=>by have:=hs k h';omega
 refine ⟨⟨r,CB.ch h1 hc (hn b (n_ _)),h2⟩,⟨h.at_.1,λ i t hi=>?_⟩,h.lt,?_,h.kb,h.ok⟩
 ·obtain ⟨g,o,e,a0,a1,a2,a3⟩:=h.at_.2 i t hi;have hb:w'.heap[g]?=w.heap[g]?:=hc.block g (World.block_lt_of_cell? w _ a0) (hn g (Nat.le_of_lt (h.lt g o e)));have e':∀j,w'.cell? ⟨g,j,none⟩=w.cell? ⟨g,j,none⟩:=λ j=>World.cell?_of_block (w:=w) hb;exact ⟨g,o,e,by rw [e'];exact a0,by rw [e'];exact a1,by rw [e'];exact a2,by rw [e'];exact a3⟩
 ·obtain ⟨t,fr,h1⟩:=h.vs.kw;obtain ⟨t',fr',h2⟩:=h.vs.sg;exact ⟨⟨t,fr,(hc.block _ h.vs.kw.lt (hn _ (Nat.le_of_lt h.kb.1))).trans h1⟩,⟨t',fr',(hc.block _ h.vs.sg.lt (hn _ (Nat.le_of_lt h.kb.2))).trans h2⟩⟩
theorem PS.turn {r:Pv} {V' D':Int} {m':Rs Unit} (h:PS w b K V D m) (hm:Mv b w w') (h1:PvB w' b K r) (h2:r.q<K.n) (h3:r.V=V') (h4:r.D=D') (h5:PvM K r m'):PS w' b K V' D' m':=by
 have hn:∀g o,K.A=some ⟨g,o,none⟩->g≠b:=λ g o e=>Nat.ne_of_lt (h.lt g o e);obtain ⟨t,fr,k1⟩:=h.vs.kw;obtain ⟨t',fr',k2⟩:=h.vs.sg;exact ⟨⟨r,h1,h2,h3,h4,h5⟩,h.at_.mv hm hn,h.lt,⟨⟨t,fr,(hm.block h.vs.kw.lt (Nat.ne_of_lt h.kb.1)).trans k1⟩,⟨t',fr',(hm.block h.vs.sg.lt (Nat.ne_of_lt h.kb.2)).trans k2⟩⟩,h.kb,h.ok⟩
theorem PS.notOut (h:PS w b K V D m):m≠.out:=by
 obtain ⟨r,_,_,_,_,h5⟩:=h.out;intro e;rw [e] at h5;exact h5
end
def TokAt (K:Kx) (m:Rs Unit) (t:Tk):Prop:=t∈K.xs/\∀s,m=.ok () s->∃r,s.ts=t::r
theorem PvM.tok {K:Kx} {r:Pv} {m:Rs Unit} {t:Tk} (h:PvM K r m) (ht:K.xs[r.q]?=some t):TokAt K m t:=by
 refine ⟨List.mem_of_getElem? ht,λ s e=>?_⟩;rw [e] at h;obtain ⟨_,h1,_⟩:=h;have:=List.drop_eq_getElem_cons (List.getElem?_eq_some_iff.1 ht).1;rw [(List.getElem?_eq_some_iff.1 ht).2] at this;exact ⟨_,by rw [<-h1,this]⟩
theorem PS.tok {w:World} {b:Nat} {K:Kx} {V D:Int} {m:Rs Unit} (h:PS w b K V D m):∃r t,PvB w b K r/\r.q<K.n/\r.V=V/\r.D=D/\PvM K r m/\K.xs[r.q]?=some t/\TokAt K m t:=by
 obtain ⟨r,h1,h2,h3,h4,h5⟩:=h.out
 obtain ⟨t,ht⟩:∃t,K.xs[r.q]?=some t:=⟨_,List.getElem?_eq_getElem (by rw [h.at_.1];exact h2)⟩
 exact ⟨r,t,h1,h2,h3,h4,h5,ht,h5.tok ht⟩
theorem snow_raw (w:World) (b:Nat) (K:Kx) (r:Pv) (t:Tk) (h:PvB w b K r) (hA:TkAt w K.A K.n K.xs) (ht:K.xs[r.q]?=some t) :
  Calls Tryz.prog 116 #[.pointer (some ⟨b,0,none⟩)] w λ e w'=>e=.returned (tkV t)/\Below w.heap.size w w':=by
 have hq:r.q<K.n:=by rw [<-hA.1];exact (List.getElem?_eq_some_iff.1 ht).1
 obtain ⟨A,n,c,xs⟩:=K;obtain ⟨q,code,pos,V,N,M,C,D⟩:=r;simp only at hq hA ht;obtain ⟨g,o,rfl,x0,x1,x2,x3⟩:=hA.2 q t ht
 obtain ⟨X,hX⟩:∃X,txV t.text=.string X:=⟨_,rfl⟩
 have HV:Hid (tkV t=.agg #[.int .i64 t.kind,.string X,.int .i64 t.num,.int .i64 t.at_]):=by show _=_;unfold tkV;rw [hX]
 rw [hX] at x1
 obtain ⟨g1,hg1⟩:∃g1,g1=w.heap.size:=⟨_,rfl⟩
 obtain ⟨W0,hW0⟩:∃W0,W0=w.alloc (.cells #[.int .i64 0,.string ⟨#[]⟩,.int .i64 0,.int .i64 0] 131):=⟨_,rfl⟩
 have HT:Hid (TkB W0 g1 (.int .i64 0) (.string ⟨#[]⟩) (.int .i64 0) (.int .i64 0)):=by rw [hW0,hg1];exact TkB.new _ _ _ _ _
 have HB0:Hid (Below w.heap.size w W0):=by rw [hW0];exact (b_ _ w).alloc (n_ _) _
 have hg1w:w.heap.size<=g1:=by omega
 have kb:∀{p:Addr} {u:Value},w.cell? p=some u->W0.cell? p=some u:=λ hc=>by rw [hW0,World.cell?_alloc_lt _ _ _ (World.block_lt_of_cell? w _ hc)];exact hc
 have r0:=kb h.c0;have r1:=kb h.c1;simp only at r0 r1;replace x0:=kb x0;replace x1:=kb x1;replace x2:=kb x2;replace x3:=kb x3
 have hq':(q:Int)<n:=by omega
 have f0:=HT.out.fr 0;have f1:=HT.out.fr 1;have f2:=HT.out.fr 2;have f3:=HT.out.fr 3;have z0:=HT.out.c0;have z1:=HT.out.c1;have z2:=HT.out.c2;have z3:=HT.out.c3;clear h hA ht hX kb;go_enter Tryz.func116,Tryz.ntmps116;go_upto_region 1 with fail;rw [<-hW0,<-hg1];clear hW0 hg1
 go_region
 all_goals
  go_wp2_with fail;refine bodyPost_ret (TkB.res1 (g:=g1) rfl _ rfl (HT.out.all (.int .i64 t.kind) (.string X) (.int .i64 t.num) (.int .i64 t.at_))) rfl ?_;exact ⟨by rw [HV.out],(below_four HB0.out hg1w _ _ _ _).drew⟩
theorem snow_any (w:World) (b:Nat) (K:Kx) (V D:Int) (m:Rs Unit) (h:PS w b K V D m) :
  Calls Tryz.prog 116 #[.pointer (some ⟨b,0,none⟩)] w λ e w'=>∃t,e=.returned (tkV t)/\TokAt K m t/\Below w.heap.size w w':=by
 obtain ⟨r,t,h1,_,_,_,_,ht,h6⟩:=h.tok;refine (snow_raw w b K r t h1 h.at_ ht).mono ?_;rintro e w' ⟨rfl,hb⟩;exact ⟨t,rfl,h6,hb⟩
theorem sfailed_raw (w:World) (b:Nat) (K:Kx) (r:Pv) (h:PvB w b K r) :
  Calls Tryz.prog 61 #[.pointer (some ⟨b,0,none⟩)] w λ e w'=>e=.returned (.bool (r.code != 0))/\w=w':=by
 have r2:=h.c2;clear h;go_enter Tryz.func61,Tryz.ntmps61;go_wp2_with fail;go_ret;exact ⟨rfl,rfl⟩
def Rs.wrong? (m:Rs Unit):Bool:=match m with
 |.ok _ _=>false
 |_=>true
theorem PvM.code {K:Kx} {r:Pv} {m:Rs Unit} (h:PvM K r m):(r.code != 0)=m.wrong?:=by
 cases m with
 |out=>exact absurd h (by intro h;exact h)
 |bad c p=>rw [h.1];show (c != 0)=true;simpa using h.2.2
 |ok x s=>rw [h.1];rfl
theorem sfailed_any (w:World) (b:Nat) (K:Kx) (V D:Int) (m:Rs Unit) (h:PS w b K V D m) :
  Calls Tryz.prog 61 #[.pointer (some ⟨b,0,none⟩)] w λ e w'=>e=.returned (.bool m.wrong?)/\w=w':=by
 obtain ⟨r,h1,_,_,_,h5⟩:=h.out;rw [<-h5.code];exact sfailed_raw w b K r h1
theorem sfail_raw (w:World) (b:Nat) (K:Kx) (r:Pv) (c:Int) (t:Tk) (h:PvB w b K r) :
  Calls Tryz.prog 171 #[.pointer (some ⟨b,0,none⟩),.int .i64 c,tkV t] w λ e w'=>e=.returned (.tuple #[])/\PvB w' b K (if r.code=0 then { r with code:=c,pos:=t.at_ } else r)/\Mv b w w':=by
 obtain ⟨X,hX⟩:∃X,txV t.text=.string X:=⟨_,rfl⟩
 unfold tkV;rw [hX]
 obtain ⟨g1,hg1⟩:∃g1,g1=w.heap.size:=⟨_,rfl⟩
 obtain ⟨W0,hW0⟩:∃W0,W0=w.alloc (.cells #[.int .i64 t.kind,.string X,.int .i64 t.num,.int .i64 t.at_] 131):=⟨_,rfl⟩
 have HT:Hid (TkB W0 g1 (.int .i64 t.kind) (.string X) (.int .i64 t.num) (.int .i64 t.at_)):=by rw [hW0,hg1];exact TkB.new _ _ _ _ _
 have HB0:Hid (Below w.heap.size w W0):=by rw [hW0];exact (b_ _ w).alloc (n_ _) _
 have HP0:=h_ (h.below HB0.out);have HF:=h_ (sfailed_raw W0 b K r HP0.out);have z3:=HT.out.c3;have r2:=HP0.out.c2;have r3:=HP0.out.c3;have f2:=HP0.out.fr 2;have f3:=HP0.out.fr 3;clear h hX
 by_cases hc:r.code=0
 ·have hc':(r.code != 0)=false:=by rw [hc];rfl
  have HC:=h_ hc;rw [hc'] at HF;rw [if_pos hc];clear hc hc';go_enter Tryz.func171,Tryz.ntmps171;go_upto_region 1 with fail;rw [<-hW0,<-hg1];clear hW0 hg1;go_wp2_with fail;refine HF.out.mono ?_;rintro e w1 ⟨rfl,rfl⟩;go_wp2_with fail;go_end0;exact ⟨rfl,HP0.out.setF _ _,((Mv.of b HB0.out).set 2 _).set 3 _⟩
 ·have hc':(r.code != 0)=true:=by simpa using hc
  rw [hc'] at HF;rw [if_neg hc];clear hc hc';go_enter Tryz.func171,Tryz.ntmps171;go_upto_region 1 with fail;rw [<-hW0,<-hg1];clear hW0 hg1;go_wp2_with fail;refine HF.out.mono ?_;rintro e w1 ⟨rfl,rfl⟩;go_wp2_with fail;go_end0;exact ⟨rfl,HP0.out,Mv.of b HB0.out⟩
theorem PvM.fail {K:Kx} {r:Pv} {m:Rs Unit} (h:PvM K r m) {c p:Int} (hc:c≠0):PvM K (if r.code=0 then { r with code:=c,pos:=p } else r) (m.go λ _=>.bad c p):=by
 cases m with
 |out=>exact absurd h (by intro h;exact h)
 |bad c' p' =>
  rw [if_neg (by rw [h.1];exact h.2.2)];exact h
 |ok x s =>
  rw [if_pos h.1];exact ⟨rfl,rfl,hc⟩
theorem pv_ite {p:Prop} [Decidable p] (r:Pv) (c a:Int):(if p then { r with code:=c,pos:=a } else r).q=r.q/\(if p then { r with code:=c,pos:=a } else r).V=r.V/\(if p then { r with code:=c,pos:=a } else r).D=r.D:=by
 split <;> exact ⟨rfl,rfl,rfl⟩
theorem sfail_any (w:World) (b:Nat) (K:Kx) (V D:Int) (m:Rs Unit) (h:PS w b K V D m) (c:Int) (t:Tk) (hc:c≠0) :
  Calls Tryz.prog 171 #[.pointer (some ⟨b,0,none⟩),.int .i64 c,tkV t] w λ e w'=>e=.returned (.tuple #[])/\PS w' b K V D (m.go λ _=>.bad c t.at_)/\Mv b w w':=by
 obtain ⟨r,h1,h2,h3,h4,h5⟩:=h.out;refine (sfail_raw w b K r c t h1).mono ?_;rintro e w' ⟨rfl,hp,hm⟩;obtain ⟨e1,e2,e3⟩:=pv_ite (p:=r.code=0) r c t.at_;exact ⟨rfl,h.turn hm hp (by rw [e1];exact h2) (by rw [e2];exact h3) (by rw [e3];exact h4) (h5.fail hc),hm⟩
theorem sunfit_any (w:World) (b:Nat) (K:Kx) (V D:Int) (m:Rs Unit) (h:PS w b K V D m) :
  Calls Tryz.prog 117 #[.pointer (some ⟨b,0,none⟩)] w λ e w'=>e=.returned (.tuple #[])/\PS w' b K V D (m.go λ s=>wrongR s.ts)/\Mv b w w':=by
 obtain ⟨r,t,h1,h2,h3,h4,h5,ht,htok⟩:=h.tok
 have HM:Hid ((m.go λ s=>(wrongR s.ts:Rs Unit))=m.go λ _=>.bad (wrC t) t.at_):=by
  show _=_
  cases m with
  |out=>rfl
  |bad c p=>rfl
  |ok x s =>
   obtain ⟨l,hl⟩:=htok.2 s rfl;show wrongR s.ts=.bad _ _;rw [hl,wrongR_cons];unfold wrC
   split <;> rfl
 rw [HM.out];have HN:=h_ (snow_raw w b K r t h1 h.at_ ht);have HN2:=h_ (λ (W:World) (hb:Below w.heap.size w W)=>snow_raw W b K r t (h1.below hb) (h.at_.below hb) ht);have HF:=h_ (λ (W:World) (hb:Below w.heap.size w W) (c:Int) (hc:c≠0)=>sfail_any W b K V D m (h.below hb) c t hc)
 obtain ⟨T,hT⟩:∃T,tkV t=T:=⟨_,rfl⟩
 obtain ⟨X,hX⟩:∃X,txV t.text=.string X:=⟨_,rfl⟩
 have hT2:T=.agg #[.int .i64 t.kind,.string X,.int .i64 t.num,.int .i64 t.at_]:=by rw [<-hT];unfold tkV;rw [hX]
 have HT:=h_ hT2;rw [hT,hT2] at HN HN2 HF;clear h h1 h2 h3 h4 h5 ht htok hT hT2 hX
 have hfl:∀w,(Instr.field 131 (.agg #[.int .i64 t.kind,.string X,.int .i64 t.num,.int .i64 t.at_]) 0).run Tryz.prog w=.ok (.int .i64 t.kind) w:=λ w=>by kernel_rfl
 cases hk:t.kind==5 with
 |true =>
  have HW:Hid (wrC t=3):=by show _=_;unfold wrC;rw [if_pos (eq_of_beq hk)]
  go_enter Tryz.func117,Tryz.ntmps117;go_wp2_with fail;refine HN.out.mono ?_;rintro e w1 ⟨rfl,hb⟩;have HB1:=h_ hb;clear hb HN;go_wp2_with fail;refine (HN2.out w1 HB1.out).mono ?_;rintro e w2 ⟨rfl,hb⟩;have HB2:=h_ (HB1.out.trans (hb.mono HB1.out.size));clear hb HN2;go_wp2_with fail;refine (HF.out w2 HB2.out 3 (by decide)).mono ?_;rintro e w3 ⟨rfl,hp,hm⟩;go_wp2_with fail;go_end0;exact ⟨rfl,by rw [HW.out];exact hp,(Mv.of b HB2.out).trans hm⟩
 |false =>
  have HW:Hid (wrC t=4):=by show _=_;unfold wrC;rw [if_neg (beq_eq_false_iff_ne.1 hk)]
  go_enter Tryz.func117,Tryz.ntmps117;go_wp2_with fail;refine HN.out.mono ?_;rintro e w1 ⟨rfl,hb⟩;have HB1:=h_ hb;clear hb HN;go_wp2_with fail;refine (HN2.out w1 HB1.out).mono ?_;rintro e w2 ⟨rfl,hb⟩;have HB2:=h_ (HB1.out.trans (hb.mono HB1.out.size));clear hb HN2;go_wp2_with fail;refine (HF.out w2 HB2.out 4 (by decide)).mono ?_;rintro e w3 ⟨rfl,hp,hm⟩;go_wp2_with fail;go_end0;exact ⟨rfl,by rw [HW.out];exact hp,(Mv.of b HB2.out).trans hm⟩
def IxR (us:List (List UInt8)) (x:List UInt8) (w:World) (e:Ending) (w':World):Prop:=(∃z:Int,e=.returned (.int .i64 z)/\decide (z ≥ 0)=us.contains x)/\w=w'
theorem cindex_any (w:World) (g:Nat) (us:List (List UInt8)) (X:ByteArray) (h:CB w g 9 (us.map txV)) (hn:us.length<=1000000) :
  Calls Tryz.prog 262 #[.slice (some ⟨g,0,none⟩) us.length us.length,.string X] w (IxR us X.data.toList w):=by
 obtain ⟨n,hnn⟩:∃n,us.length=n:=⟨_,rfl⟩
 rw [hnn] at hn ⊢;have HN:=h_ hnn;have HC:=h_ h;clear h hnn;go_enter Tryz.func262,Tryz.ntmps262;go_wp2_with fail
 go_loop [8] (λ iv=>∃i:Nat,i<=n/\iv=.int .i64 (i:Int)/\Hid (∀(j:Nat) (u:List UInt8),j<i->us[j]?=some u->¬X.data.toList=u)) (λ iv=>n-(intOf iv).toNat)
 case atStart=>exact ⟨0,Nat.zero_le _,rfl,λ j o h=>absurd h (Nat.not_lt_zero _)⟩
 case round =>
  obtain ⟨i,hi,rfl,HNO⟩:=hrel
  by_cases him:i<n
  ·have him':(i:Int)<n:=by omega
   obtain ⟨u,hu⟩:∃u,us[i]?=some u:=⟨_,List.getElem?_eq_getElem (by rw [HN.out];exact him)⟩
   obtain ⟨Y,hY⟩:∃Y:ByteArray,txV u=.string Y:=⟨_,rfl⟩
   have eY:Y.data.toList=u:=by
    unfold txV at hY;injection hY with hY;rw [<-hY]
   have u1:w.cell? ⟨g,i,none⟩=some (.string Y):=by
    rw [<-hY];exact HC.out.c i (by rw [List.getElem?_map,hu];rfl)
   have HO:=h_ hu;have HEY:=h_ eY;clear hu hY eY
   obtain ⟨dd,hdd⟩:∃dd,(X.toList==Y.toList)=dd:=⟨_,rfl⟩
   have HDD:=h_ hdd;cases dd
   ·have HR:Hid (∀(j:Nat) (v:List UInt8),j<i+1->us[j]?=some v->¬X.data.toList=v):=λ j o' hj ho'=>by
     rcases Nat.lt_succ_iff_lt_or_eq.1 hj with h|rfl
     ·exact HNO.out j o' h ho'
     ·rw [HO.out] at ho';injection ho' with ho';subst ho';have:=HDD.out;rw [Lib.toList_data,Lib.toList_data,HEY.out] at this;simpa using this
    go_wp2_with fail;exact ⟨⟨i+1,by omega,by go_num,HR⟩,by simp [intOf];omega⟩
   ·have HR:Hid (us.contains X.data.toList=true):=by
     show _=_;have:=HDD.out;rw [Lib.toList_data,Lib.toList_data,HEY.out] at this;rw [eq_of_beq this];simpa using List.mem_of_getElem? HO.out
    go_wp2_with fail;go_ret;exact ⟨⟨(i:Int),rfl,by rw [HR.out];simp⟩,rfl⟩
  ·have HR:Hid (us.contains X.data.toList=false):=by
    show _=_;rw [Bool.eq_false_iff];intro h
    have h':X.data.toList∈us:=by simpa using h
    obtain ⟨j,hj⟩:=List.getElem?_of_mem h';exact HNO.out j _ (by have:=(List.getElem?_eq_some_iff.1 hj).1;rw [HN.out] at this;omega) hj rfl
   have him':¬(i:Int)<n:=by omega
   go_wp2_with fail;go_ret;exact ⟨⟨-1,rfl,by rw [HR.out];rfl⟩,rfl⟩
theorem ccontains_any (w:World) (g:Nat) (us:List (List UInt8)) (X:ByteArray) (h:CB w g 9 (us.map txV)) (hn:us.length<=1000000) :
  Calls Tryz.prog 219 #[.slice (some ⟨g,0,none⟩) us.length us.length,.string X] w λ e w'=>e=.returned (.bool (us.contains X.data.toList))/\w=w':=by
 have HC:=h_ (cindex_any w g us X h hn)
 obtain ⟨n,hnn⟩:∃n,us.length=n:=⟨_,rfl⟩
 obtain ⟨d,hd⟩:∃d,us.contains X.data.toList=d:=⟨_,rfl⟩
 rw [hnn] at HC;rw [hnn,hd];have HD:=h_ hd;clear h hnn hd hn;go_enter Tryz.func219,Tryz.ntmps219;go_wp2_with fail;refine HC.out.mono ?_;rintro e w1 ⟨⟨z,rfl,hz⟩,rfl⟩;rw [HD.out] at hz;go_wp2_with fail;go_ret;exact ⟨rfl,rfl⟩
def textAt (s:Ss):List UInt8:=match s.ts with
 |[]=>[]
 |t::_=>t.text
def bgn (us:List (List UInt8)) (s:Ss):Bool:=us.contains (textAt s)
theorem sbegins_any (w:World) (b:Nat) (K:Kx) (V D:Int) (m:Rs Unit) (g:Nat) (us:List (List UInt8)) (h:PS w b K V D m) (hg:CB w g 9 (us.map txV)) (hn:us.length<=1000000) :
  Calls Tryz.prog 167 #[.pointer (some ⟨b,0,none⟩),.slice (some ⟨g,0,none⟩) us.length us.length] w λ e w'=>e=.returned (.bool (m.tell (bgn us)))/\Below w.heap.size w w':=by
 have HF:=h_ (sfailed_any w b K V D m h)
 cases m with
 |out=>exact absurd rfl h.notOut
 |bad c p =>
  have hw:(Rs.bad c p:Rs Unit).wrong?=true:=rfl;have ht:(Rs.bad c p:Rs Unit).tell (bgn us)=false:=rfl;rw [hw] at HF;rw [ht];clear h hg hn hw ht;go_enter Tryz.func167,Tryz.ntmps167;go_wp2_with fail;refine HF.out.mono ?_;rintro e w1 ⟨rfl,rfl⟩;go_wp2_with fail;go_ret;exact ⟨rfl,b_ _ _⟩
 |ok x s =>
  have hw:(Rs.ok x s:Rs Unit).wrong?=false:=rfl;rw [hw] at HF;have HN:=h_ (snow_any w b K V D _ h);have HC:=h_ (λ (W:World) (hb:Below w.heap.size w W) (X:ByteArray)=>ccontains_any W g us X (hg.below hb) hn)
  obtain ⟨n,hnn⟩:∃n,us.length=n:=⟨_,rfl⟩
  rw [hnn] at HC ⊢
  obtain ⟨bb,hbb⟩:∃bb,(Rs.ok x s:Rs Unit).tell (bgn us)=bb:=⟨_,rfl⟩
  rw [hbb];have HBB:=h_ hbb;clear h hg hn hw hnn hbb;go_enter Tryz.func167,Tryz.ntmps167;go_wp2_with fail;refine HF.out.mono ?_;rintro e w1 ⟨rfl,rfl⟩;go_wp2_with fail;refine HN.out.mono ?_;rintro e w2 ⟨t,rfl,htok,hb⟩
  obtain ⟨X,hX⟩:∃X,txV t.text=.string X:=⟨_,rfl⟩
  have eX:X.data.toList=t.text:=by
   unfold txV at hX;injection hX with hX;rw [<-hX]
  have hcon:us.contains X.data.toList=bb:=by
   obtain ⟨r,hr⟩:=htok.2 s (by cases x;rfl);rw [eX,<-HBB.out];show _=bgn us s;unfold bgn textAt;rw [hr]
  have HC2:=h_ (HC.out w2 hb X);rw [hcon] at HC2;have HB:=h_ hb;unfold tkV;rw [hX]
  have hfl:∀w,(Instr.field 131 (.agg #[.int .i64 t.kind,.string X,.int .i64 t.num,.int .i64 t.at_]) 1).run Tryz.prog w=.ok (.string X) w:=λ w=>by kernel_rfl
  clear hb hX eX hcon htok HC;go_wp2_with fail;refine HC2.out.mono ?_;rintro e w3 ⟨rfl,rfl⟩;go_wp2_with fail;go_ret;exact ⟨rfl,HB.out⟩
theorem PvM.step {K:Kx} {r:Pv} {s:Ss} (h:PvM K r (.ok () s)) (hk:kindOf s.ts≠5) (hl:K.xs.length=K.n):r.q+1<K.n/\PvM K { r with q:=r.q+1 } (.ok () s.drop):=by
 obtain ⟨h1,h2,h3,h4⟩:=h;obtain ⟨ts,n,m,a⟩:=s;simp only at h2 h3 h4 hk
 match ts,h2,h3,hk with
 |[],_,h3,_=>exact absurd rfl h3.ne
 |t::l,h2,h3,hk =>
  have h5:=h3.tail hk
  have h6:K.xs.drop (r.q+1)=l:=by
   rw [<-List.drop_drop,h2];rfl
  refine ⟨?_,h1,h6,h5,h4⟩;rcases Nat.lt_or_ge (r.q+1) K.n with h|h
  ·exact h
  ·rw [List.drop_eq_nil_of_le (by omega)] at h6;exact absurd h6.symm h5.ne
theorem stake_any (w:World) (b:Nat) (K:Kx) (V D:Int) (m:Rs Unit) (h:PS w b K V D m) (hk:∀s,m=.ok () s->kindOf s.ts≠5) :
  Calls Tryz.prog 168 #[.pointer (some ⟨b,0,none⟩)] w λ e w'=>∃t,e=.returned (tkV t)/\TokAt K m t/\PS w' b K V D (m.go λ s=>.ok () s.drop)/\Mv b w w':=by
 obtain ⟨g2,hg2⟩:∃g,g=w.heap.size:=⟨_,rfl⟩
 obtain ⟨W0,hW0⟩:∃W0,W0=w.alloc (.cells #[.int .i64 0,.string ⟨#[]⟩,.int .i64 0,.int .i64 0] 131):=⟨_,rfl⟩
 have HT:Hid (TkB W0 g2 (.int .i64 0) (.string ⟨#[]⟩) (.int .i64 0) (.int .i64 0)):=by rw [hW0,hg2];exact TkB.new _ _ _ _ _
 have HB0:Hid (Below w.heap.size w W0):=by rw [hW0];exact (b_ _ w).alloc (n_ _) _
 have hbw:=h.blt
 have hg2w:w.heap.size<=g2:=by omega
 have hg2b:g2≠b:=by omega
 have HP:=h_ h;have HK:=h_ hk;have HN:=h_ (snow_any W0 b K V D m (h.below HB0.out));clear h hk;go_enter Tryz.func168,Tryz.ntmps168;go_upto_region 1 with fail;rw [<-hW0,<-hg2];clear hW0 hg2;go_wp2_with fail;refine HN.out.mono ?_;rintro e w1 ⟨t,rfl,htok,hb⟩
 obtain ⟨X,hX⟩:∃X,txV t.text=.string X:=⟨_,rfl⟩
 have HV:Hid (tkV t=.agg #[.int .i64 t.kind,.string X,.int .i64 t.num,.int .i64 t.at_]):=by show _=_;unfold tkV;rw [hX]
 rw [HV.out]
 obtain ⟨g3,hg3⟩:∃g,g=w1.heap.size:=⟨_,rfl⟩
 obtain ⟨W1,hW1⟩:∃W1,W1=w1.alloc (.cells #[.int .i64 t.kind,.string X,.int .i64 t.num,.int .i64 t.at_] 131):=⟨_,rfl⟩
 have hb1:Below w1.heap.size w1 W1:=by rw [hW1];exact (b_ _ w1).alloc (n_ _) _
 have HT1:=h_ ((HT.out.below hb).below hb1)
 have HX1:Hid (TkB W1 g3 (.int .i64 t.kind) (.string X) (.int .i64 t.num) (.int .i64 t.at_)):=by rw [hW1,hg3];exact TkB.new _ _ _ _ _
 have HB1:Hid (Below w.heap.size w W1):=(HB0.out.trans (hb.mono HB0.out.size)).trans (hb1.mono (by have:=HB0.out.size;have:=hb.size;omega))
 have hg3b:g3≠b:=by have:=HB0.out.size;have:=hb.size;omega
 have HTOK:=h_ htok;have HP1:=h_ (HP.out.below HB1.out);have HF:=h_ (sfailed_any W1 b K V D m HP1.out);clear hb hb1 HT HB0 HN hX htok;go_upto_region 2 with fail;rw [<-hW1,<-hg3];clear hW1 hg3;have z0:=HX1.out.c0;have z1:=HX1.out.c1;have z2:=HX1.out.c2;have z3:=HX1.out.c3;have k0:=HT1.out.c0;have k1:=HT1.out.c1;have k2:=HT1.out.c2;have k3:=HT1.out.c3;have f0:=HT1.out.fr 0;have f1:=HT1.out.fr 1;have f2:=HT1.out.fr 2;have f3:=HT1.out.fr 3
 cases m with
 |out=>exact absurd rfl HP.out.notOut
 |bad c p =>
  have hw:(Rs.bad c p:Rs Unit).wrong?=true:=rfl;rw [hw] at HF;clear hw;go_wp2_with fail;refine HF.out.mono ?_;rintro e w2 ⟨rfl,rfl⟩;go_wp2_with fail;refine bodyPost_ret (TkB.res1 (g:=g2) rfl _ rfl (HT1.out.all (.int .i64 t.kind) (.string X) (.int .i64 t.num) (.int .i64 t.at_))) rfl ?_;have hbb:=below_four HB1.out hg2w (.int .i64 t.kind) (.string X) (.int .i64 t.num) (.int .i64 t.at_);exact ⟨t,by rw [HV.out],HTOK.out,HP.out.below hbb,Mv.of b hbb⟩
 |ok x s =>
  have hw:(Rs.ok x s:Rs Unit).wrong?=false:=rfl;rw [hw] at HF;obtain ⟨r,hp1,hq1,hv1,hd1,hm1⟩:=HP1.out.out;have HM1:=h_ (hm1.step (HK.out s (by cases x;rfl)) HP1.out.at_.1);have HR1:=h_ (And.intro hq1 (And.intro hv1 hd1));have HPB:=h_ hp1;have r1:=hp1.c1;have e1:=hp1.fr 1
  have hq':(r.q:Int)<1000000000:=by have:=HP1.out.ok.n;omega
  clear hw hp1 hq1 hv1 hd1 hm1;go_wp2_with fail;refine HF.out.mono ?_;rintro e w2 ⟨rfl,rfl⟩;go_wp2_with fail;have hpq:=HPB.out.setq (r.q+1);rw [Int.natCast_add] at hpq;have hmq:Mv b w (W1.setCell ⟨b,1,none⟩ (.int .i64 ((r.q:Int)+1))):=(Mv.of b HB1.out).set 1 _
  obtain ⟨W2,hW2⟩:∃W2,W2=W1.setCell ⟨b,1,none⟩ (.int .i64 ((r.q:Int)+1)):=⟨_,rfl⟩
  have hT2:TkB W2 g2 (.int .i64 0) (.string ⟨#[]⟩) (.int .i64 0) (.int .i64 0):=by rw [hW2];exact HT1.out.mv ((Mv.refl b W1).set 1 _) hg2b
  refine bodyPost_ret (TkB.res1 (g:=g2) rfl _ rfl ((show TkB (W1.setCell ⟨b,1,none⟩ (.int .i64 ((r.q:Int)+1))) g2 _ _ _ _ from hW2 ▸ hT2).all (.int .i64 t.kind) (.string X) (.int .i64 t.num) (.int .i64 t.at_))) rfl ?_
  have hg2':(W1.setCell ⟨b,1,none⟩ (.int .i64 ((r.q:Int)+1))).heap.size=W1.heap.size:=by simp
  have hm4:=((((Mv.refl g2 (W1.setCell ⟨b,1,none⟩ (.int .i64 ((r.q:Int)+1)))).set 0 (.int .i64 t.kind)).set 1 (.string X)).set 2 (.int .i64 t.num)).set 3 (.int .i64 t.at_);have hp9:=CB.mv hpq hm4 (Ne.symm hg2b);have hm9:=(((hmq.put 0 g2 hg2w (.int .i64 t.kind)).put 1 g2 hg2w (.string X)).put 2 g2 hg2w (.int .i64 t.num)).put 3 g2 hg2w (.int .i64 t.at_);exact ⟨t,by rw [HV.out],HTOK.out,HP.out.turn hm9 hp9 HM1.out.1 HR1.out.2.1 HR1.out.2.2 HM1.out.2,hm9⟩
theorem wrong_bad' {α:Type} (ts:List Tk):∃c p,(wrongR ts:Rs α)=.bad c p:=by
 cases ts with
 |nil=>exact ⟨_,_,rfl⟩
 |cons t r=>rw [wrongR_cons];split <;> exact ⟨_,_,rfl⟩
theorem txV_data (S:ByteArray):txV S.data.toList=.string S:=by unfold txV;simp
theorem PS.head {w:World} {b:Nat} {K:Kx} {V D:Int} {m:Rs Unit} (h:PS w b K V D m) {x:Unit} {s:Ss} (e:m=.ok x s):∃t l,s.ts=t::l/\LexT t/\Lex t/\TkEnds s.ts/\Fits s:=by
 obtain ⟨r,h1,h2,_,_,h5⟩:=h.out;rw [e] at h5;obtain ⟨_,h6,h7,_,_,_,h8⟩:=h5;obtain ⟨ts,n,mm,a⟩:=s;simp only at h6 h7
 match ts,h6,h7 with
 |[],_,h7=>exact absurd rfl h7.ne
 |t::l,h6,h7 =>
  have hm:t∈K.xs:=by
   have:t∈K.xs.drop r.q:=by rw [h6];simp
   exact List.mem_of_mem_drop this
  exact ⟨t,l,rfl,h.ok.lexT t hm,h.ok.lex t hm,h7,h8⟩
theorem bgn_one {k:Int} {u:List UInt8} (hk:Tells k u) {s:Ss} {t:Tk} {l:List Tk} (hs:s.ts=t::l) (ht:LexT t):bgn [u] s=isAt k u s.ts:=by
 unfold bgn textAt;rw [hs];show ([u].contains t.text)=isTk k u t;rw [hk t ht,Bool.eq_iff_iff];simp
theorem isAt_kind {k:Int} {u:List UInt8} {s:Ss} (h:isAt k u s.ts=true) (hk5:k≠5):kindOf s.ts≠5:=by
 obtain ⟨t,r,hs⟩:=isAt_cons h;rw [hs] at h ⊢;have h':isTk k u t=true:=h;unfold isTk at h';rw [Bool.and_eq_true,decide_eq_true_eq] at h';show t.kind≠5;rw [h'.1];exact hk5
theorem sneed_any (w:World) (b:Nat) (K:Kx) (V D:Int) (m:Rs Unit) (h:PS w b K V D m) (S:ByteArray) (k:Int) (hk:Tells k S.data.toList) (hk5:k≠5) :
  Calls Tryz.prog 108 #[.pointer (some ⟨b,0,none⟩),.string S] w λ e w'=>e=.returned (.tuple #[])/\PS w' b K V D (m.go (mustR k S.data.toList))/\Mv b w w':=by
 have HB:=h_ (λ (W:World) (hW:W=w.alloc (.cells #[.string S] 9))=>show Calls Tryz.prog 167 #[.pointer (some ⟨b,0,none⟩),.slice (some ⟨w.heap.size,0,none⟩) 1 1] W _ from sbegins_any W b K V D m w.heap.size [S.data.toList] (by rw [hW];exact h.below ((b_ _ w).alloc (n_ _) _)) (by rw [hW];show CB _ _ _ [txV S.data.toList];rw [txV_data];exact CB.new w _ [.string S]) (by simp));have HBA:Hid (Below w.heap.size w (w.alloc (.cells #[.string S] 9))):=(b_ _ w).alloc (n_ _) _;have HP:=h_ h
 cases hd:m.tell (bgn [S.data.toList]) with
 |true =>
  obtain ⟨s,rfl,hb⟩:=Rs.tell_true hd;obtain ⟨t,l,hs,hl,_,_⟩:=h.head rfl;rw [bgn_one hk hs hl] at hb
  have HU:Hid (mustR k S.data.toList s=.ok () s.drop):=by show _=_;unfold mustR;rw [if_pos hb]
  have HK:=h_ (isAt_kind hb hk5);rw [hd] at HB;clear h hd hk hs hl hb;go_enter Tryz.func108,Tryz.ntmps108;go_wp2_with fail;refine (HB.out _ rfl).mono ?_;rintro e w1 ⟨rfl,hb⟩;have HB1:=h_ (HBA.out.trans (hb.mono HBA.out.size));clear hb HB HBA;have HC:=h_ (stake_any w1 b K V D _ (HP.out.below HB1.out) (λ s' e=>by injection e with _ e;subst e;exact HK.out));go_wp2_with fail;refine HC.out.mono ?_;rintro e w2 ⟨t',rfl,_,hp,hm⟩;have HP2:=h_ hp;have HM2:=h_ ((Mv.of b HB1.out).trans hm);clear hp hm HC;unfold tkV txV;go_wp2_with fail;go_end0;exact ⟨rfl,by show PS w2 b K V D (mustR k S.data.toList s);rw [HU.out];exact HP2.out,HM2.out⟩
 |false =>
  have HU:Hid (m.go (mustR k S.data.toList)=m.go λ s=>wrongR s.ts):=by
   show _=_
   cases m with
   |out=>rfl
   |bad c p=>rfl
   |ok x s =>
    obtain ⟨t,l,hs,hl,_,_⟩:=h.head rfl;have hb:bgn [S.data.toList] s=false:=hd;rw [bgn_one hk hs hl] at hb;show mustR k S.data.toList s=wrongR s.ts;unfold mustR;rw [if_neg (by rw [hb];decide)]
  have HX:Hid (∀s,¬(m.go λ s=>(wrongR s.ts:Rs Unit))=.ok () s):=λ s e=>by
   cases m with
   |out=>cases e
   |bad c p=>cases e
   |ok x s' =>
    obtain ⟨c,p,e'⟩:=wrong_bad' (α:=Unit) s'.ts;have:(wrongR s'.ts:Rs Unit)=.ok () s:=e;rw [e'] at this;cases this
  rw [hd] at HB;clear h hd hk;go_enter Tryz.func108,Tryz.ntmps108;go_wp2_with fail;refine (HB.out _ rfl).mono ?_;rintro e w1 ⟨rfl,hb⟩;have HB1:=h_ (HBA.out.trans (hb.mono HBA.out.size));clear hb HB HBA;have HC:=h_ (sunfit_any w1 b K V D _ (HP.out.below HB1.out));go_wp2_with fail;refine HC.out.mono ?_;rintro e w2 ⟨rfl,hp,hm⟩;have HP2:=h_ hp;have HM2:=h_ ((Mv.of b HB1.out).trans hm);clear hp hm HC;have HC2:=h_ (stake_any w2 b K V D _ HP2.out (λ s e=>absurd e (HX.out s)));go_wp2_with fail;refine HC2.out.mono ?_;rintro e w3 ⟨t',rfl,_,hp,hm⟩;have HP3:=h_ hp;have HM3:=h_ (HM2.out.trans hm);clear hp hm HC2;unfold tkV txV;go_wp2_with fail;go_end0;refine ⟨rfl,?_,HM3.out⟩;rw [HU.out];have hp3:=HP3.out
  cases hmm:(m.go λ s=>(wrongR s.ts:Rs Unit)) with
  |out=>rw [hmm] at hp3;exact hp3
  |bad c p=>rw [hmm] at hp3;exact hp3
  |ok x s=>exact absurd hmm (HX.out s)
theorem sskip_any (w:World) (b:Nat) (K:Kx) (V D:Int) (m:Rs Unit) (h:PS w b K V D m) (S:ByteArray) (k:Int) (hk:Tells k S.data.toList) (hk5:k≠5) :
  Calls Tryz.prog 172 #[.pointer (some ⟨b,0,none⟩),.string S] w λ e w'=>e=.returned (.bool (m.tell λ s=>isAt k S.data.toList s.ts))/\PS w' b K V D (m.go (skipR k S.data.toList))/\Mv b w w':=by
 have HB:=h_ (λ (W:World) (hW:W=w.alloc (.cells #[.string S] 9))=>show Calls Tryz.prog 167 #[.pointer (some ⟨b,0,none⟩),.slice (some ⟨w.heap.size,0,none⟩) 1 1] W _ from sbegins_any W b K V D m w.heap.size [S.data.toList] (by rw [hW];exact h.below ((b_ _ w).alloc (n_ _) _)) (by rw [hW];show CB _ _ _ [txV S.data.toList];rw [txV_data];exact CB.new w _ [.string S]) (by simp));have HBA:Hid (Below w.heap.size w (w.alloc (.cells #[.string S] 9))):=(b_ _ w).alloc (n_ _) _;have HP:=h_ h
 have HT:Hid (m.tell (bgn [S.data.toList])=m.tell λ s=>isAt k S.data.toList s.ts):=by
  show _=_
  cases m with
  |out=>rfl
  |bad c p=>rfl
  |ok x s =>
   obtain ⟨t,l,hs,hl,_,_⟩:=h.head rfl;exact bgn_one hk hs hl
 rw [HT.out] at HB
 cases hd:m.tell λ s=>isAt k S.data.toList s.ts with
 |true =>
  obtain ⟨s,rfl,hb⟩:=Rs.tell_true hd
  have HU:Hid (skipR k S.data.toList s=.ok () s.drop):=by show _=_;unfold skipR;rw [if_pos hb]
  have HK:=h_ (isAt_kind hb hk5);rw [hd] at HB;clear h hd hk hb;go_enter Tryz.func172,Tryz.ntmps172;go_wp2_with fail;refine (HB.out _ rfl).mono ?_;rintro e w1 ⟨rfl,hb⟩;have HB1:=h_ (HBA.out.trans (hb.mono HBA.out.size));clear hb HB HBA;have HC:=h_ (stake_any w1 b K V D _ (HP.out.below HB1.out) (λ s' e=>by injection e with _ e;subst e;exact HK.out));go_wp2_with fail;refine HC.out.mono ?_;rintro e w2 ⟨t',rfl,_,hp,hm⟩;have HP2:=h_ hp;have HM2:=h_ ((Mv.of b HB1.out).trans hm);clear hp hm HC;unfold tkV txV;go_wp2_with fail;go_ret;exact ⟨rfl,by show PS w2 b K V D (skipR k S.data.toList s);rw [HU.out];exact HP2.out,HM2.out⟩
 |false =>
  have HU:Hid (m.go (skipR k S.data.toList)=m):=by
   show _=_
   cases m with
   |out=>rfl
   |bad c p=>rfl
   |ok x s =>
    have hb:isAt k S.data.toList s.ts=false:=hd;show skipR k S.data.toList s=_;unfold skipR;rw [if_neg (by rw [hb];decide)]
  rw [hd] at HB;clear h hd hk;go_enter Tryz.func172,Tryz.ntmps172;go_wp2_with fail;refine (HB.out _ rfl).mono ?_;rintro e w1 ⟨rfl,hb⟩;have HB1:=h_ (HBA.out.trans (hb.mono HBA.out.size));clear hb HB HBA;go_wp2_with fail;go_ret;exact ⟨rfl,by rw [HU.out];exact HP.out.below HB1.out,Mv.of b HB1.out⟩
def tk4 (w:World) (g:Nat) (y0 y1 y2 y3:Value):World:=(((w.setCell ⟨g,0,none⟩ y0).setCell ⟨g,1,none⟩ y1).setCell ⟨g,2,none⟩ y2).setCell ⟨g,3,none⟩ y3
theorem tk4_mv (w:World) (g:Nat) (y0 y1 y2 y3:Value):Mv g w (tk4 w g y0 y1 y2 y3):=((((Mv.refl g w).set 0 y0).set 1 y1).set 2 y2).set 3 y3
theorem PS.tk4 {w:World} {b:Nat} {K:Kx} {V D:Int} {m:Rs Unit} (h:PS w b K V D m) {g:Nat} (hg:b<g) (y0 y1 y2 y3:Value):PS (tk4 w g y0 y1 y2 y3) b K V D m:=h.ch (Ch.of_mv (tk4_mv w g y0 y1 y2 y3)) (λ k e=>by have e':k=g:=e;omega)
theorem void_go {α:Type} (m:Rs Unit) (f:Ss->α) (g:Ss->Ss):(m.go λ s=>(.ok (f s) (g s):Rs α)).void=m.go λ s=>.ok () (g s):=by cases m <;> rfl
theorem go_wrong {α:Type} (m:Rs Unit) (s:Ss) (x:α):¬(m.go λ s=>(wrongR s.ts:Rs α))=.ok x s:=λ e=>by
 cases m with
 |out=>cases e
 |bad c p=>cases e
 |ok y s' =>
  obtain ⟨c,p,e'⟩:=wrong_bad' (α:=α) s'.ts;have:(wrongR s'.ts:Rs α)=.ok x s:=e;rw [e'] at this;cases this
theorem wrong_void {α:Type} (ts:List Tk):(wrongR ts:Rs α).void=wrongR ts:=by
 cases ts with
 |nil=>rfl
 |cons t r=>rw [wrongR_cons,wrongR_cons];split <;> rfl
theorem go_wrong_void {α:Type} (m:Rs Unit):(m.go λ s=>(wrongR s.ts:Rs α)).void=m.go λ s=>wrongR s.ts:=by
 cases m with
 |out=>rfl
 |bad c p=>rfl
 |ok y s=>exact wrong_void s.ts
theorem go_stays {m:Rs Unit} (h:∀s,¬m=.ok () s) (f:Ss->Rs Unit):m.go f=m:=by
 cases m with
 |out=>rfl
 |bad c p=>rfl
 |ok x s=>exact absurd rfl (h s)
def kindR (k:Int) (s:Ss):Rs Tk:=match s.ts with
 |[]=>.bad 0 0
 |t::r=>if t.kind=k then .ok t ⟨r,s.n,s.m,s.a⟩ else wrongR (t::r)
theorem skind_any (w:World) (b:Nat) (K:Kx) (V D:Int) (m:Rs Unit) (h:PS w b K V D m) (k:Int) (hk5:k≠5) :
  Calls Tryz.prog 220 #[.pointer (some ⟨b,0,none⟩),.int .i64 k] w λ e w'=>∃t,e=.returned (tkV t)/\(m.go (kindR k)).is t/\PS w' b K V D (m.go (kindR k)).void/\Mv b w w':=by
 obtain ⟨g2,hg2⟩:∃g,g=w.heap.size:=⟨_,rfl⟩
 obtain ⟨W0,hW0⟩:∃W0,W0=w.alloc (.cells #[.int .i64 0,.string ⟨#[]⟩,.int .i64 0,.int .i64 0] 131):=⟨_,rfl⟩
 have HT:Hid (TkB W0 g2 (.int .i64 0) (.string ⟨#[]⟩) (.int .i64 0) (.int .i64 0)):=by rw [hW0,hg2];exact TkB.new _ _ _ _ _
 have HB0:Hid (Below w.heap.size w W0):=by rw [hW0];exact (b_ _ w).alloc (n_ _) _
 have hbw:=h.blt
 have hg2w:w.heap.size<=g2:=by omega
 have hg2b:g2≠b:=by omega
 have HP:=h_ h;have HN:=h_ (snow_any W0 b K V D m (h.below HB0.out));clear h;go_enter Tryz.func220,Tryz.ntmps220;go_upto_region 1 with fail;rw [<-hW0,<-hg2];clear hW0 hg2;go_wp2_with fail;refine HN.out.mono ?_;rintro e w1 ⟨t,rfl,htok,hb⟩
 obtain ⟨X,hX⟩:∃X,txV t.text=.string X:=⟨_,rfl⟩
 unfold tkV;rw [hX]
 have hfl:∀w,(Instr.field 131 (.agg #[.int .i64 t.kind,.string X,.int .i64 t.num,.int .i64 t.at_]) 0).run Tryz.prog w=.ok (.int .i64 t.kind) w:=λ w=>by kernel_rfl
 have HT1:=h_ (HT.out.below hb);have HB1:Hid (Below w.heap.size w w1):=HB0.out.trans (hb.mono HB0.out.size);have HTOK:=h_ htok;have HP1:=h_ (HP.out.below HB1.out);clear hb HT HB0 HN hX htok;have hne:∀a b:Int,(a != b)=!(a==b):=λ _ _=>rfl
 cases hkk:t.kind==k with
 |true =>
  have hkk':(t.kind != k)=false:=by rw [hne,hkk];rfl
  have HKK:=h_ (eq_of_beq hkk)
  have HU:Hid (m.go (kindR k)=m.go λ s=>.ok t s.drop):=by
   show _=_
   cases m with
   |out=>rfl
   |bad c p=>rfl
   |ok x s =>
    obtain ⟨r,hr⟩:=HTOK.out.2 s rfl;show kindR k s=.ok t s.drop;unfold kindR;rw [hr];show (if t.kind=k then _ else _)=_;rw [if_pos HKK.out];unfold Ss.drop;rw [hr];rfl
  have HC:=h_ (stake_any w1 b K V D m HP1.out (λ s e=>by
   obtain ⟨r,hr⟩:=HTOK.out.2 s e;rw [hr];show t.kind≠5;rw [HKK.out]
   exact hk5))
  clear hkk hne;go_wp2_with fail;refine HC.out.mono ?_;rintro e w2 ⟨t',rfl,htok2,hp,hm⟩
  obtain ⟨Y,hY⟩:∃Y,txV t'.text=.string Y:=⟨_,rfl⟩
  have HV:Hid (tkV t'=.agg #[.int .i64 t'.kind,.string Y,.int .i64 t'.num,.int .i64 t'.at_]):=by show _=_;unfold tkV;rw [hY]
  unfold tkV;rw [hY]
  have HTT:Hid (∀s,m=.ok () s->t'=t):=λ s e=>by
   obtain ⟨r,hr⟩:=HTOK.out.2 s e;obtain ⟨r',hr'⟩:=htok2.2 s e;rw [hr] at hr';injection hr' with e1 _;exact e1.symm
  have HT2:=h_ (HT1.out.mv hm hg2b);have HP2:=h_ hp;have HM2:=h_ ((Mv.of b HB1.out).trans hm);have k0:=HT2.out.c0;have k1:=HT2.out.c1;have k2:=HT2.out.c2;have k3:=HT2.out.c3;have f0:=HT2.out.fr 0;have f1:=HT2.out.fr 1;have f2:=HT2.out.fr 2;have f3:=HT2.out.fr 3;clear hp hm HC hY htok2;go_wp2_with fail;refine bodyPost_ret (TkB.res1 (g:=g2) rfl _ rfl (HT2.out.all (.int .i64 t'.kind) (.string Y) (.int .i64 t'.num) (.int .i64 t'.at_))) rfl ?_;refine ⟨t',by rw [HV.out],?_,?_,?_⟩
  ·rw [HU.out];intro y s e
   cases m with
   |out=>cases e
   |bad c p=>cases e
   |ok x s' =>
    injection e with e _;rw [<-e];exact (HTT.out s' (by cases x;rfl)).symm
  ·rw [HU.out,void_go];exact HP2.out.tk4 (g:=g2) (by omega) _ _ _ _
  ·exact (((HM2.out.put 0 g2 hg2w _).put 1 g2 hg2w _).put 2 g2 hg2w _).put 3 g2 hg2w _
 |false =>
  have hkk':(t.kind != k)=true:=by rw [hne,hkk];rfl
  have HKK:=h_ (beq_eq_false_iff_ne.1 hkk)
  have HU:Hid (m.go (kindR k)=m.go λ s=>wrongR s.ts):=by
   show _=_
   cases m with
   |out=>rfl
   |bad c p=>rfl
   |ok x s =>
    obtain ⟨r,hr⟩:=HTOK.out.2 s rfl;show kindR k s=wrongR s.ts;unfold kindR;rw [hr];show (if t.kind=k then _ else _)=_;rw [if_neg HKK.out]
  have HC:=h_ (sunfit_any w1 b K V D m HP1.out);clear hkk hne;go_wp2_with fail;refine HC.out.mono ?_;rintro e w2 ⟨rfl,hp,hm⟩;have HP2:=h_ hp;have HM2:=h_ ((Mv.of b HB1.out).trans hm);have HT2:=h_ (HT1.out.mv hm hg2b);clear hp hm HC;have HC2:=h_ (stake_any w2 b K V D _ HP2.out (λ s e=>absurd e (go_wrong m s ())));go_wp2_with fail;refine HC2.out.mono ?_;rintro e w3 ⟨t',rfl,_,hp,hm⟩
  obtain ⟨Y,hY⟩:∃Y,txV t'.text=.string Y:=⟨_,rfl⟩
  have HV:Hid (tkV t'=.agg #[.int .i64 t'.kind,.string Y,.int .i64 t'.num,.int .i64 t'.at_]):=by show _=_;unfold tkV;rw [hY]
  unfold tkV;rw [hY];rw [go_stays (λ s e=>absurd e (go_wrong m s ()))] at hp;have HT3:=h_ (HT2.out.mv hm hg2b);have HP3:=h_ hp;have HM3:=h_ (HM2.out.trans hm);have k0:=HT3.out.c0;have k1:=HT3.out.c1;have k2:=HT3.out.c2;have k3:=HT3.out.c3;have f0:=HT3.out.fr 0;have f1:=HT3.out.fr 1;have f2:=HT3.out.fr 2;have f3:=HT3.out.fr 3;clear hp hm HC2 hY;go_wp2_with fail;refine bodyPost_ret (TkB.res1 (g:=g2) rfl _ rfl (HT3.out.all (.int .i64 t'.kind) (.string Y) (.int .i64 t'.num) (.int .i64 t'.at_))) rfl ?_;refine ⟨t',by rw [HV.out],?_,?_,?_⟩
  ·rw [HU.out];exact λ y s e=>absurd e (go_wrong m s y)
  ·rw [HU.out,go_wrong_void];exact HP3.out.tk4 (g:=g2) (by omega) _ _ _ _
  ·exact (((HM3.out.put 0 g2 hg2w _).put 1 g2 hg2w _).put 2 g2 hg2w _).put 3 g2 hg2w _
theorem kind_name (s:Ss):nameR s=(kindR 1 s).bind λ t s=>.ok (t.text,t.at_) s:=by
 unfold nameR kindR
 cases s.ts with
 |nil=>rfl
 |cons t r =>
  simp only
  split
  ·rfl
  ·rw [wrongR_cons,wrongR_cons];split <;> rfl
theorem bind_void {α β:Type} (e:Rs α) (f:α->β):(e.bind λ x s=>.ok (f x) s).void=e.void:=by cases e <;> rfl
theorem bind_is {α β:Type} {e:Rs α} {x:α} (h:e.is x) (f:α->β):(e.bind λ x s=>.ok (f x) s).is (f x):=λ y s e'=>by
 cases e with
 |out=>cases e'
 |bad c p=>cases e'
 |ok z r =>
  injection e' with e' _;rw [<-e',h z r rfl]
theorem go_bind {α β:Type} (m:Rs Unit) (g:Ss->Rs α) (f:α->Ss->Rs β):(m.go λ s=>(g s).bind f)=(m.go g).bind f:=by cases m <;> rfl
theorem sname_any (w:World) (b:Nat) (K:Kx) (V D:Int) (m:Rs Unit) (h:PS w b K V D m) :
  Calls Tryz.prog 169 #[.pointer (some ⟨b,0,none⟩)] w λ e w'=>∃t,e=.returned (tkV t)/\(m.go nameR).is (t.text,t.at_)/\PS w' b K V D (m.go nameR).void/\Mv b w w':=by
 obtain ⟨g2,hg2⟩:∃g,g=w.heap.size:=⟨_,rfl⟩
 obtain ⟨W0,hW0⟩:∃W0,W0=w.alloc (.cells #[.int .i64 0,.string ⟨#[]⟩,.int .i64 0,.int .i64 0] 131):=⟨_,rfl⟩
 have HT:Hid (TkB W0 g2 (.int .i64 0) (.string ⟨#[]⟩) (.int .i64 0) (.int .i64 0)):=by rw [hW0,hg2];exact TkB.new _ _ _ _ _
 have HB0:Hid (Below w.heap.size w W0):=by rw [hW0];exact (b_ _ w).alloc (n_ _) _
 have hbw:=h.blt
 have hg2w:w.heap.size<=g2:=by omega
 have hg2b:g2≠b:=by omega
 have HC:=h_ (skind_any W0 b K V D m (h.below HB0.out) 1 (by decide));clear h;go_enter Tryz.func169,Tryz.ntmps169;go_upto_region 1 with fail;rw [<-hW0,<-hg2];clear hW0 hg2;go_wp2_with fail;refine HC.out.mono ?_;rintro e w3 ⟨t',rfl,his,hp,hm⟩
 obtain ⟨Y,hY⟩:∃Y,txV t'.text=.string Y:=⟨_,rfl⟩
 have HV:Hid (tkV t'=.agg #[.int .i64 t'.kind,.string Y,.int .i64 t'.num,.int .i64 t'.at_]):=by show _=_;unfold tkV;rw [hY]
 unfold tkV;rw [hY];have HT3:=h_ (HT.out.mv hm hg2b);have HP3:=h_ hp;have HM3:=h_ ((Mv.of b HB0.out).trans hm);have HIS:=h_ his;have k0:=HT3.out.c0;have k1:=HT3.out.c1;have k2:=HT3.out.c2;have k3:=HT3.out.c3;have f0:=HT3.out.fr 0;have f1:=HT3.out.fr 1;have f2:=HT3.out.fr 2;have f3:=HT3.out.fr 3;clear hp hm HC hY his;go_wp2_with fail;refine bodyPost_ret (TkB.res1 (g:=g2) rfl _ rfl (HT3.out.all (.int .i64 t'.kind) (.string Y) (.int .i64 t'.num) (.int .i64 t'.at_))) rfl ?_
 have hU:m.go nameR=(m.go (kindR 1)).bind λ t s=>.ok (t.text,t.at_) s:=by
  rw [<-go_bind]
  congr 1
  funext s
  exact kind_name s
 refine ⟨t',by rw [HV.out],?_,?_,?_⟩
 ·rw [hU];exact bind_is HIS.out (λ t:Tk=>(t.text,t.at_))
 ·rw [hU,bind_void];exact HP3.out.tk4 (g:=g2) (by omega) _ _ _ _
 ·exact (((HM3.out.put 0 g2 hg2w _).put 1 g2 hg2w _).put 2 g2 hg2w _).put 3 g2 hg2w _
theorem seach_any (w:World) (b g n kf:Nat) (caps:Array Value) (hE:∀args w,(callFunc kf args).run Tryz.prog w=.ok (.enter kf args) w) (I:World->Prop) (J:Bool->World->Prop) (ms:World->Nat)
  (hB:∀w,I w->Calls Tryz.prog 167 #[.pointer (some ⟨b,0,none⟩),.slice (some ⟨g,0,none⟩) n n] w λ e w'=>∃d,e=.returned (.bool d)/\J d w'/\ms w'<=ms w)
  (hR:∀w,J true w->Calls Tryz.prog kf caps w λ e w'=>e=.returned (.tuple #[])/\I w'/\ms w' < ms w) (h0:I w) :
  Calls Tryz.prog 112 #[.pointer (some ⟨b,0,none⟩),.func (.func kf) #[] caps,.slice (some ⟨g,0,none⟩) n n] w λ e w'=>e=.returned (.tuple #[])/\J false w':=by
 have HB:=h_ hB;have HR:=h_ hR;have H0:=h_ h0;clear hB hR h0;go_enter Tryz.func112,Tryz.ntmps112;go_wp2_with fail
 go_loopw [] (λ wr=>Hid (I wr)) (λ wr=>ms wr)
 case atStart=>exact H0
 case round =>
  have HI:=hrel;have HC:=h_ (HB.out wr HI.out);clear hrel;go_wp2_with fail;refine HC.out.mono ?_;rintro e w1 ⟨d,rfl,hj,hm⟩;have HJ:=h_ hj;have HM:=h_ hm;clear hj hm HC
  cases d with
  |false =>
   go_wp2_with fail;go_end0;exact ⟨rfl,HJ.out⟩
  |true =>
   have HC2:=h_ (HR.out w1 HJ.out);go_wp2_with fail;refine HC2.out.mono ?_;rintro e w2 ⟨rfl,hi,hm⟩;have HI2:=h_ hi;have HM2:=h_ hm;clear hi hm HC2;go_wp2_with fail
   go_roundw
   case rel=>exact HI2
   case measure =>
    have:=HM.out;have:=HM2.out;omega
theorem senclosed_any (w:World) (b kf:Nat) (caps:Array Value) (hE:∀args w,(callFunc kf args).run Tryz.prog w=.ok (.enter kf args) w) (I1 I2 I3:World->Prop)
  (h1:Calls Tryz.prog 108 #[.pointer (some ⟨b,0,none⟩),.string ⟨#[123]⟩] w λ e w'=>e=.returned (.tuple #[])/\I1 w')
  (h2:∀w,I1 w->Calls Tryz.prog kf caps w λ e w'=>e=.returned (.tuple #[])/\I2 w')
  (h3:∀w,I2 w->Calls Tryz.prog 108 #[.pointer (some ⟨b,0,none⟩),.string ⟨#[125]⟩] w λ e w'=>e=.returned (.tuple #[])/\I3 w') :
  Calls Tryz.prog 110 #[.pointer (some ⟨b,0,none⟩),.func (.func kf) #[] caps] w λ e w'=>e=.returned (.tuple #[])/\I3 w':=by
 have H1:=h_ h1;have H2:=h_ h2;have H3:=h_ h3;clear h1 h2 h3;go_enter Tryz.func110,Tryz.ntmps110;go_wp2_with fail;refine H1.out.mono ?_;rintro e w1 ⟨rfl,hi⟩;have HC:=h_ (H2.out w1 hi);clear hi H1 H2;go_wp2_with fail;refine HC.out.mono ?_;rintro e w2 ⟨rfl,hi⟩;have HC3:=h_ (H3.out w2 hi);clear hi HC H3;go_wp2_with fail;refine HC3.out.mono ?_;rintro e w3 ⟨rfl,hi⟩;have HI:=h_ hi;clear hi HC3;go_wp2_with fail;go_end0;exact ⟨rfl,HI.out⟩
def Pv.put (r:Pv) (j:Nat) (z:Int):Pv:=match j with
 |4=>{ r with V:=z }
 |5=>{ r with N:=z }
 |6=>{ r with M:=z }
 |_=>{ r with C:=z }
def Pv.get (r:Pv) (j:Nat):Int:=match j with
 |4=>r.V
 |5=>r.N
 |6=>r.M
 |_=>r.C
theorem PvB.cj {w:World} {b:Nat} {K:Kx} {r:Pv} (h:PvB w b K r) {j:Nat} (hj:j=4∨j=5∨j=6∨j=7):w.cell? ⟨b,j,none⟩=some (.int .i64 (r.get j)):=by
 rcases hj with rfl|rfl|rfl|rfl
 ·exact h.c4
 ·exact h.c5
 ·exact h.c6
 ·exact h.c7
theorem PvB.put {w:World} {b:Nat} {K:Kx} {r:Pv} (h:PvB w b K r) {j:Nat} (hj:j=4∨j=5∨j=6∨j=7) (z:Int):PvB (w.setCell ⟨b,j,none⟩ (.int .i64 z)) b K (r.put j z):=by
 rcases hj with rfl|rfl|rfl|rfl <;> exact CB.set h _ _
def Pv.over (r:Pv) (p:Int):Pv:=if r.code=0 then { r with code:=2,pos:=p } else r
theorem scount_raw (w:World) (b:Nat) (K:Kx) (r:Pv) (j:Nat) (hj:j=4∨j=5∨j=6∨j=7) (most:Int) (t:Tk) (h:PvB w b K r) :
  Calls Tryz.prog 170 #[.pointer (some ⟨b,0,none⟩),.pointer (some ⟨b,j,none⟩),.int .i64 most,tkV t] w λ e w'=>e=.returned (.tuple #[]) /\
   PvB w' b K (if decide (IntKind.i64.wrap (r.get j+1) > most)=true then (r.put j (IntKind.i64.wrap (r.get j+1))).over t.at_ else r.put j (IntKind.i64.wrap (r.get j+1)))/\Mv b w w':=by
 obtain ⟨X,hX⟩:∃X,txV t.text=.string X:=⟨_,rfl⟩
 have HV:Hid (tkV t=.agg #[.int .i64 t.kind,.string X,.int .i64 t.num,.int .i64 t.at_]):=by show _=_;unfold tkV;rw [hX]
 rw [HV.out]
 obtain ⟨g1,hg1⟩:∃g1,g1=w.heap.size:=⟨_,rfl⟩
 obtain ⟨W0,hW0⟩:∃W0,W0=w.alloc (.cells #[.int .i64 t.kind,.string X,.int .i64 t.num,.int .i64 t.at_] 131):=⟨_,rfl⟩
 have HT:Hid (TkB W0 g1 (.int .i64 t.kind) (.string X) (.int .i64 t.num) (.int .i64 t.at_)):=by rw [hW0,hg1];exact TkB.new _ _ _ _ _
 have HB0:Hid (Below w.heap.size w W0):=by rw [hW0];exact (b_ _ w).alloc (n_ _) _
 have hg1b:g1≠b:=by have:=h.lt;omega
 have HP0:=h_ (h.below HB0.out)
 obtain ⟨z,hz⟩:∃z,r.get j=z:=⟨_,rfl⟩
 obtain ⟨z',hz'⟩:∃z',IntKind.i64.wrap (z+1)=z':=⟨_,rfl⟩
 have rj:=HP0.out.cj hj;have fj:=HP0.out.fr j;rw [hz] at rj;rw [hz,hz']
 obtain ⟨W1,hW1⟩:∃W1,W1=W0.setCell ⟨b,j,none⟩ (.int .i64 z'):=⟨_,rfl⟩
 have HP1:Hid (PvB W1 b K (r.put j z')):=by rw [hW1];exact HP0.out.put hj z'
 have HM1:Hid (Mv b w W1):=by rw [hW1];exact (Mv.of b HB0.out).set j _
 have HT1:Hid (TkB W1 g1 (.int .i64 t.kind) (.string X) (.int .i64 t.num) (.int .i64 t.at_)):=by rw [hW1];exact HT.out.mv ((Mv.refl b W0).set j _) hg1b
 have rj1:W1.cell? ⟨b,j,none⟩=some (.int .i64 z'):=by
  have:=HP1.out.cj hj;rw [this]
  rcases hj with rfl|rfl|rfl|rfl <;> rfl
 have HF:=h_ (λ k=>sfail_raw (W1.drewN k) b K (r.put j z') 2 t (HP1.out.below (drewN_below W1 k)));rw [HV.out] at HF;have HW1:=h_ hW1;clear h hX hj hz hW1
 cases hd:decide (z' > most) with
 |false =>
  rw [if_neg (by decide)];go_enter Tryz.func170,Tryz.ntmps170;go_upto_region 1 with fail;rw [<-hW0,<-hg1];clear hW0 hg1;go_upto_region 2 with fail;rw [<-HW1.out];clear HW1 hz' rj fj;go_wp2_with fail;go_end0;exact ⟨rfl,HP1.out,HM1.out⟩
 |true =>
  rw [if_pos rfl];go_enter Tryz.func170,Tryz.ntmps170;go_upto_region 1 with fail;rw [<-hW0,<-hg1];clear hW0 hg1;go_upto_region 2 with fail;rw [<-HW1.out];clear HW1 hz' rj fj;have z0:=HT1.out.c0;have z1:=HT1.out.c1;have z2:=HT1.out.c2;have z3:=HT1.out.c3;go_upto_region 3 with fail
  go_region_with (go_at_call 171;refine (HF.out _).mono ?_;rintro e w2 ⟨rfl,hp2,hm2⟩)
  all_goals
   go_wp2_with fail;go_end0;refine ⟨rfl,?_,HM1.out.trans ((Mv.of b (drewN_below W1 _)).trans hm2)⟩;exact hp2
theorem scount_N (w:World) (b:Nat) (K:Kx) (V D:Int) (m:Rs Unit) (t:Tk) (h:PS w b K V D m) :
  Calls Tryz.prog 170 #[.pointer (some ⟨b,0,none⟩),.pointer (some ⟨b,5,none⟩),.int .i64 64,tkV t] w λ e w'=>e=.returned (.tuple #[])/\PS w' b K V D (m.go (cntN t.at_))/\Mv b w w':=by
 obtain ⟨r,h1,h2,h3,h4,h5⟩:=h.out;refine (scount_raw w b K r 5 (.inr (.inl rfl)) 64 t h1).mono ?_;rintro e w' ⟨rfl,hp,hm⟩;refine ⟨rfl,?_,hm⟩
 cases m with
 |out=>exact absurd h5 (by intro h;exact h)
 |bad c p =>
  obtain ⟨a1,a2,a3⟩:=h5
  split at hp
  ·refine h.turn hm hp ?_ ?_ ?_ ?_
   all_goals unfold Pv.over Pv.put;simp only;rw [if_neg (by rw [a1];exact a3)]
   ·exact h2
   ·exact h3
   ·exact h4
   ·exact ⟨a1,a2,a3⟩
  ·exact h.turn hm hp h2 h3 h4 ⟨a1,a2,a3⟩
 |ok x s =>
  obtain ⟨a1,a2,a3,a4,a5,a6,a7⟩:=h5
  have e1:IntKind.i64.wrap (r.get 5+1)=(s.n:Int)+1:=by
   show IntKind.i64.wrap (r.N+1)=_;rw [a4];exact IntWalk.i64_in _ (by have:=a7.1;constructor <;> omega)
  rw [e1] at hp;show PS w' b K V D (cntN t.at_ s);unfold cntN
  split at hp
  ·rename_i hgt;have hgt':(s.n:Int)+1 > 64:=of_decide_eq_true hgt;rw [if_pos (by omega)];refine h.turn hm hp ?_ ?_ ?_ ?_
   all_goals unfold Pv.over Pv.put;simp only;rw [if_pos a1]
   ·exact h2
   ·exact h3
   ·exact h4
   ·exact ⟨rfl,rfl,by decide⟩
  ·rename_i hgt;have hgt':¬(s.n:Int)+1 > 64:=λ h=>hgt (decide_eq_true h);rw [if_neg (by omega)];exact h.turn hm hp h2 h3 h4 ⟨a1,a2,a3,by show (s.n:Int)+1=((s.n+1:Nat):Int);omega,a5,a6,by have:=a7;exact ⟨by show s.n+1<=64;omega,this.2⟩⟩
theorem scount_M (w:World) (b:Nat) (K:Kx) (V D:Int) (m:Rs Unit) (t:Tk) (h:PS w b K V D m) :
  Calls Tryz.prog 170 #[.pointer (some ⟨b,0,none⟩),.pointer (some ⟨b,6,none⟩),.int .i64 200,tkV t] w λ e w'=>e=.returned (.tuple #[])/\PS w' b K V D (m.go (cntM t.at_))/\Mv b w w':=by
 obtain ⟨r,h1,h2,h3,h4,h5⟩:=h.out;refine (scount_raw w b K r 6 (.inr (.inr (.inl rfl))) 200 t h1).mono ?_;rintro e w' ⟨rfl,hp,hm⟩;refine ⟨rfl,?_,hm⟩
 cases m with
 |out=>exact absurd h5 (by intro h;exact h)
 |bad c p =>
  obtain ⟨a1,a2,a3⟩:=h5
  split at hp
  ·refine h.turn hm hp ?_ ?_ ?_ ?_
   all_goals unfold Pv.over Pv.put;simp only;rw [if_neg (by rw [a1];exact a3)]
   ·exact h2
   ·exact h3
   ·exact h4
   ·exact ⟨a1,a2,a3⟩
  ·exact h.turn hm hp h2 h3 h4 ⟨a1,a2,a3⟩
 |ok x s =>
  obtain ⟨a1,a2,a3,a4,a5,a6,a7⟩:=h5
  have e1:IntKind.i64.wrap (r.get 6+1)=(s.m:Int)+1:=by
   show IntKind.i64.wrap (r.M+1)=_;rw [a5];exact IntWalk.i64_in _ (by have:=a7.2.1;constructor <;> omega)
  rw [e1] at hp;show PS w' b K V D (cntM t.at_ s);unfold cntM
  split at hp
  ·rename_i hgt;have hgt':(s.m:Int)+1 > 200:=of_decide_eq_true hgt;rw [if_pos (by omega)];refine h.turn hm hp ?_ ?_ ?_ ?_
   all_goals unfold Pv.over Pv.put;simp only;rw [if_pos a1]
   ·exact h2
   ·exact h3
   ·exact h4
   ·exact ⟨rfl,rfl,by decide⟩
  ·rename_i hgt;have hgt':¬(s.m:Int)+1 > 200:=λ h=>hgt (decide_eq_true h);rw [if_neg (by omega)];exact h.turn hm hp h2 h3 h4 ⟨a1,a2,a3,a4,by show (s.m:Int)+1=((s.m+1:Nat):Int);omega,a6,by have:=a7;exact ⟨this.1,by show s.m+1<=200;omega,this.2.2⟩⟩
structure Vars (w:World):Prop where
 kw:KwAt w
 er:ErrAt w
theorem Vars.below {w w':World} (h:Vars w) (hb:Below w.heap.size w w'):Vars w':=⟨h.kw.below hb,errAt_below h.er hb⟩
theorem TkRow.reads {w:World} {B:Nat} {A:Option Addr} {n c:Nat} {xs:List Tk} (h:TkRow w B (.slice A n c) xs):TkSrc w A n xs:=by
 obtain ⟨A',c',e,_,_,_,hs⟩:=h.src;simp only [Value.slice.injEq] at e;obtain ⟨rfl,rfl,rfl⟩:=e;exact hs
theorem tokens_vars (w:World) (s:ByteArray) (h:Vars w) (R:List Tk×Int×Int) (hR:scF s.data.toList=R) :
  Calls Tryz.prog 59 #[.string s] w λ e w'=>∃A c,e=.returned (.tuple #[.slice A R.1.length c,.agg #[.int .i64 R.2.1,.int .i64 R.2.2]])/\(A=none->c=0)/\R.1.length<=c/\c<=maxLen/\TkRow w' w.heap.size (.slice A R.1.length c) R.1/\Below w.heap.size w w':=by
 have:=tokens_any w s h.kw h.er;rw [hR] at this;refine this.mono ?_;rintro e w' ⟨v,rfl,hr,hb⟩;obtain ⟨A,c,rfl,h1,h2,h3,_⟩:=hr.src;exact ⟨A,c,rfl,h3,h1,h2,hr,hb⟩
theorem scA_len:∀(f p:Nat) (acc:List Tk) (l:List UInt8),acc.length<=p->(scA f p acc l).1.length<=p+l.length+1
 |0,_,_,_,_=>Nat.zero_le _
 |f+1,p,acc,l,h=>by
  have hb:=blK_le false l;rw [scA]
  split
  ·simp only [List.length_append,List.length_singleton];omega
  ·rename_i h0
   split
   ·rename_i h1;have hp:=tkS_pos2 h0 h1;have hs:=tkS_le (l.drop (blK false l));rw [List.length_drop] at hs;refine Nat.le_trans (scA_len f _ _ _ (by rw [List.length_append,List.length_singleton];omega)) ?_;rw [List.length_drop,List.length_drop];omega
   ·exact Nat.zero_le _
theorem scF_len (l:List UInt8):(scF l).1.length<=16385:=by
 unfold scF
 split
 ·exact Nat.zero_le _
 ·refine Nat.le_trans (scA_len _ 0 [] l (n_ _)) ?_;omega
theorem scF_ends {l:List UInt8} (h0:(scF l).2.1=0):TkEnds (scF l).1:=by
 have hl:¬16384<l.length:=by
  intro h;unfold scF at h0;rw [if_pos h] at h0;exact absurd h0 (by decide)
 have e1:scF l=scA (l.length+1) 0 [] l:=by unfold scF;rw [if_neg hl]
 rw [e1] at h0;obtain ⟨Y,h1,_⟩:=sc_next [41] (l.length+1) 0 [] l (by omega) h0;rw [<-e1] at h1;have h2:(scF l).1=[]++Y++[⟨5,[],0,((0+l.length:Nat):Int)⟩]:=congrArg Prod.fst h1;exact ⟨[]++Y,_,h2,rfl,scF_kinds l h2⟩
theorem ends_at {xs:List Tk} (h:TkEnds xs):(∀i t,xs[i]?=some t->(t.kind=5 ↔ i+1=xs.length))/\0<xs.length:=by
 obtain ⟨Y,e,rfl,he,hY⟩:=h;refine ⟨λ i t ht=>?_,by simp⟩;rw [List.length_append,List.length_singleton];rcases Nat.lt_or_ge i Y.length with hi|hi
 ·rw [List.getElem?_append_left hi] at ht;exact ⟨λ h=>absurd h (hY t (List.mem_of_getElem? ht)),λ h=>by omega⟩
 ·rw [List.getElem?_append_right hi] at ht;have hlt:i-Y.length < [e].length:=(List.getElem?_eq_some_iff.1 ht).1;simp only [List.length_singleton] at hlt
  have hz:i-Y.length=0:=by omega
  rw [hz] at ht
  have:e=t:=by simpa using ht
  subst this;exact ⟨λ _=>by omega,λ _=>he⟩
end Go.Proofs.YtocecpghoncmgaaGreatDoor
