import Derived.Test.YtpgeidpfhakgaaaGreatDoorQh
import Derived.Test.YtpgeidpfhakgaaaGreatDoorQXE
import Derived.Test.YtpgeidpfhakgaaaGreatDoorQXA
import Derived.Deep.RegionHeld3
import Derived.Below
import Derived.Laws.StructEq
import Derived.Deep.QuietTactic
import Derived.BigQuiet
import Derived.Deep.WholeRow
import Derived.Laws.Tables
import Derived.RegionTactic
set_option maxHeartbeats 12800000
set_option maxRecDepth 20000
namespace Go.Proofs.YtpgeidpfhakgaaaGreatDoor
open Go.RowKit
mutual
def GW (w:World) (lo hi:Nat):GX->EV->Prop
 |.mk k n s o l p,v=>(v.kind=k/\v.num=n/\v.name.data.toList=s/\v.op=o/\v.p=p/\v.len=l.length/\v.len<=v.cap/\v.cap<=maxLen) /\
  (l=[]∨∃g cs,v.A=some ⟨g,0,none⟩/\lo<=g/\g<hi/\w.heap[g]?=some (.cells cs 40 (0,0))/\GWs w g lo g l 0)
def GWs (w:World) (g a b:Nat):List GX->Nat->Prop
 |[],_=>a<=b
 |x::l,i=>∃m v,a<=m/\m<=b/\EvAt w g (0+i*6) v/\GW w a m x v/\GWs w g m b l (i+1)
end
mutual
theorem GW.same {w w':World}:∀{x:GX} {v:EV} {lo hi:Nat},(∀g,lo<=g->g<hi->w'.heap[g]?=w.heap[g]?)->GW w lo hi x v->GW w' lo hi x v
 |.mk _ _ _ _ l _,_,lo,hi,hs,h=>by
  unfold GW at h ⊢;refine ⟨h.1,?_⟩;rcases h.2 with h2|⟨g,cs,h2,h3,h4,h5,h6⟩
  ·exact .inl h2
  ·exact .inr ⟨g,cs,h2,h3,h4,(hs g h3 h4).trans h5,GWs.same (hs g h3 h4) (λ i h7 h8=>hs i h7 (by omega)) h6⟩
theorem GWs.same {w w':World} {g:Nat} (hg:w'.heap[g]?=w.heap[g]?):∀{l:List GX} {a b i:Nat},(∀j,a<=j->j<b->w'.heap[j]?=w.heap[j]?)->GWs w g a b l i->GWs w' g a b l i
 |[],_,_,_,_,h=>by unfold GWs at h ⊢;exact h
 |x::l,a,b,i,hs,h=>by
  unfold GWs at h ⊢;obtain ⟨m,v,h1,h2,h3,h4,h5⟩:=h;exact ⟨m,v,h1,h2,h3.same hg,GW.same (λ j h6 h7=>hs j h6 (by omega)) h4,GWs.same hg (λ j h6 h7=>hs j (by omega) h7) h5⟩
end
mutual
theorem GW.gv {w:World}:∀{x:GX} {v:EV} {lo hi:Nat},GW w lo hi x v->GV w lo hi x v
 |.mk _ _ _ _ l _,v,lo,hi,h=>by
  unfold GW at h;unfold GV;obtain ⟨⟨a1,a2,a3,a4,a5,a6,a7,a8⟩,h2⟩:=h;refine ⟨a1,a2,a3,a4,a5,a6,a7,a8,?_⟩;rcases h2 with rfl|⟨g,cs,h2,h3,h4,_,h6⟩
  ·unfold GRow;trivial
  ·rw [h2];exact GWs.grow h3 h4 (n_ _) (Nat.le_of_lt h4) h6
theorem GWs.grow {w:World} {g lo hi:Nat} (h1:lo<=g) (h2:g<hi):∀{l:List GX} {a b i:Nat},lo<=a->b<=hi->GWs w g a b l i->GRow w lo hi l (some ⟨g,0,none⟩) i
 |[],_,_,_,_,_,_=>by unfold GRow;trivial
 |x::l,a,b,i,ha,hb,h=>by
  unfold GWs at h;unfold GRow;obtain ⟨m,v,h3,h4,h5,h6,h7⟩:=h;exact ⟨⟨g,0,v,rfl,h1,h2,h5,GV.mono ha (by omega) (GW.gv h6)⟩,GWs.grow h1 h2 (by omega) hb h7⟩
end
theorem GWs.front {w:World} {g:Nat}:∀{l:List GX} {a a' b i:Nat},a'<=a->(∀{x:GX} {v:EV} {lo lo' hi:Nat},x∈l->lo'<=lo->GW w lo hi x v->GW w lo' hi x v)->GWs w g a b l i->GWs w g a' b l i
 |[],_,_,_,_,h1,_,h=>by unfold GWs at h ⊢;omega
 |x::l,a,a',b,i,h1,hx,h=>by
  unfold GWs at h ⊢;obtain ⟨m,v,h3,h4,h5,h6,h7⟩:=h;exact ⟨m,v,by omega,h4,h5,hx (by simp) h1 h6,h7⟩
theorem GW.monoN {w:World}:∀(n:Nat) {x:GX} {v:EV} {lo hi lo' hi':Nat},SizeOf.sizeOf x<=n->lo'<=lo->hi<=hi'->GW w lo hi x v->GW w lo' hi' x v
 |0,.mk _ _ _ _ _ _,_,_,_,_,_,hn,_,_,_=>by simp only [GX.mk.sizeOf_spec] at hn;omega
 |n+1,.mk _ _ _ _ l _,v,lo,hi,lo',hi',hn,h1,h2,h=>by
  unfold GW at h ⊢;refine ⟨h.1,?_⟩;rcases h.2 with h3|⟨g,cs,h3,h4,h5,h6,h7⟩
  ·exact .inl h3
  ·refine .inr ⟨g,cs,h3,by omega,by omega,h6,GWs.front h1 (λ {y} {u} {a} {a'} {b} hy ha hw=>GW.monoN n (by
    have:=List.sizeOf_lt_of_mem hy;simp only [GX.mk.sizeOf_spec] at hn
    omega) ha (n_ b) hw) h7⟩
theorem GW.mono {w:World} {lo hi lo' hi':Nat} (h1:lo'<=lo) (h2:hi<=hi') {x:GX} {v:EV} (h:GW w lo hi x v):GW w lo' hi' x v:=GW.monoN _ (n_ _) h1 h2 h
theorem GW.below {w w':World} {lo hi:Nat} {x:GX} {v:EV} (h:GW w lo hi x v) (hb:Below w.heap.size w w') (hh:hi<=w.heap.size):GW w' lo hi x v:=h.same (λ g _ h2=>hb.block g (by omega))
theorem GW.mv {w w':World} {lo b:Nat} {x:GX} {v:EV} (h:GW w lo w.heap.size x v) (hm:Mv b w w') (hb:b<lo):GW w' lo w'.heap.size x v :=
 (h.same (λ g h1 h2=>hm.block h2 (by omega))).mono (n_ _) (World.grownBy.size hm)
theorem GW.leaf (w:World) (lo hi:Nat) (k n o p:Int) (S:ByteArray):GW w lo hi (.mk k n S.data.toList o [] p) ⟨k,n,S,o,none,0,0,p⟩:=by
 unfold GW;exact ⟨⟨rfl,rfl,rfl,rfl,rfl,rfl,n_ _,Nat.zero_le _⟩,.inl rfl⟩
theorem GW.one_new {w:World} {lo:Nat} {x:GX} {v:EV} (h:GW w lo w.heap.size x v) (hlo:lo<=w.heap.size) (op p:Int) :
  GW (w.alloc (.cells #[.int .i64 v.kind,.int .i64 v.num,.string v.name,.int .i64 v.op,.slice v.A v.len v.cap,.int .i64 v.p] 40)) lo (w.heap.size+1) (.mk 4 0 [] op [x] p) ⟨4,0,⟨#[]⟩,op,some ⟨w.heap.size,0,none⟩,1,1,p⟩:=by
 unfold GW;refine ⟨⟨rfl,rfl,rfl,rfl,rfl,rfl,n_ _,(by decide:1<=maxLen)⟩,.inr ⟨w.heap.size,_,rfl,hlo,by omega,heap_alloc_new w _,?_⟩⟩;unfold GWs GWs;exact ⟨w.heap.size,v,hlo,n_ _,EvAt.of (heap_alloc_new w _) (λ j u hu=>by simpa [EV.cells] using hu),h.same (λ _ _ h2=>heap_alloc_old w _ h2),n_ _⟩
theorem GW.both_of {W:World} {lo m hi g:Nat} {x y:GX} {v u:EV} (hx:GW W lo m x v) (hy:GW W m g y u) (h1:lo<=m) (h2:m<=g) (h3:g<hi) {cs:Array Value} (hg:W.heap[g]?=some (.cells cs 40 (0,0))) (e1:EvAt W g 0 v) (e2:EvAt W g 6 u) (op p:Int) :
  GW W lo hi (.mk 5 0 [] op [x,y] p) ⟨5,0,⟨#[]⟩,op,some ⟨g,0,none⟩,2,2,p⟩:=by
 unfold GW;refine ⟨⟨rfl,rfl,rfl,rfl,rfl,rfl,n_ _,(by decide:2<=maxLen)⟩,.inr ⟨g,cs,rfl,by omega,h3,hg,?_⟩⟩;unfold GWs GWs GWs;exact ⟨m,v,h1,h2,e1,hx,g,u,h2,n_ _,e2,hy,n_ _⟩
end Go.Proofs.YtpgeidpfhakgaaaGreatDoor
namespace Go.Proofs.YtpgeidpfhakgaaaGreatDoor
open Go.RowKit
structure Spt where
 kind:Int
 name:List UInt8
 par:Int
 dep:Int
 fin:Int
structure Seg (L:List Spt) (p d:Int) (a:Nat):Prop where
 one:∀(j:Nat) (s:Spt),L[j]?=some s->((a+j:Nat):Int)<s.fin/\s.fin<=((a+L.length:Nat):Int)/\((s.par=p/\s.dep=d)∨∃q t,q<j/\L[q]?=some t/\s.par=((a+q:Nat):Int)/\((a+j:Nat):Int)<t.fin/\s.fin<=t.fin/\s.dep=t.dep+1)
 mid:∀(q j:Nat) (s t:Spt),q<j->L[j]?=some s->L[q]?=some t->((a+j:Nat):Int)<t.fin->∃r,q<=r/\s.par=((a+r:Nat):Int)
theorem Seg.nil (p d:Int) (a:Nat):Seg [] p d a:=⟨λ _ _ h=>by simp at h,λ _ _ _ _ _ h=>by simp at h⟩
theorem Seg.app {L M:List Spt} {p d:Int} {a:Nat} (h:Seg L p d a) (h':Seg M p d (a+L.length)):Seg (L++M) p d a:=by
 refine ⟨λ j s hs=>?_,λ q j s t hq hs ht hf=>?_⟩
 ·by_cases hj:j<L.length
  ·rw [List.getElem?_append_left hj] at hs;obtain ⟨h1,h2,h3⟩:=h.one j s hs;refine ⟨h1,by rw [List.length_append];omega,?_⟩;rcases h3 with h3|⟨q,t,k1,k2,k3⟩
   ·exact .inl h3
   ·exact .inr ⟨q,t,k1,by rw [List.getElem?_append_left (by omega)];exact k2,k3⟩
  ·rw [List.getElem?_append_right (by omega)] at hs;obtain ⟨h1,h2,h3⟩:=h'.one _ s hs;refine ⟨by omega,by rw [List.length_append];omega,?_⟩;rcases h3 with h3|⟨q,t,k1,k2,k3,k4,k5⟩
   ·exact .inl h3
   ·refine .inr ⟨L.length+q,t,by omega,by rw [List.getElem?_append_right (by omega),show L.length+q-L.length=q from by omega];exact k2,by rw [k3];omega,by omega,k5⟩
 ·by_cases hj:j<L.length
  ·rw [List.getElem?_append_left hj] at hs;rw [List.getElem?_append_left (by omega)] at ht;exact h.mid q j s t hq hs ht hf
  ·rw [List.getElem?_append_right (by omega)] at hs
   by_cases hq':q<L.length
   ·rw [List.getElem?_append_left hq'] at ht;have:=(h.one q t ht).2.1;omega
   ·rw [List.getElem?_append_right (by omega)] at ht;obtain ⟨r,k1,k2⟩:=h'.mid _ _ s t (by omega) hs ht (by omega);exact ⟨L.length+r,by omega,by rw [k2];omega⟩
theorem Seg.cons {L:List Spt} {p d:Int} {a:Nat} (k:Int) (nm:List UInt8) (h:Seg L a (d+1) (a+1)):Seg (⟨k,nm,p,d,(a:Int)+1+(L.length:Nat)⟩::L) p d a:=by
 refine ⟨λ j s hs=>?_,λ q j s t hq hs ht hf=>?_⟩
 ·cases j with
  |zero =>
   simp only [z_,j_] at hs;subst hs;refine ⟨by simp only;omega,by simp only [List.length_cons];omega,.inl ⟨rfl,rfl⟩⟩
  |succ j =>
   rw [s_] at hs;obtain ⟨h1,h2,h3⟩:=h.one j s hs;refine ⟨by omega,by rw [List.length_cons];omega,.inr ?_⟩;rcases h3 with ⟨h3,h4⟩|⟨q,t,k1,k2,k3,k4,k5⟩
   ·exact ⟨0,_,by omega,z_,by rw [h3];omega,by simp only;omega,by simp only;omega,h4⟩
   ·exact ⟨q+1,t,by omega,by rw [s_];exact k2,by rw [k3];omega,by omega,k5⟩
 ·obtain ⟨j,rfl⟩:∃i,j=i+1:=⟨j-1,by omega⟩
  rw [s_] at hs
  cases q with
  |zero =>
   rcases (h.one j s hs).2.2 with ⟨h3,_⟩|⟨q,t',k1,_,k3,_⟩
   ·exact ⟨0,n_ _,by rw [h3];omega⟩
   ·exact ⟨q+1,by omega,by rw [k3];omega⟩
  |succ q =>
   rw [s_] at ht;obtain ⟨r,k1,k2⟩:=h.mid q j s t (by omega) hs ht (by omega);exact ⟨r+1,by omega,by rw [k2];omega⟩
structure Fo (F:List Spt):Prop where
 pos:0<F.length
 root:∀s,F[0]?=some s->s.par=-1/\s.fin=((F.length:Nat):Int)
 dep0:∀s,F[0]?=some s->s.dep=0
 par:∀(i:Nat) (s:Spt),0<i->F[i]?=some s->∃(p:Nat) (t:Spt),s.par=(p:Int)/\p<i/\F[p]?=some t/\(i:Int)<t.fin/\s.fin<=t.fin/\s.dep=t.dep+1
 fin:∀(i:Nat) (s:Spt),F[i]?=some s->(i:Int)<s.fin/\s.fin<=((F.length:Nat):Int)
 mid:∀(b i:Nat) (s t:Spt),b<i->F[i]?=some s->F[b]?=some t->(i:Int)<t.fin->∃p:Nat,b<=p/\s.par=(p:Int)
theorem Fo.lam {F:List Spt} (h:Fo F):∀(i b:Nat) (s t:Spt),b<i->F[i]?=some s->F[b]?=some t->(i:Int)<t.fin->s.fin<=t.fin:=by
 intro i
 induction i using Nat.strongRecOn with
 |ind i ih =>
  intro b s t hb hs ht hf;obtain ⟨p,h1,h2⟩:=h.mid b i s t hb hs ht hf;obtain ⟨p',u,k1,k2,k3,k4,k5,_⟩:=h.par i s (by omega) hs
  have e:p'=p:=by omega
  subst e;rcases Nat.eq_or_lt_of_le h1 with e|hlt
  ·subst e;rw [ht] at k3;cases k3;exact k5
  ·have:=ih p' k2 b u t hlt k3 ht (by omega);omega
theorem Fo.dep {F:List Spt} (h:Fo F):∀(i:Nat) (s:Spt),F[i]?=some s->0<=s.dep/\s.dep<=(i:Int):=by
 intro i
 induction i using Nat.strongRecOn with
 |ind i ih =>
  intro s hs;rcases Nat.eq_zero_or_pos i with rfl|hi
  ·have:=h.dep0 s hs;omega
  ·obtain ⟨p,t,k1,k2,k3,_,_,k6⟩:=h.par i s hi hs;have:=ih p k2 t k3;omega
def spA (F:List Spt) (n:Int):Option Spt:=if 0<=n then F[n.toNat]? else none
def finF (F:List Spt) (n:Int):Int:=match spA F n with|some s=>s.fin|none=>0
def parF (F:List Spt) (n:Int):Int:=match spA F n with|some s=>if s.par<n then s.par else -1|none=>-1
def hasF (F:List Spt) (n:Int):Bool:=decide (0<=n)&&decide (n<(F.length:Nat))
def inW (F:List Spt) (a b:Int):Bool:=hasF F a&&hasF F b&&decide (b<a)&&decide (a<finF F b)
theorem spA_none {F:List Spt} {n:Int} (h:hasF F n=false):spA F n=none:=by
 unfold hasF at h;unfold spA
 by_cases h0:0<=n
 ·rw [if_pos h0];refine List.getElem?_eq_none ?_;simp [h0] at h;omega
 ·rw [if_neg h0]
theorem hasF_of {F:List Spt} {n:Int} (h:hasF F n=true):∃(k:Nat) (s:Spt),n=(k:Int)/\k<F.length/\F[k]?=some s/\spA F n=some s:=by
 unfold hasF at h;simp only [Bool.and_eq_true,decide_eq_true_eq] at h;obtain ⟨h1,h2⟩:=h
 obtain ⟨k,rfl⟩:∃k:Nat,n=(k:Int):=⟨n.toNat,by omega⟩
 have hk:k<F.length:=by omega
 refine ⟨k,F[k],rfl,hk,List.getElem?_eq_getElem hk,?_⟩;unfold spA;rw [if_pos h1,show ((k:Int)).toNat=k from by omega];exact List.getElem?_eq_getElem hk
theorem spA_nat {F:List Spt} (k:Nat):spA F (k:Int)=F[k]?:=by
 unfold spA;rw [if_pos (by omega),show ((k:Int)).toNat=k from by omega]
theorem hasF_nat {F:List Spt} {k:Nat} (h:k<F.length):hasF F (k:Int)=true:=by
 unfold hasF;simp only [Bool.and_eq_true,decide_eq_true_eq];omega
theorem parF_lt {F:List Spt} {n:Int} (h:0<=parF F n):parF F n<n/\hasF F n=true:=by
 unfold parF at *
 cases hs:spA F n with
 |none=>rw [hs] at h;simp at h
 |some s =>
  rw [hs] at h;simp only at h ⊢
  by_cases h1:s.par<n
  ·refine ⟨by rw [if_pos h1];exact h1,?_⟩
   cases hh:hasF F n with
   |true=>rfl
   |false=>rw [spA_none hh] at hs;cases hs
  ·rw [if_neg h1] at h;omega
theorem Fo.par_eq {F:List Spt} (h:Fo F) {i:Nat} {s:Spt} (hs:F[i]?=some s):parF F (i:Int)=s.par:=by
 unfold parF;rw [spA_nat,hs];simp only;rcases Nat.eq_zero_or_pos i with rfl|hi
 ·rw [(h.root s hs).1];rfl
 ·obtain ⟨p,t,k1,k2,_⟩:=h.par i s hi hs;rw [if_pos (by omega)]
theorem inW_iff {F:List Spt} {a b:Int}:inW F a b=true ↔ ∃(i j:Nat) (s t:Spt),a=(i:Int)/\b=(j:Int)/\F[i]?=some s/\F[j]?=some t/\j<i/\(i:Int)<t.fin:=by
 constructor
 ·intro h;unfold inW at h;simp only [Bool.and_eq_true,decide_eq_true_eq] at h;obtain ⟨⟨⟨h1,h2⟩,h3⟩,h4⟩:=h;obtain ⟨i,s,rfl,i1,i2,i3⟩:=hasF_of h1;obtain ⟨j,t,rfl,j1,j2,j3⟩:=hasF_of h2;unfold finF at h4;rw [j3] at h4;exact ⟨i,j,s,t,rfl,rfl,i2,j2,by omega,h4⟩
 ·rintro ⟨i,j,s,t,rfl,rfl,h1,h2,h3,h4⟩;unfold inW finF;rw [spA_nat,h2,hasF_nat (List.getElem?_eq_some_iff.1 h1).1,hasF_nat (List.getElem?_eq_some_iff.1 h2).1];simp only [Bool.true_and,Bool.and_eq_true,decide_eq_true_eq];exact ⟨by omega,h4⟩
theorem Fo.trans {F:List Spt} (h:Fo F) {a b d:Int} (h1:inW F a b=true) (h2:inW F b d=true):inW F a d=true:=by
 obtain ⟨i,j,s,t,rfl,rfl,a1,a2,a3,a4⟩:=inW_iff.1 h1;obtain ⟨j',k,t',u,e1,rfl,b1,b2,b3,b4⟩:=inW_iff.1 h2
 obtain rfl:j=j':=by omega
 have e:t'=t:=by rw [a2] at b1;exact (Option.some.inj b1).symm
 subst e;have:=h.lam j k t' u b3 a2 b2 b4;exact inW_iff.2 ⟨i,k,s,u,rfl,rfl,a1,b2,by omega,by omega⟩
def upL (F:List Spt):Nat->Int->List Int
 |0,_=>[]
 |f+1,n=>if parF F n<0 then [] else parF F n::upL F f (parF F n)
theorem upL_more {F:List Spt}:∀(f:Nat) (n:Int),n<(f:Int)->upL F (f+1) n=upL F f n:=by
 intro f
 induction f with
 |zero =>
  intro n hn;show (if parF F n<0 then [] else _)=[];rw [if_pos]
  by_cases hp:parF F n<0
  ·exact hp
  ·have:=(parF_lt (F:=F) (n:=n) (by omega)).1;omega
 |succ f ih =>
  intro n hn;rw [upL];show _=(if parF F n<0 then [] else parF F n::upL F f (parF F n))
  by_cases hp:parF F n<0
  ·rw [if_pos hp,if_pos hp]
  ·rw [if_neg hp,if_neg hp];have:=(parF_lt (F:=F) (n:=n) (by omega)).1;rw [ih _ (by omega)]
def upF (F:List Spt) (n:Int):List Int:=upL F F.length n
theorem upF_none {F:List Spt} {n:Int} (h:parF F n<0):upF F n=[]:=by
 unfold upF
 cases F.length with
 |zero=>rfl
 |succ f=>rw [upL,if_pos h]
theorem upF_some {F:List Spt} {n:Int} (h:0<=parF F n):upF F n=parF F n::upF F (parF F n):=by
 obtain ⟨h1,h2⟩:=parF_lt h;obtain ⟨k,s,rfl,k1,_⟩:=hasF_of h2;unfold upF;rw [<-upL_more F.length _ (by omega),upL,if_neg (by omega)]
theorem upF_len {F:List Spt}:∀(f:Nat) (n:Int),(upL F f n).length<=f
 |0,_=>n_ _
 |f+1,n=>by
  rw [upL]
  by_cases hp:parF F n<0
  ·rw [if_pos hp];exact Nat.zero_le _
  ·rw [if_neg hp,List.length_cons];have:=upF_len (F:=F) f (parF F n);omega
theorem Fo.up {F:List Spt} (h:Fo F):∀(i:Nat) (b:Int),i<F.length->(b∈upF F (i:Int) ↔ inW F (i:Int) b=true):=by
 intro i
 induction i using Nat.strongRecOn with
 |ind i ih =>
  intro b hi;have hs:=List.getElem?_eq_getElem hi;generalize F[i]=s at hs;have hp:=h.par_eq hs;rcases Nat.eq_zero_or_pos i with rfl|hi0
  ·rw [upF_none (by rw [hp,(h.root s hs).1];decide)];constructor
   ·intro hb;cases hb
   ·intro hb;obtain ⟨i',j,_,_,e1,_,_,_,h3,_⟩:=inW_iff.1 hb;omega
  ·obtain ⟨p,t,k1,k2,k3,k4,k5,_⟩:=h.par i s hi0 hs;rw [upF_some (by rw [hp];omega),hp,k1,List.mem_cons,ih p k2 b (by omega)];have hpi:inW F (i:Int) (p:Int)=true:=inW_iff.2 ⟨i,p,s,t,rfl,rfl,hs,k3,k2,k4⟩;constructor
   ·rintro (rfl|hb)
    ·exact hpi
    ·exact h.trans hpi hb
   ·intro hb;obtain ⟨i',j,s',u,e1,rfl,c1,c2,c3,c4⟩:=inW_iff.1 hb
    obtain rfl:i=i':=by omega
    have e:s'=s:=by rw [hs] at c1;exact (Option.some.inj c1).symm
    subst e;obtain ⟨r,d1,d2⟩:=h.mid j i s' u c3 hs c2 c4
    obtain rfl:r=p:=by omega
    rcases Nat.eq_or_lt_of_le d1 with rfl|hlt
    ·exact .inl rfl
    ·exact .inr (inW_iff.2 ⟨r,j,t,u,rfl,rfl,k3,c2,hlt,by omega⟩)
theorem Fo.up_any {F:List Spt} (h:Fo F) (a b:Int):b∈upF F a ↔ inW F a b=true:=by
 cases ha:hasF F a with
 |true =>
  obtain ⟨k,s,rfl,k1,_⟩:=hasF_of ha;exact h.up k b k1
 |false =>
  have e:upF F a=[]:=upF_none (by unfold parF;rw [spA_none ha];show (-1:Int)<0;decide);rw [e];constructor
  ·intro hb;cases hb
  ·intro hb;unfold inW at hb;rw [ha] at hb;cases hb
def onW (F:List Spt) (n m:Int):Bool:=decide (n=m) || inW F n m
def covF (F:List Spt) (m:Int) (ns:List Int):Bool:=ns.all (λ n=>onW F n m)&&hasF F m
def goF (F:List Spt) (ns:List Int) (m:Int):Int:=((m::upF F m).find? λ m=>covF F m ns).getD (-1)
def meetF (F:List Spt) (ns:List Int):Int:=match ns with | []=>-1|n::_=>goF F ns n
theorem covF_neg {F:List Spt} {m:Int} (ns:List Int) (h:m<0):covF F m ns=false:=by
 have:hasF F m=false:=by unfold hasF;simp;omega
 unfold covF;rw [this,Bool.and_false]
theorem parF_neg {F:List Spt} {m:Int} (h:m<0):parF F m<0:=by
 by_cases hp:parF F m<0
 ·exact hp
 ·have:=(parF_lt (F:=F) (n:=m) (by omega)).1;omega
theorem goF_neg {F:List Spt} {ns:List Int} {m:Int} (h:m<0):goF F ns m=-1:=by
 unfold goF;rw [upF_none (parF_neg h),List.find?_cons,covF_neg ns h];rfl
theorem goF_yes {F:List Spt} {ns:List Int} {m:Int} (h:covF F m ns=true):goF F ns m=m:=by
 unfold goF;rw [List.find?_cons,h];rfl
theorem goF_no {F:List Spt} {ns:List Int} {m:Int} (h:covF F m ns=false):goF F ns m=goF F ns (parF F m):=by
 by_cases hp:parF F m<0
 ·rw [goF_neg hp];unfold goF;rw [upF_none hp,List.find?_cons,h];rfl
 ·unfold goF;rw [upF_some (by omega),List.find?_cons,h]
theorem upL_lt {F:List Spt}:∀(f:Nat) (n:Int),∀m∈upL F f n,m<n
 |0,_,m,h=>by cases h
 |f+1,n,m,h=>by
  rw [upL] at h
  by_cases hp:parF F n<0
  ·rw [if_pos hp] at h;cases h
  ·rw [if_neg hp] at h;have:=(parF_lt (F:=F) (n:=n) (by omega)).1;rcases List.mem_cons.1 h with rfl|h
   ·exact this
   ·have:=upL_lt f _ m h;omega
theorem covF_iff {F:List Spt} {m:Int} {ns:List Int}:covF F m ns=true ↔ (∀n∈ns,onW F n m=true)/\hasF F m=true:=by
 unfold covF;rw [Bool.and_eq_true,List.all_eq_true]
theorem find_first {F:List Spt} {p:Int->Bool}:∀(f:Nat) (n m:Int),m∈n::upL F f n->p m=true->∃k,(n::upL F f n).find? p=some k/\p k=true/\m<=k:=by
 intro f
 induction f with
 |zero =>
  intro n m h hp;rcases List.mem_cons.1 h with rfl|h
  ·exact ⟨m,by rw [List.find?_cons,hp],hp,Int.le_refl _⟩
  ·cases h
 |succ f ih =>
  intro n m h hp
  cases hn:p n with
  |true =>
   refine ⟨n,by rw [List.find?_cons,hn],hn,?_⟩;rcases List.mem_cons.1 h with rfl|h
   ·exact Int.le_refl _
   ·have:=upL_lt _ n m h;omega
  |false =>
   rw [List.find?_cons,hn];rcases List.mem_cons.1 h with rfl|h
   ·rw [hn] at hp;cases hp
   ·rw [upL] at h ⊢
    by_cases hq:parF F n<0
    ·rw [if_pos hq] at h;cases h
    ·rw [if_neg hq] at h ⊢;exact ih _ m h hp
theorem Fo.meet {F:List Spt} (h:Fo F) (ns:List Int) (hn:ns≠[]):(meetF F ns=-1/\∀m,covF F m ns=false)∨(covF F (meetF F ns) ns=true/\∀m,covF F m ns=true->m<=meetF F ns):=by
 cases ns with
 |nil=>exact absurd rfl hn
 |cons n l =>
  show (goF F (n::l) n=-1/\_)∨(covF F (goF F (n::l) n) _=true/\_)
  have key:∀m,covF F m (n::l)=true->m∈n::upF F n:=λ m hm=>by
   have:=(covF_iff.1 hm).1 n (List.mem_cons_self ..);unfold onW at this;rw [Bool.or_eq_true,decide_eq_true_eq] at this;rcases this with rfl|this
   ·exact List.mem_cons_self ..
   ·exact List.mem_cons_of_mem _ ((h.up_any n m).2 this)
  by_cases he:∃m,covF F m (n::l)=true
  ·obtain ⟨m,hm⟩:=he;obtain ⟨k,k1,k2,_⟩:=find_first (p:=λ m=>covF F m (n::l)) _ n m (key m hm) hm
   have e:goF F (n::l) n=k:=by
    unfold goF upF;rw [k1];rfl
   rw [e];refine .inr ⟨k2,λ m' hm'=>?_⟩;obtain ⟨k',k1',_,k3'⟩:=find_first (p:=λ m=>covF F m (n::l)) _ n m' (key m' hm') hm';have e':k=k':=Option.some.inj (k1.symm.trans k1');show m'<=goF F (n::l) n;rw [e,e'];exact k3'
  ·have hno:∀m,covF F m (n::l)=false:=λ m=>by
    cases hm:covF F m (n::l) with
    |false=>rfl
    |true=>exact absurd ⟨m,hm⟩ he
   refine .inl ⟨?_,hno⟩;unfold goF;have:(n::upF F n).find? (λ m=>covF F m (n::l))=none:=List.find?_eq_none.2 (λ m _=>by simp [hno m]);rw [this];rfl
theorem Fo.meet_eq {F:List Spt} (h:Fo F) {ns ns':List Int} (hn:ns≠[]) (hn':ns'≠[]) (he:∀m,covF F m ns=covF F m ns'):meetF F ns=meetF F ns':=by
 rcases h.meet ns hn with ⟨h1,h2⟩|⟨h1,h2⟩ <;> rcases h.meet ns' hn' with ⟨k1,k2⟩|⟨k1,k2⟩
 ·rw [h1,k1]
 ·rw [<-he,h2] at k1;cases k1
 ·rw [he,k2] at h1;cases h1
 ·have a:=h2 _ ((he _).trans k1);have b:=k2 _ ((he _).symm.trans h1);omega
theorem Fo.meet_sub {F:List Spt} (h:Fo F) {ns ns':List Int} (hn:ns≠[]) (hn':ns'≠[]) (he:∀x,x∈ns ↔ x∈ns'):meetF F ns=meetF F ns':=by
 refine h.meet_eq hn hn' (λ m=>?_);rw [Bool.eq_iff_iff,covF_iff,covF_iff];exact ⟨λ ⟨a,b⟩=>⟨λ n hn=>a n ((he n).2 hn),b⟩,λ ⟨a,b⟩=>⟨λ n hn=>a n ((he n).1 hn),b⟩⟩
theorem Fo.on_trans {F:List Spt} (h:Fo F) {a b c:Int} (h1:onW F a b=true) (h2:onW F b c=true):onW F a c=true:=by
 unfold onW at *;rw [Bool.or_eq_true,decide_eq_true_eq] at *;rcases h1 with rfl|h1
 ·exact h2
 ·rcases h2 with rfl|h2
  ·exact .inr h1
  ·exact .inr (h.trans h1 h2)
theorem on_chain {F:List Spt} {a x y:Int} (h1:onW F a x=true) (h2:onW F a y=true) (hx:hasF F x=true) (hy:hasF F y=true) (hxy:x<=y):onW F y x=true:=by
 unfold onW at *;rw [Bool.or_eq_true,decide_eq_true_eq] at *
 by_cases he:y=x
 ·exact .inl he
 ·right;rcases h2 with rfl|h2
  ·rcases h1 with h1|h1
   ·exact absurd h1 he
   ·exact h1
  ·rcases h1 with rfl|h1
   ·obtain ⟨i,j,_,_,e1,e2,_,_,h3,_⟩:=inW_iff.1 h2;omega
   ·obtain ⟨i,j,s,t,rfl,rfl,a1,a2,a3,a4⟩:=inW_iff.1 h2;obtain ⟨i',j',s',t',e1,rfl,b1,b2,b3,b4⟩:=inW_iff.1 h1;exact inW_iff.2 ⟨j,j',t,t',rfl,rfl,a2,b2,by omega,by omega⟩
theorem Fo.step {F:List Spt} (h:Fo F) {a b:Int} (d:Int) (hab:¬meetF F [a,b]<0):meetF F [a,b,d]=meetF F [meetF F [a,b],d]:=by
 rcases h.meet [a,b] (by simp) with ⟨h1,_⟩|⟨h1,h2⟩
 ·omega
 ·refine h.meet_eq (by simp) (by simp) (λ m=>?_);generalize meetF F [a,b]=ab at *;rw [Bool.eq_iff_iff,covF_iff,covF_iff];obtain ⟨c1,c2⟩:=covF_iff.1 h1;constructor
  ·rintro ⟨k1,k2⟩;have hm:covF F m [a,b]=true:=covF_iff.2 ⟨λ n hn=>k1 n (by simp at hn ⊢;omega),k2⟩;refine ⟨λ n hn=>?_,k2⟩;rcases List.mem_cons.1 hn with rfl|hn
   ·exact on_chain (k1 a (by simp)) (c1 a (by simp)) k2 c2 (h2 m hm)
   ·exact k1 n (by simp at hn ⊢;omega)
  ·rintro ⟨k1,k2⟩;refine ⟨λ n hn=>?_,k2⟩;have hx:=k1 ab (by simp);simp only [List.mem_cons,List.not_mem_nil,or_false] at hn;rcases hn with rfl|rfl|rfl
   ·exact h.on_trans (c1 n (by simp)) hx
   ·exact h.on_trans (c1 n (by simp)) hx
   ·exact k1 n (by simp)
theorem Fo.first {F:List Spt} (h:Fo F) {a b:Int} (hab:¬meetF F [a,b]<0):onW F a (meetF F [a,b])=true:=by
 rcases h.meet [a,b] (by simp) with ⟨h1,_⟩|⟨h1,_⟩
 ·omega
 ·exact (covF_iff.1 h1).1 a (by simp)
def parA (F:List Spt) (i:Nat):Int:=match F[i]? with|some s=>s.par|none=>-1
def kidsF (F:List Spt) (n:Int):List Int:=if hasF F n then ((List.range F.length).filter λ i=>decide (parA F i=n)).map λ (i:Nat)=>(i:Int) else []
def sumK (F:List Spt):Nat->Nat
 |0=>0
 |i+1=>sumK F i+(kidsF F (i:Int)).length
theorem count_two {p q r:Nat->Bool} (h:∀x,r x=(p x || q x)) (hd:∀x,(p x&&q x)=false):∀l:List Nat,(l.filter r).length=(l.filter p).length+(l.filter q).length
 |[]=>rfl
 |x::l=>by
  have ih:=count_two h hd l;have e:=h x;have e2:=hd x;simp only [List.filter_cons]
  cases hp:p x <;> cases hq:q x <;> simp [hp,hq] at e e2 <;> simp [e] <;> omega
theorem sumK_eq (F:List Spt):∀N,N<=F.length->sumK F N=((List.range F.length).filter λ i=>decide (0<=parA F i)&&decide (parA F i<(N:Int))).length
 |0,_=>by
  rw [sumK]
  symm
  rw [List.length_eq_zero_iff,List.filter_eq_nil_iff];intro i _;simp
 |N+1,h=>by
  rw [sumK,sumK_eq F N (by omega)]
  have e:(kidsF F (N:Int)).length=((List.range F.length).filter λ i=>decide (parA F i=(N:Int))).length:=by
   unfold kidsF;rw [if_pos (hasF_nat (by omega)),List.length_map]
  rw [e]
  symm
  refine count_two (λ x=>?_) (λ x=>?_) _
  ·rw [Bool.eq_iff_iff];simp;omega
  ·simp;omega
theorem filter_tail (p:Nat->Bool) (h0:p 0=false):∀n,0<n->(∀i,0<i->i<n->p i=true)->((List.range n).filter p).length=n-1
 |0,h,_=>absurd h (by omega)
 |n+1,_,h=>by
  rw [List.range_succ,List.filter_append,List.length_append];rcases Nat.eq_zero_or_pos n with rfl|hn
  ·simp [h0]
  ·rw [filter_tail p h0 n hn (λ i a b=>h i a (by omega))];simp [h n hn (by omega)];omega
theorem Fo.sum_eq {F:List Spt} (h:Fo F):sumK F F.length+1=F.length:=by
 rw [sumK_eq F _ (n_ _)];have hpos:=h.pos;rw [filter_tail _ ?_ _ hpos (λ i a b=>?_)]
 ·omega
 ·unfold parA;have e:=(h.root _ (List.getElem?_eq_getElem hpos)).1;rw [List.getElem?_eq_getElem hpos];simp [e]
 ·unfold parA;have hs:=List.getElem?_eq_getElem b;obtain ⟨p,t,k1,k2,_⟩:=h.par i _ a hs;rw [hs];simp [k1];omega
theorem Fo.kid {F:List Spt} (h:Fo F) {i:Nat} {c:Int} (hc:c∈kidsF F (i:Int)):upF F c=(i:Int)::upF F (i:Int):=by
 unfold kidsF at hc
 split at hc
 ·obtain ⟨j,hj,rfl⟩:=List.mem_map.1 hc;rw [List.mem_filter] at hj;obtain ⟨h1,h2⟩:=hj;have hlt:=List.mem_range.1 h1;have hs:=List.getElem?_eq_getElem hlt
  have h2:parA F j=(i:Int):=by simpa using h2
  unfold parA at h2;rw [hs] at h2;have hp:=h.par_eq hs;rw [upF_some (by rw [hp];simp only at h2;omega),hp];simp only at h2;rw [h2]
 ·cases hc
theorem kids_up {F:List Spt} (n:Int):(kidsF F n).Pairwise (· < ·):=by
 unfold kidsF
 split
 ·refine List.Pairwise.map _ (λ a b h=>?_) (List.Pairwise.filter _ (List.pairwise_lt_range));have h:a<b:=h;omega
 ·exact List.Pairwise.nil
theorem Fo.up0 {F:List Spt} (h:Fo F):upF F 0=[]:=by
 have hs:=List.getElem?_eq_getElem h.pos;have:=h.par_eq hs;rw [(h.root _ hs).1] at this;exact upF_none (by rw [show ((0:Nat):Int)=0 from rfl] at this;omega)
def inC (i e k:Nat):Nat:=min k e-(i+1)
theorem inC_zero (i e:Nat):inC i e 0=0:=by unfold inC;omega
theorem inC_yes {i e k:Nat} (h:i<k) (h':k<e):inC i e (k+1)=inC i e k+1:=by unfold inC;omega
theorem inC_no {i e k:Nat} (h:¬(i<k/\k<e)):inC i e (k+1)=inC i e k:=by unfold inC;omega
theorem inW_nat {F:List Spt} {i k:Nat} {t:Spt} (hk:k<F.length) (ht:F[i]?=some t):inW F (k:Int) (i:Int)=(decide ((i:Int)<(k:Int))&&decide ((k:Int)<t.fin)):=by
 unfold inW finF;rw [spA_nat,ht,hasF_nat hk,hasF_nat (List.getElem?_eq_some_iff.1 ht).1];rfl
end Go.Proofs.YtpgeidpfhakgaaaGreatDoor
namespace Go.Proofs.YtpgeidpfhakgaaaGreatDoor
open Go.RowKit
section
variable {P:Program} {ops:Array Oper} {Q:Exit->Act->World->Prop}
def updV (vals:Nat->Option Value) (i:Nat) (v:Value):Nat->Option Value:=λ j=>if j=i then some v else vals j
theorem updV_same (vals:Nat->Option Value) (i:Nat) (v:Value):updV vals i v i=some v:=if_pos rfl
theorem updV_ne (vals:Nat->Option Value) {i j:Nat} (v:Value) (h:j≠i):updV vals i v j=vals j:=if_neg h
def put1 (ops:Array Oper) (vals:Nat->Option Value) (a:Act) (i:Nat):Act :=
 match vals i,ops[i]? with
 |some v,some o=>a.put o.dst v
 |_,_=>a
def puts (ops:Array Oper) (vals:Nat->Option Value) (L:List Nat) (a:Act):Act:=L.foldl (put1 ops vals) a
theorem put_comm {a:Act} {d e:Option Tmp} {u v:Value} (h:d=none∨e=none∨d≠e):(a.put d u).put e v=(a.put e v).put d u:=by
 cases d with
 |none=>rfl
 |some d =>
  cases e with
  |none=>rfl
  |some e =>
   have hne:d≠e:=by
    rcases h with h|h|h
    ·cases h
    ·cases h
    ·exact λ hh=>h (by rw [hh])
   show ({ a with tmps:=(a.tmps.setIfInBounds d u).setIfInBounds e v }:Act)={ a with tmps:=(a.tmps.setIfInBounds e v).setIfInBounds d u };rw [Array.setIfInBounds_comm _ _ hne]
theorem puts_put {vals:Nat->Option Value} {d:Option Tmp} {v:Value}:∀(L:List Nat) (a:Act),(∀j∈L,∀o,ops[j]?=some o->o.dst=none∨d=none∨o.dst≠d)->(puts ops vals L a).put d v=puts ops vals L (a.put d v)
 |[],a,_=>rfl
 |j::L,a,h=>by
  show (puts ops vals L (put1 ops vals a j)).put d v=puts ops vals L (put1 ops vals (a.put d v) j);rw [puts_put L _ (λ k hk=>h k (by simp [hk]))]
  congr 1
  unfold put1
  split
  ·rename_i u o hu ho;exact put_comm (h j (by simp) o ho)
  ·rfl
theorem puts_upd {vals:Nat->Option Value} {i:Nat} {v:Value}:∀(L:List Nat) (a:Act),i∉L->puts ops (updV vals i v) L a=puts ops vals L a
 |[],a,_=>rfl
 |j::L,a,h=>by
  have hj:j≠i:=λ e=>h (by rw [e];simp);show puts ops (updV vals i v) L (put1 ops (updV vals i v) a j)=puts ops vals L (put1 ops vals a j);rw [puts_upd L _ (λ e=>h (by simp [e]))]
  congr 1
  unfold put1;rw [updV_ne vals v hj]
theorem puts_set {vals:Nat->Option Value} {i:Nat} {o:Oper} {v:Value} (ho:ops[i]?=some o) (hv:vals i=none):∀(L:List Nat) (a:Act),L.Nodup->i∈L->(∀j∈L,j≠i->∀p,ops[j]?=some p->p.dst=none∨o.dst=none∨p.dst≠o.dst) ->
  puts ops (updV vals i v) L a=(puts ops vals L a).put o.dst v
 |[],a,_,hi,_=>by simp at hi
 |j::L,a,hn,hi,hd=>by
  rw [List.nodup_cons] at hn
  by_cases hj:j=i
  ·subst hj;show puts ops (updV vals j v) L (put1 ops (updV vals j v) a j)=(puts ops vals L (put1 ops vals a j)).put o.dst v;rw [puts_upd L _ hn.1,puts_put L _ (λ k hk p hp=>hd k (by simp [hk]) (λ e=>hn.1 (e ▸ hk)) p hp)]
   congr 1
   unfold put1;rw [updV_same,ho,hv]
  ·show puts ops (updV vals i v) L (put1 ops (updV vals i v) a j)=(puts ops vals L (put1 ops vals a j)).put o.dst v
   have hiL:i∈L:=by
    rcases List.mem_cons.1 hi with h|h
    ·exact absurd h.symm hj
    ·exact h
   rw [puts_set ho hv L _ hn.2 hiL (λ k hk=>hd k (by simp [hk]))]
   congr 2
   unfold put1;rw [updV_ne vals v hj]
def freeB (ops:Array Oper):Bool :=
 ((List.range ops.size).all λ i=>(List.range ops.size).all λ j=>i==j || (match ops[i]?,ops[j]? with|some o,some p=>o.dst.isNone || p.dst.isNone || o.dst != p.dst|_,_=>true)) &&
 ((List.range ops.size).all λ i=>match ops[i]? with|some o=>o.guard.isNone&&o.after.all (λ e=>!Region.binds .any e || decide (e.on<i))|none=>true)
theorem freeB_dst (h:freeB ops=true) {i j:Nat} {o p:Oper} (hi:ops[i]?=some o) (hj:ops[j]?=some p) (hne:j≠i):p.dst=none∨o.dst=none∨p.dst≠o.dst:=by
 unfold freeB at h;rw [Bool.and_eq_true] at h;have h1:=List.all_eq_true.1 (List.all_eq_true.1 h.1 j (List.mem_range.2 (Array.getElem?_eq_some_iff.1 hj).1)) i (List.mem_range.2 (Array.getElem?_eq_some_iff.1 hi).1);simp only [hi,hj,Bool.or_eq_true,beq_iff_eq,Option.isNone_iff_eq_none,bne_iff_ne] at h1;rcases h1 with h1|(h1|h1)|h1
 ·exact absurd h1 hne
 ·exact .inl h1
 ·exact .inr (.inl h1)
 ·exact .inr (.inr h1)
theorem freeB_op (h:freeB ops=true) {i:Nat} {o:Oper} (hi:ops[i]?=some o):o.guard=none/\∀e∈o.after,Region.binds .any e=true->e.on<i:=by
 unfold freeB at h;rw [Bool.and_eq_true] at h;have h1:=List.all_eq_true.1 h.2 i (List.mem_range.2 (Array.getElem?_eq_some_iff.1 hi).1);simp only [hi,Bool.and_eq_true,Option.isNone_iff_eq_none,Array.all_eq_true_iff_forall_mem,Bool.or_eq_true,Bool.not_eq_true',decide_eq_true_eq] at h1;refine ⟨h1.1,λ e he hb=>?_⟩;rcases h1.2 e he with h2|h2
 ·rw [h2] at hb;cases hb
 ·exact h2
theorem all_come (h:freeB ops=true) {listed:Array Bool} (hr:Region.ready .any ops listed=[]):∀i,i<ops.size->listed.getD i true=true:=by
 intro i
 induction i using Nat.strongRecOn with
 |_ i ih =>
  intro hi
  by_cases c:listed.getD i true=true
  ·exact c
  ·have c':listed.getD i true=false:=by simpa using c
   have hm:i∈Region.ready .any ops listed:=by
    refine mem_ready.2 ⟨c',ops[i],Array.getElem?_eq_getElem hi,λ e he hb=>?_⟩;have h1:=(freeB_op h (Array.getElem?_eq_getElem hi)).2 e he hb;have h2:=ih e.on h1 (by omega);rw [Array.getD_eq_getD_getElem?] at h2 ⊢
    cases hh:listed[e.on]? with
    |some b=>rw [hh] at h2;exact h2
    |none =>
     exfalso;have h3:=Array.getElem?_eq_none_iff.1 hh;rw [Array.getD_eq_getD_getElem?,Array.getElem?_eq_none (by omega)] at c';cases c'
   rw [hr] at hm;cases hm
theorem wpAny_free (base:Act) (hB:freeB ops=true) (I:(Nat->Option Value)->World->Prop)
  (hstep:∀vals w i o,I vals w->ops[i]?=some o->vals i=none->(∀e∈o.after,Region.binds .any e=true->(vals e.on).isSome=true) ->
   o.wp P (puts ops vals (List.range ops.size) base) w (λ a' w'=>∃v,a'=(puts ops vals (List.range ops.size) base).put o.dst v/\I (updV vals i v) w') Q)
  (hdone:∀vals w,I vals w->(∀i,i<ops.size->(vals i).isSome=true)->Q .normal (puts ops vals (List.range ops.size) base) w) :
  ∀(fuel:Nat) (listed:Array Bool) (vals:Nat->Option Value) (w:World) (S:List Nat),listed.size=ops.size->(∀i,i<ops.size->listed.getD i true=(vals i).isSome)->S.length<=fuel->(∀i,i<ops.size->vals i=none->i∈S)->I vals w ->
   wpAny P .any ops Q fuel listed (puts ops vals (List.range ops.size) base) w
 |0,listed,vals,w,S,hs,hl,hf,hS,hI=>by
  have hall:∀i,i<ops.size->(vals i).isSome=true:=λ i hi=>by
   cases hv:vals i with
   |some v=>rfl
   |none =>
    have:=hS i hi hv;rw [List.eq_nil_of_length_eq_zero (Nat.le_zero.1 hf)] at this;cases this
  refine ⟨?_,hdone vals w hI hall⟩;refine List.eq_nil_iff_forall_not_mem.2 λ i hi=>?_;obtain ⟨h1,o,ho,_⟩:=mem_ready.1 hi;have hlt:=(Array.getElem?_eq_some_iff.1 ho).1;rw [hl i hlt,hall i hlt] at h1;cases h1
 |fuel+1,listed,vals,w,S,hs,hl,hf,hS,hI=>by
  refine ⟨λ hr=>hdone vals w hI (λ i hi=>by rw [<-hl i hi];exact all_come hB hr i hi),λ i hi=>?_⟩;obtain ⟨h1,o,ho,hdep⟩:=mem_ready.1 hi;have hlt:=(Array.getElem?_eq_some_iff.1 ho).1
  have hv:vals i=none:=by
   rw [hl i hlt] at h1;simpa using h1
  have hst:=hstep vals w i o hI ho hv (λ e he hb=>by
   have h2:=hdep e he hb
   have hlt2:e.on<ops.size:=by have:=(freeB_op hB ho).2 e he hb;omega
   rw [<-hl e.on hlt2];rw [Array.getD_eq_getD_getElem?] at h2 ⊢
   cases hh:listed[e.on]? with
   |some b=>rw [hh] at h2;exact h2
   |none=>rfl)
  have hg:=(freeB_op hB ho).1;unfold wpOp;rw [ho];simp only;rw [if_pos (by simp [Region.wanted,hg])];left;refine Oper.wp_mono (λ a' w' hh=>?_) hst;obtain ⟨v,rfl,hI'⟩:=hh;rw [<-puts_set ho hv (List.range ops.size) base List.nodup_range (List.mem_range.2 hlt) (λ j hj hne p hp=>freeB_dst hB ho hp hne)];refine wpAny_free base hB I hstep hdone fuel _ (updV vals i v) w' (S.erase i) (by simpa using hs) (λ j hj=>?_) ?_ (λ j hj hn=>?_) hI'
  ·by_cases c:j=i
   ·subst c;rw [updV_same,Array.getD_eq_getD_getElem?,Array.getElem?_setIfInBounds_self_of_lt (by omega)];rfl
   ·rw [updV_ne vals v c,<-hl j hj,Array.getD_eq_getD_getElem?,Array.getD_eq_getD_getElem?,Array.getElem?_setIfInBounds_ne (λ e=>c e.symm)]
  ·have:=List.length_erase_of_mem (hS i hlt hv);omega
  ·by_cases c:j=i
   ·subst c;rw [updV_same] at hn;cases hn
   ·rw [updV_ne vals v c] at hn;exact (List.mem_erase_of_ne c).2 (hS j hj hn)
def slotOf (ops:Array Oper) (j:Nat):Nat:=((ops[j]?).bind (·.dst)).getD 0
theorem puts_other (vals:Nat->Option Value) (k:Nat):∀(L:List Nat) (a:Act),(∀j∈L,∀o,ops[j]?=some o->o.dst≠some k)->(puts ops vals L a).tmps[k]?=a.tmps[k]?
 |[],a,_=>rfl
 |j::L,a,h=>by
  show (puts ops vals L (put1 ops vals a j)).tmps[k]?=_;rw [puts_other vals k L _ (λ i hi=>h i (by simp [hi]))];unfold put1
  split
  ·rename_i v o hv ho;have:=h j (by simp) o ho;unfold Act.put
   split
   ·rename_i d hd;rw [hd] at this;exact Array.getElem?_setIfInBounds_ne (λ e=>this (by rw [e]))
   ·rfl
  ·rfl
theorem puts_at {vals:Nat->Option Value} {i:Nat} {o:Oper} {v:Value} {d:Tmp} (ho:ops[i]?=some o) (hd:o.dst=some d) (hv:vals i=some v):∀(L:List Nat) (a:Act),L.Nodup->i∈L->d<a.tmps.size->(∀j∈L,j≠i->∀p,ops[j]?=some p->p.dst=none∨o.dst=none∨p.dst≠o.dst)->(puts ops vals L a).tmps[d]?=some v
 |[],a,_,hi,_,_=>by simp at hi
 |j::L,a,hn,hi,hsz,hdd=>by
  rw [List.nodup_cons] at hn
  by_cases hj:j=i
  ·subst hj;show (puts ops vals L (put1 ops vals a j)).tmps[d]?=_
   rw [puts_other vals d L _ (λ k hk p hp e=>by
    rcases hdd k (by simp [hk]) (λ e=>hn.1 (e ▸ hk)) p hp with h|h|h
    ·rw [h] at e;cases e
    ·rw [h] at hd;cases hd
    ·exact h (by rw [e,hd]))]
   unfold put1;rw [hv,ho];simp only [Act.put,hd];exact Array.getElem?_setIfInBounds_self_of_lt hsz
  ·show (puts ops vals L (put1 ops vals a j)).tmps[d]?=_
   have hiL:i∈L:=by
    rcases List.mem_cons.1 hi with h|h
    ·exact absurd h.symm hj
    ·exact h
   refine puts_at ho hd hv L _ hn.2 hiL ?_ (λ k hk=>hdd k (by simp [hk]));unfold put1
   split
   ·unfold Act.put
    split <;> simp [hsz]
   ·exact hsz
def depsB (ops:Array Oper) (D:Nat->List Nat):Bool :=
 (List.range ops.size).all λ i=>match ops[i]? with
  |some o=>(D i).all λ j=>decide (j<i)&&o.after.any (λ e=>e.on==j&&Region.binds .any e)&&(match ops[j]? with|some p=>p.dst.isSome|none=>false)
  |none=>true
def outB (ops:Array Oper) (k:Nat):Bool:=ops.all λ o=>o.dst != some k
def inB (ops:Array Oper) (n:Nat):Bool:=ops.all λ o=>match o.dst with|some d=>decide (d<n)|none=>true
def coverB (ops:Array Oper) (last:Nat):Bool :=
 (List.range last).all λ i=>(List.range (last+1)).any λ k=>decide (i<k)&&(match ops[k]? with|some o=>o.after.any (λ e=>e.on==i&&Region.binds .any e)|none=>false)
theorem cover_all {last:Nat} (hc:coverB ops last=true) {p:Nat->Prop} (hp:∀k o,k<=last->ops[k]?=some o->(k=last∨p k)->∀e∈o.after,Region.binds .any e=true->p e.on):∀i,i<last->p i:=by
 have main:∀d i,i<last->last-i<=d->p i:=by
  intro d
  induction d with
  |zero=>intro i hi hd;omega
  |succ d ih =>
   intro i hi hd;unfold coverB at hc;obtain ⟨k,hk,hh⟩:=List.any_eq_true.1 (List.all_eq_true.1 hc i (List.mem_range.2 hi));rw [Bool.and_eq_true,decide_eq_true_eq] at hh;have hkl:=List.mem_range.1 hk;obtain ⟨h1,h2⟩:=hh
   cases ho:ops[k]? with
   |none=>rw [ho] at h2;cases h2
   |some o =>
    rw [ho] at h2;simp only at h2;rw [<-Array.any_toList] at h2;obtain ⟨e,he0,h3⟩:=List.any_eq_true.1 h2;have he:e∈o.after:=Array.mem_toList_iff.1 he0;rw [Bool.and_eq_true,beq_iff_eq] at h3
    have:=hp k o (by omega) ho (by
     by_cases c:k=last
     ·exact .inl c
     ·exact .inr (ih k (by omega) (by omega))) e he h3.2
    rw [h3.1] at this;exact this
 exact λ i hi=>main (last-i) i hi (n_ _)
end
end Go.Proofs.YtpgeidpfhakgaaaGreatDoor
namespace Go.Proofs.YtpgeidpfhakgaaaGreatDoor
structure SyVar where
 name:List UInt8
 num:Int
 at_:Int
structure SyAct where
 kind:Int
 name:List UInt8
 value:Option Ex
 at_:Int
structure SyMove where
 kind:Int
 event:List UInt8
 wait:Int
 guarded:Bool
 guard:Option Ex
 acts:List SyAct
 targets:List (List UInt8)
 at_:Int
inductive SyNode where
 |mk (kind:Int) (name initial default:List UInt8) (enter leave:List SyAct) (moves:List SyMove) (kids:List SyNode) (at_:Int)
structure SyChart where
 vars:List SyVar
 root:SyNode
structure Ss where
 ts:List Tk
 n:Nat
 m:Nat
 a:Nat
inductive Rs (α:Type) where
 |out
 |bad (code p:Int)
 |ok (x:α) (s:Ss)
def Rs.bind {α β:Type} (e:Rs α) (g:α->Ss->Rs β):Rs β:=match e with
 |.ok x s=>g x s
 |.out=>.out
 |.bad c p=>.bad c p
@[simp] theorem Rs.bind_ok {α β:Type} (x:α) (s:Ss) (g:α->Ss->Rs β):(Rs.ok x s).bind g=g x s:=rfl
@[simp] theorem Rs.bind_bad {α β:Type} (c p:Int) (g:α->Ss->Rs β):(Rs.bad c p:Rs α).bind g=.bad c p:=rfl
@[simp] theorem Rs.bind_out {α β:Type} (g:α->Ss->Rs β):(Rs.out:Rs α).bind g=.out:=rfl
theorem Rs.some {α β:Type} {e:Rs α} {g:α->Ss->Rs β} {y:β} {r:Ss} (h:e.bind g=.ok y r):∃x s,e=.ok x s/\g x s=.ok y r:=by
 cases e with
 |out=>cases h
 |bad c p=>cases h
 |ok x s=>exact ⟨x,s,rfl,h⟩
theorem Rs.congr {α β:Type} {e:Rs α} {g g':α->Ss->Rs β} (h:∀x s,e=.ok x s->g x s=g' x s):e.bind g=e.bind g':=by
 cases e with
 |out=>rfl
 |bad c p=>rfl
 |ok x s=>exact h x s rfl
theorem Rs.notOut {α β:Type} {e:Rs α} {g:α->Ss->Rs β} (h0:e≠.out) (h:∀x s,e=.ok x s->g x s≠.out):e.bind g≠.out:=by
 cases e with
 |out=>exact absurd rfl h0
 |bad c p=>intro h;cases h
 |ok x s=>exact h x s rfl
theorem Rs.assoc {α β γ:Type} (e:Rs α) (g:α->Ss->Rs β) (h:β->Ss->Rs γ):(e.bind g).bind h=e.bind λ x s=>(g x s).bind h:=by
 cases e <;> rfl
def Takes {α:Type} (k:Nat) (s:Ss) (e:Rs α):Prop:=∀x s',e=.ok x s'->s'.ts.length+k<=s.ts.length
theorem Takes.bind {α β:Type} {k l:Nat} {s:Ss} {e:Rs α} {g:α->Ss->Rs β} (h:Takes k s e) (hg:∀x s',e=.ok x s'->Takes l s' (g x s')):Takes (k+l) s (e.bind g):=λ y r hy=>by
 obtain ⟨x,s',e1,e2⟩:=Rs.some hy;have:=h x s' e1;have:=hg x s' e1 y r e2;omega
theorem Takes.mono {α:Type} {k l:Nat} {s:Ss} {e:Rs α} (h:Takes k s e) (hl:l<=k):Takes l s e:=λ x s' hx=>by
 have:=h x s' hx;omega
theorem Takes.le_of {α:Type} {k:Nat} {s u:Ss} {e:Rs α} (h:Takes k u e) (hl:u.ts.length<=s.ts.length):Takes k s e:=λ x s' hx=>by
 have:=h x s' hx;omega
theorem Takes.ok {α:Type} (x:α) (s:Ss):Takes 0 s (.ok x s):=λ y s' h=>by
 injection h with _ h;subst h;exact n_ _
theorem Takes.bad {α:Type} (k:Nat) (s:Ss) (c p:Int):Takes k s (.bad c p:Rs α):=λ _ _ h=>by cases h
theorem Takes.out {α:Type} (k:Nat) (s:Ss):Takes k s (.out:Rs α):=λ _ _ h=>by cases h
theorem Takes.next {α:Type} {k:Nat} {s:Ss} {t:Tk} {r:List Tk} {n m a:Nat} {e:Rs α} (hs:s.ts=t::r) (h:Takes k ⟨r,n,m,a⟩ e):Takes (k+1) s e:=λ x s' hx=>by
 have:=h x s' hx;rw [hs,List.length_cons];simp only at this;omega
def itF {σ:Type} (stp:σ->Ss->Rs (σ×Bool)):Nat->σ->Ss->Rs σ
 |0,_,_=>.out
 |f+1,x,s=>(stp x s).bind λ y s'=>if y.2=true then itF stp f y.1 s' else .ok y.1 s'
def Goes {σ:Type} (stp:σ->Ss->Rs (σ×Bool)):Prop:=∀x s y s',stp x s=.ok (y,true) s'->s'.ts.length<s.ts.length
def Keeps {σ:Type} (stp:σ->Ss->Rs (σ×Bool)):Prop:=∀x s,Takes 0 s (stp x s)
theorem itF_same {σ:Type} {stp:σ->Ss->Rs (σ×Bool)} (hg:Goes stp):∀f f' x s,s.ts.length<f->s.ts.length<f'->itF stp f x s=itF stp f' x s
 |0,_,_,_,h,_=>by omega
 |_+1,0,_,_,_,h=>by omega
 |f+1,f' + 1,x,s,h,h'=>by
  rw [itF,itF];refine Rs.congr λ y s' e=>?_
  split
  ·rename_i hy
   have e':stp x s=.ok (y.1,true) s':=by rw [e,<-hy]
   have:=hg _ _ _ _ e';exact itF_same hg f f' _ _ (by omega) (by omega)
  ·rfl
theorem itF_takes {σ:Type} {stp:σ->Ss->Rs (σ×Bool)} (hk:Keeps stp):∀f x s,Takes 0 s (itF stp f x s)
 |0,_,s=>.out 0 s
 |f+1,x,s=>by
  rw [itF];refine Takes.bind (k:=0) (l:=0) (hk x s) λ y s' _=>?_
  split
  ·exact itF_takes hk f _ _
  ·exact .ok _ _
def It {σ:Type} (stp:σ->Ss->Rs (σ×Bool)) (x:σ) (s:Ss):Rs σ:=itF stp (s.ts.length+1) x s
theorem It_eq {σ:Type} {stp:σ->Ss->Rs (σ×Bool)} (hg:Goes stp) (x:σ) (s:Ss):It stp x s=(stp x s).bind λ y s'=>if y.2=true then It stp y.1 s' else .ok y.1 s':=by
 unfold It;rw [itF];refine Rs.congr λ y s' e=>?_
 split
 ·rename_i hy
  have e':stp x s=.ok (y.1,true) s':=by rw [e,<-hy]
  have:=hg _ _ _ _ e';exact itF_same hg _ _ _ _ (by omega) (by omega)
 ·rfl
theorem It_takes {σ:Type} {stp:σ->Ss->Rs (σ×Bool)} (hk:Keeps stp) (x:σ) (s:Ss):Takes 0 s (It stp x s):=itF_takes hk _ x s
def isTk (k:Int) (u:List UInt8) (t:Tk):Bool:=decide (t.kind=k)&&decide (t.text=u)
def isAt (k:Int) (u:List UInt8):List Tk->Bool
 |[]=>false
 |t::_=>isTk k u t
def wrongR {α:Type}:List Tk->Rs α
 |[]=>.bad 0 0
 |t::_=>if t.kind=5 then .bad 3 t.at_ else .bad 4 t.at_
def stopR {α:Type} (c:Int):List Tk->Rs α
 |[]=>.bad 0 0
 |t::_=>.bad c t.at_
def atOf:List Tk->Int
 |[]=>0
 |t::_=>t.at_
def kindOf:List Tk->Int
 |[]=>0
 |t::_=>t.kind
theorem wrongR_cons {α:Type} (t:Tk) (r:List Tk):(wrongR (t::r):Rs α)=if t.kind=5 then .bad 3 t.at_ else .bad 4 t.at_:=rfl
theorem wrongR_takes {α:Type} (k:Nat) (s:Ss) (ts:List Tk):Takes k s (wrongR ts:Rs α):=by
 cases ts with
 |nil=>exact Takes.bad _ _ _ _
 |cons t r=>rw [wrongR_cons];split <;> exact Takes.bad _ _ _ _
theorem stopR_takes {α:Type} (k:Nat) (s:Ss) (c:Int) (ts:List Tk):Takes k s (stopR c ts:Rs α):=by
 cases ts with
 |nil=>exact Takes.bad _ _ _ _
 |cons t r=>exact Takes.bad _ _ _ _
def Ss.drop (s:Ss):Ss:=⟨s.ts.tail,s.n,s.m,s.a⟩
def mustR (k:Int) (u:List UInt8) (s:Ss):Rs Unit:=if isAt k u s.ts=true then .ok () s.drop else wrongR s.ts
def nameR (s:Ss):Rs (List UInt8×Int):=match s.ts with
 |[]=>.bad 0 0
 |t::r=>if t.kind=1 then .ok (t.text,t.at_) ⟨r,s.n,s.m,s.a⟩ else wrongR (t::r)
def numR (s:Ss):Rs Int:=match s.ts with
 |[]=>.bad 0 0
 |t::r=>if t.kind=3 then .ok t.num ⟨r,s.n,s.m,s.a⟩ else wrongR (t::r)
def exprR (s:Ss):Rs Ex:=match Pf 0 0 s.ts with
 |.out=>.out
 |.bad c p=>.bad c p
 |.ok x r=>.ok x ⟨r,s.n,s.m,s.a⟩
theorem isAt_cons {k:Int} {u:List UInt8} {ts:List Tk} (h:isAt k u ts=true):∃t r,ts=t::r:=by
 cases ts with
 |nil=>cases h
 |cons t r=>exact ⟨t,r,rfl⟩
theorem drop_takes {α:Type} {k:Int} {u:List UInt8} {s:Ss} (h:isAt k u s.ts=true) (x:α):Takes 1 s (.ok x s.drop):=λ y s' e=>by
 injection e with _ e;obtain ⟨t,r,hs⟩:=isAt_cons h;subst e;show s.ts.tail.length+1<=_;rw [hs];exact n_ _
theorem mustR_takes (k:Int) (u:List UInt8) (s:Ss):Takes 1 s (mustR k u s):=by
 unfold mustR
 split
 ·exact drop_takes (by assumption) _
 ·exact wrongR_takes _ _ _
theorem nameR_takes (s:Ss):Takes 1 s (nameR s):=by
 unfold nameR
 split
 ·exact Takes.bad _ _ _ _
 ·rename_i t r hs
  split
  ·exact .next (k:=0) hs (.ok _ _)
  ·exact wrongR_takes _ _ _
theorem numR_takes (s:Ss):Takes 1 s (numR s):=by
 unfold numR
 split
 ·exact Takes.bad _ _ _ _
 ·rename_i t r hs
  split
  ·exact .next (k:=0) hs (.ok _ _)
  ·exact wrongR_takes _ _ _
theorem exprR_takes (s:Ss):Takes 1 s (exprR s):=λ y s' h=>by
 unfold exprR at h
 split at h
 ·cases h
 ·cases h
 ·rename_i x r e;injection h with _ h;subst h;exact Pf_len e
def wSet:List UInt8:=[115,101,116]
def wRaise:List UInt8:=[114,97,105,115,101]
def wEmit:List UInt8:=[101,109,105,116]
def wOn:List UInt8:=[111,110]
def wAlways:List UInt8:=[97,108,119,97,121,115]
def wAfter:List UInt8:=[97,102,116,101,114]
def wInitial:List UInt8:=[105,110,105,116,105,97,108]
def wEnter:List UInt8:=[101,110,116,101,114]
def wLeave:List UInt8:=[108,101,97,118,101]
def wState:List UInt8:=[115,116,97,116,101]
def wParallel:List UInt8:=[112,97,114,97,108,108,101,108]
def wHistory:List UInt8:=[104,105,115,116,111,114,121]
def wDeep:List UInt8:=[100,101,101,112]
def wVar:List UInt8:=[118,97,114]
def wChart:List UInt8:=[99,104,97,114,116]
def wordAt (ts:List Tk):List (List UInt8)->Nat->Nat
 |[],_=>0
 |u::l,i=>if isAt 2 u ts=true then i else wordAt ts l (i+1)
def actK (ts:List Tk):Nat:=wordAt ts [wSet,wRaise,wEmit] 1
def moveK (ts:List Tk):Nat:=wordAt ts [wOn,wAlways,wAfter] 1
def nodeK (ts:List Tk):Nat:=wordAt ts [wState,wParallel,wHistory,wDeep] 1
theorem wordAt_cons {ts:List Tk}:∀{l:List (List UInt8)} {i:Nat},wordAt ts l i≠0->∃t r,ts=t::r
 |[],_,h=>absurd rfl h
 |u::l,i,h=>by
  unfold wordAt at h
  split at h
  ·exact isAt_cons (by assumption)
  ·exact wordAt_cons h
theorem dropW_takes {α:Type} {s:Ss} {l:List (List UInt8)} {i k n m a:Nat} (h:wordAt s.ts l i≠0) {e:Rs α} (he:Takes k ⟨s.ts.tail,n,m,a⟩ e):Takes (k+1) s e:=by
 obtain ⟨t,r,hs⟩:=wordAt_cons h;rw [hs,List.tail_cons] at he;exact .next hs he
def actV (k:Nat) (s:Ss):Rs (Option Ex) :=
 if k=2 then .ok none s else (mustR 4 [61] s).bind λ _ s=>(exprR s).bind λ x s=>.ok (some x) s
def actR (s:Ss):Rs SyAct :=
 if actK s.ts=0 then wrongR s.ts
 else if s.a=400 then stopR 2 s.ts
 else (nameR ⟨s.ts.tail,s.n,s.m,s.a+1⟩).bind λ x s1=>(actV (actK s.ts) s1).bind λ v s2=>(mustR 4 [59] s2).bind λ _ s3 =>
  .ok ⟨actK s.ts,x.1,v,atOf s.ts⟩ s3
theorem actV_takes (k:Nat) (s:Ss):Takes 0 s (actV k s):=by
 unfold actV
 split
 ·exact .ok _ _
 ·exact (Takes.bind (mustR_takes _ _ _) λ _ s1 _=>Takes.bind (exprR_takes s1) λ _ s2 _=>Takes.ok _ _).mono (by omega)
theorem actR_takes (s:Ss):Takes 1 s (actR s):=by
 unfold actR
 split
 ·exact wrongR_takes _ _ _
 ·rename_i h0
  split
  ·exact stopR_takes _ _ _ _
  ·exact (dropW_takes h0 (Takes.bind (nameR_takes _) λ _ _ _=>Takes.bind (actV_takes _ _) λ _ _ _=>Takes.bind (mustR_takes _ _ _) λ _ _ _=>Takes.ok _ _)).mono (by omega)
def blkS (l:List SyAct) (s:Ss):Rs (List SyAct×Bool) :=
 if isAt 4 [125] s.ts=true then .ok (l,false) s.drop else (actR s).bind λ x s'=>.ok (l++[x],true) s'
def blockR (s:Ss):Rs (List SyAct):=(mustR 4 [123] s).bind λ _ s'=>It blkS [] s'
theorem blkS_keeps:Keeps blkS:=λ x s=>by
 unfold blkS
 split
 ·exact (drop_takes (by assumption) _).mono (by omega)
 ·exact (Takes.bind (actR_takes s) λ _ _ _=>Takes.ok _ _).mono (by omega)
theorem blockR_takes (s:Ss):Takes 1 s (blockR s):=(Takes.bind (mustR_takes _ _ s) λ _ _ _=>It_takes blkS_keeps _ _).mono (by omega)
def evR (k:Nat) (s:Ss):Rs (List UInt8):=if k=1 then (nameR s).bind λ x s=>.ok x.1 s else .ok [] s
def waitR (k:Nat) (s:Ss):Rs Int:=if k=3 then numR s else .ok 0 s
def guardR (s:Ss):Rs (Option Ex):=if isAt 4 [91] s.ts=true then (exprR s.drop).bind λ x s=>(mustR 4 [93] s).bind λ _ s=>.ok (some x) s else .ok none s
def actsR (s:Ss):Rs (List SyAct):=if isAt 4 [123] s.ts=true then blockR s else .ok [] s
def tgtS (l:List (List UInt8)) (s:Ss):Rs (List (List UInt8)×Bool):=(nameR s).bind λ x s=>if isAt 4 [44] s.ts=true then .ok (l++[x.1],true) s.drop else .ok (l++[x.1],false) s
def tgtR (s:Ss):Rs (List (List UInt8)):=if isAt 4 [45,62] s.ts=true then It tgtS [] s.drop else .ok [] s
theorem drop_le (s:Ss):s.drop.ts.length<=s.ts.length:=by
 show s.ts.tail.length<=_;rw [List.length_tail];omega
theorem Takes.dropped {α:Type} {k:Nat} {s:Ss} {e:Rs α} (h:Takes k s.drop e):Takes k s e:=λ x s' hx=>by
 have:=h x s' hx;have:=drop_le s;omega
theorem tgtS_keeps:Keeps tgtS:=λ x s=>by
 refine (Takes.bind (l:=0) (nameR_takes s) λ z s1 _=>?_).mono (by omega)
 split
 ·exact (Takes.ok _ _).dropped
 ·exact .ok _ _
theorem evR_takes (k:Nat) (s:Ss):Takes 0 s (evR k s):=by
 unfold evR
 split
 ·exact (Takes.bind (nameR_takes s) λ _ _ _=>Takes.ok _ _).mono (by omega)
 ·exact .ok _ _
theorem waitR_takes (k:Nat) (s:Ss):Takes 0 s (waitR k s):=by
 unfold waitR
 split
 ·exact (numR_takes s).mono (by omega)
 ·exact .ok _ _
theorem guardR_takes (s:Ss):Takes 0 s (guardR s):=by
 unfold guardR
 split
 ·exact ((Takes.bind (exprR_takes _) λ _ _ _=>Takes.bind (mustR_takes _ _ _) λ _ _ _=>Takes.ok _ _).mono (by omega)).dropped
 ·exact .ok _ _
theorem actsR_takes (s:Ss):Takes 0 s (actsR s):=by
 unfold actsR
 split
 ·exact (blockR_takes s).mono (by omega)
 ·exact .ok _ _
theorem tgtR_takes (s:Ss):Takes 0 s (tgtR s):=by
 unfold tgtR
 split
 ·exact (It_takes tgtS_keeps _ _).dropped
 ·exact .ok _ _
def moveR (s:Ss):Rs SyMove :=
 if s.m=200 then stopR 2 s.ts
 else (evR (moveK s.ts) ⟨s.ts.tail,s.n,s.m+1,s.a⟩).bind λ e s1=>(waitR (moveK s.ts) s1).bind λ w s2=>(guardR s2).bind λ g s3 =>
  (actsR s3).bind λ l s4=>(tgtR s4).bind λ q s5=>(mustR 4 [59] s5).bind λ _ s6=>.ok ⟨moveK s.ts,e,w,g.isSome,g,l,q,atOf s.ts⟩ s6
theorem moveR_takes (s:Ss):Takes 1 s (moveR s):=by
 unfold moveR
 split
 ·exact stopR_takes _ _ _ _
 ·refine (Takes.bind (k:=0) (l:=1) (s:=⟨s.ts.tail,s.n,s.m+1,s.a⟩) (evR_takes _ _) λ _ _ _=>?_).le_of ?_
  ·exact (Takes.bind (waitR_takes _ _) λ _ _ _=>Takes.bind (guardR_takes _) λ _ _ _=>Takes.bind (actsR_takes _) λ _ _ _=>Takes.bind (tgtR_takes _) λ _ _ _=>Takes.bind (mustR_takes _ _ _) λ _ _ _=>Takes.ok _ _).mono (by omega)
  ·show s.ts.tail.length<=_;rw [List.length_tail];omega
structure SyB where
 initial:List UInt8
 enter:List SyAct
 leave:List SyAct
 moves:List SyMove
 hi:Bool
 he:Bool
 hl:Bool
def SyB.none:SyB:=⟨[],[],[],[],false,false,false⟩
def initS (b:SyB) (s:Ss):Rs (SyB×Bool) :=
 if b.hi=true then wrongR s.ts else (nameR s.drop).bind λ x s1=>(mustR 4 [59] s1).bind λ _ s2=>.ok (⟨x.1,b.enter,b.leave,b.moves,true,b.he,b.hl⟩,true) s2
def enterS (b:SyB) (s:Ss):Rs (SyB×Bool) :=
 if b.he=true then wrongR s.ts else (blockR s.drop).bind λ l s1=>.ok (⟨b.initial,l,b.leave,b.moves,b.hi,true,b.hl⟩,true) s1
def leaveS (b:SyB) (s:Ss):Rs (SyB×Bool) :=
 if b.hl=true then wrongR s.ts else (blockR s.drop).bind λ l s1=>.ok (⟨b.initial,b.enter,l,b.moves,b.hi,b.he,true⟩,true) s1
def movS (b:SyB) (s:Ss):Rs (SyB×Bool) :=
 if moveK s.ts=0 then .ok (b,false) s else (moveR s).bind λ x s1=>.ok (⟨b.initial,b.enter,b.leave,b.moves++[x],b.hi,b.he,b.hl⟩,true) s1
def clauseS (b:SyB) (s:Ss):Rs (SyB×Bool) :=
 if isAt 2 wInitial s.ts=true then initS b s
 else if isAt 2 wEnter s.ts=true then enterS b s
 else if isAt 2 wLeave s.ts=true then leaveS b s
 else movS b s
theorem drop_lt {s:Ss} {t:Tk} {r:List Tk} (h:s.ts=t::r):s.drop.ts.length+1=s.ts.length:=by
 show s.ts.tail.length+1=_;rw [h];rfl
def Steps {σ:Type} (s:Ss) (e:Rs (σ×Bool)):Prop:=∀y b s',e=.ok (y,b) s'->s'.ts.length+(if b=true then 1 else 0)<=s.ts.length
theorem Steps.of {σ:Type} {s:Ss} {e:Rs (σ×Bool)} (h:Takes 1 s e):Steps s e:=λ y b s' e'=>by
 have:=h _ _ e'
 split <;> omega
theorem Steps.stop {σ:Type} (s:Ss) (x:σ):Steps s (.ok (x,false) s):=λ y b s' e'=>by
 injection e' with e1 e2;injection e1 with _ e1;subst e1 e2;exact n_ _
theorem clauseS_steps (b:SyB) (s:Ss):Steps s (clauseS b s):=by
 unfold clauseS
 split
 ·obtain ⟨t,r,hs⟩:=isAt_cons (by assumption);have hd:=drop_lt hs;unfold initS
  split
  ·exact .of (wrongR_takes _ _ _)
  ·exact .of ((Takes.bind (nameR_takes _) λ _ _ _=>Takes.bind (mustR_takes _ _ _) λ _ _ _=>Takes.ok _ _).mono (by omega) |>.le_of (drop_le s))
 ·split
  ·obtain ⟨t,r,hs⟩:=isAt_cons (by assumption);unfold enterS
   split
   ·exact .of (wrongR_takes _ _ _)
   ·exact .of ((Takes.bind (blockR_takes _) λ _ _ _=>Takes.ok _ _).mono (by omega) |>.le_of (drop_le s))
  ·split
   ·unfold leaveS
    split
    ·exact .of (wrongR_takes _ _ _)
    ·exact .of ((Takes.bind (blockR_takes _) λ _ _ _=>Takes.ok _ _).mono (by omega) |>.le_of (drop_le s))
   ·unfold movS
    split
    ·exact .stop _ _
    ·exact .of ((Takes.bind (moveR_takes _) λ _ _ _=>Takes.ok _ _).mono (by omega))
theorem goes_of {σ:Type} {stp:σ->Ss->Rs (σ×Bool)} (h:∀x s,Steps s (stp x s)):Goes stp:=λ x s y s' e=>by
 have:=h x s y true s' e;rw [if_pos rfl] at this;omega
theorem keeps_of {σ:Type} {stp:σ->Ss->Rs (σ×Bool)} (h:∀x s,Steps s (stp x s)):Keeps stp:=λ x s y s' e=>by
 have:=h x s y.1 y.2 s' e;omega
theorem clauseS_goes:Goes clauseS:=goes_of clauseS_steps
theorem clauseS_keeps:Keeps clauseS:=keeps_of clauseS_steps
def kidS (nd:Ss->Rs SyNode) (l:List SyNode) (s:Ss):Rs (List SyNode×Bool) :=
 if nodeK s.ts=0 then .ok (l,false) s else (nd s).bind λ x s1=>.ok (l++[x],true) s1
theorem kidS_steps {nd:Ss->Rs SyNode} (h:∀s,Takes 1 s (nd s)) (l:List SyNode) (s:Ss):Steps s (kidS nd l s):=by
 unfold kidS
 split
 ·exact .stop _ _
 ·exact .of ((Takes.bind (h s) λ _ _ _=>Takes.ok _ _).mono (by omega))
theorem kidS_goes {nd:Ss->Rs SyNode} (h:∀s,Takes 1 s (nd s)):Goes (kidS nd):=goes_of (kidS_steps h)
theorem kidS_keeps {nd:Ss->Rs SyNode} (h:∀s,Takes 1 s (nd s)):Keeps (kidS nd):=keeps_of (kidS_steps h)
def bodyR (nd:Ss->Rs SyNode) (s:Ss):Rs (SyB×List SyNode):=(It clauseS SyB.none s).bind λ b s1=>(It (kidS nd) [] s1).bind λ l s2=>.ok (b,l) s2
theorem bodyR_takes {nd:Ss->Rs SyNode} (h:∀s,Takes 1 s (nd s)) (s:Ss):Takes 0 s (bodyR nd s) :=
 Takes.bind (k:=0) (l:=0) (It_takes clauseS_keeps _ s) λ _ _ _=>Takes.bind (k:=0) (l:=0) (It_takes (kidS_keeps h) _ _) λ _ _ _=>Takes.ok _ _
def namedR (d:Nat) (s:Ss):Rs (List UInt8×Int):=match s.ts with
 |[]=>.bad 0 0
 |t::r=>if t.kind=1 then (if s.n=64 then .bad 2 t.at_ else if d=0 then .bad 21 t.at_ else .ok (t.text,t.at_) ⟨r,s.n+1,s.m,s.a⟩) else wrongR (t::r)
theorem namedR_takes (d:Nat) (s:Ss):Takes 1 s (namedR d s):=by
 unfold namedR
 split
 ·exact Takes.bad _ _ _ _
 ·rename_i t r hs
  split
  ·split
   ·exact Takes.bad _ _ _ _
   ·split
    ·exact Takes.bad _ _ _ _
    ·exact .next (k:=0) hs (.ok _ _)
  ·exact wrongR_takes _ _ _
theorem namedR_zero (s:Ss):∃c p,namedR 0 s=.bad c p:=by
 unfold namedR
 split
 ·exact ⟨_,_,rfl⟩
 ·split
  ·split
   ·exact ⟨_,_,rfl⟩
   ·exact ⟨_,_,if_pos rfl⟩
  ·rw [wrongR_cons]
   split <;> exact ⟨_,_,rfl⟩
def histR (k:Nat) (x:List UInt8×Int) (s:Ss):Rs SyNode :=
 (mustR 4 [45,62] s).bind λ _ s2=>(nameR s2).bind λ y s3=>(mustR 4 [59] s3).bind λ _ s4=>.ok (.mk k x.1 [] y.1 [] [] [] [] x.2) s4
def nodeOf (k:Nat) (x:List UInt8×Int) (z:SyB×List SyNode):SyNode:=.mk k x.1 z.1.initial [] z.1.enter z.1.leave z.1.moves z.2 x.2
def innerR (nd:Ss->Rs SyNode) (k:Nat) (x:List UInt8×Int) (s:Ss):Rs SyNode :=
 (mustR 4 [123] s).bind λ _ s2=>(bodyR nd s2).bind λ z s3=>(mustR 4 [125] s3).bind λ _ s4=>.ok (nodeOf k x z) s4
def nodeR:Nat->Ss->Rs SyNode
 |0,s=>(namedR 0 s.drop).bind λ _ _=>.out
 |d+1,s=>(namedR (d+1) s.drop).bind λ x s1=>if 3<=nodeK s.ts then histR (nodeK s.ts) x s1 else innerR (nodeR d) (nodeK s.ts) x s1
theorem nodeR_takes:∀d s,Takes 1 s (nodeR d s)
 |0,s=>by
  unfold nodeR;obtain ⟨c,p,e⟩:=namedR_zero s.drop;rw [e];exact Takes.bad _ _ _ _
 |d+1,s=>by
  unfold nodeR;refine Takes.le_of (Takes.mono (Takes.bind (k:=1) (l:=0) (namedR_takes _ _) λ x s1 _=>?_) (by omega)) (drop_le s)
  split
  ·exact (Takes.bind (mustR_takes _ _ _) λ _ _ _=>Takes.bind (nameR_takes _) λ _ _ _=>Takes.bind (mustR_takes _ _ _) λ _ _ _=>Takes.ok _ _).mono (by omega)
  ·exact (Takes.bind (mustR_takes _ _ _) λ _ _ _=>Takes.bind (bodyR_takes (nodeR_takes d) _) λ _ _ _=>Takes.bind (mustR_takes _ _ _) λ _ _ _=>Takes.ok _ _).mono (by omega)
def vnameR (k:Nat) (s:Ss):Rs (List UInt8×Int):=match s.ts with
 |[]=>.bad 0 0
 |t::r=>if t.kind=1 then (if k=16 then .bad 2 t.at_ else .ok (t.text,t.at_) ⟨r,s.n,s.m,s.a⟩) else wrongR (t::r)
def vnumR (s:Ss):Rs Int:=if isAt 4 [45] s.ts=true then (numR s.drop).bind λ x s=>.ok (-x) s else numR s
def varS (l:List SyVar) (s:Ss):Rs (List SyVar×Bool) :=
 if isAt 2 wVar s.ts=true then (vnameR l.length s.drop).bind λ x s1=>(mustR 4 [61] s1).bind λ _ s2=>(vnumR s2).bind λ v s3=>(mustR 4 [59] s3).bind λ _ s4=>.ok (l++[⟨x.1,v,x.2⟩],true) s4
 else .ok (l,false) s
theorem vnameR_takes (k:Nat) (s:Ss):Takes 1 s (vnameR k s):=by
 unfold vnameR
 split
 ·exact Takes.bad _ _ _ _
 ·rename_i t r hs
  split
  ·split
   ·exact Takes.bad _ _ _ _
   ·exact .next (k:=0) hs (.ok _ _)
  ·exact wrongR_takes _ _ _
theorem vnumR_takes (s:Ss):Takes 1 s (vnumR s):=by
 unfold vnumR
 split
 ·exact ((Takes.bind (numR_takes _) λ _ _ _=>Takes.ok _ _).mono (by omega)).dropped
 ·exact numR_takes s
theorem varS_steps (l:List SyVar) (s:Ss):Steps s (varS l s):=by
 unfold varS
 split
 ·exact .of (((Takes.bind (vnameR_takes _ _) λ _ _ _=>Takes.bind (mustR_takes _ _ _) λ _ _ _=>Takes.bind (vnumR_takes _) λ _ _ _=>Takes.bind (mustR_takes _ _ _) λ _ _ _=>Takes.ok _ _).mono (by omega)).dropped)
 ·exact .stop _ _
theorem varS_goes:Goes varS:=goes_of varS_steps
def endR (c:SyChart) (s:Ss):Rs SyChart:=if kindOf s.ts=5 then .ok c s else wrongR s.ts
def chartR (s:Ss):Rs SyChart :=
 (mustR 2 wChart s).bind λ _ s1=>(namedR 12 s1).bind λ x s2=>(mustR 4 [123] s2).bind λ _ s3=>(It varS [] s3).bind λ l s4 =>
  (bodyR (nodeR 11) s4).bind λ z s5=>(mustR 4 [125] s5).bind λ _ s6=>endR ⟨l,nodeOf 1 x z⟩ s6
def syR (ts:List Tk):Rs SyChart:=chartR ⟨ts,0,0,0⟩
def Ss.er (s:Ss):Ss:=⟨s.ts.map Tk.er,s.n,s.m,s.a⟩
def Rs.er {α:Type} (f:α->α):Rs α->Rs α
 |.out=>.out
 |.bad c _=>.bad c 0
 |.ok x s=>.ok (f x) s.er
def SyVar.er (v:SyVar):SyVar:=⟨v.name,v.num,0⟩
def SyAct.er (x:SyAct):SyAct:=⟨x.kind,x.name,x.value.map Ex.er,0⟩
def SyMove.er (x:SyMove):SyMove:=⟨x.kind,x.event,x.wait,x.guarded,x.guard.map Ex.er,x.acts.map SyAct.er,x.targets,0⟩
mutual
def SyNode.er:SyNode->SyNode
 |.mk k n i d e l m kids _=>.mk k n i d (e.map SyAct.er) (l.map SyAct.er) (m.map SyMove.er) (SyNode.ers kids) 0
def SyNode.ers:List SyNode->List SyNode
 |[]=>[]
 |x::l=>x.er::SyNode.ers l
end
def SyChart.er (c:SyChart):SyChart:=⟨c.vars.map SyVar.er,c.root.er⟩
def SyB.er (b:SyB):SyB:=⟨b.initial,b.enter.map SyAct.er,b.leave.map SyAct.er,b.moves.map SyMove.er,b.hi,b.he,b.hl⟩
def tW (u:List UInt8):Tk:=⟨2,u,0,0⟩
def tN (u:List UInt8):Tk:=⟨1,u,0,0⟩
def tS (u:List UInt8):Tk:=⟨4,u,0,0⟩
def goN:List UInt8:=[103,111]
def xN:List UInt8:=[120]
def mvT (T:List Tk):List Tk:=tS [45,62]::tN xN::tS [59]::T
def eA (T:List Tk):List Tk:=tW wEnter::tS [123]::tS [125]::tW wOn::tN goN::mvT T
def eB (T:List Tk):List Tk:=tW wOn::tN goN::tS [123]::tS [125]::mvT T
def Lk (T:List Tk) (s s':Ss):Prop:=∃H,s.ts=H++eA T/\s'.ts=H++eB T/\s'.n=s.n/\s'.m=s.m/\s'.a=s.a
def Sim {α:Type} (T:List Tk) (e e':Rs α):Prop:=∀x s x' s',e=.ok x s->e'=.ok x' s'->x'=x/\(s'=s∨Lk T s s')
theorem Sim.refl {α:Type} {T:List Tk} (e:Rs α):Sim T e e:=λ x s x' s' h h'=>by
 rw [h] at h';injection h' with h1 h2;exact ⟨h1.symm,.inl h2.symm⟩
theorem Sim.bad {α:Type} {T:List Tk} {e e':Rs α} (h:∃c p,e=.bad c p):Sim T e e':=λ x s x' s' h1 _=>by
 obtain ⟨c,p,h⟩:=h;rw [h] at h1;cases h1
theorem Sim.ok {α:Type} {T:List Tk} (x:α) {s s':Ss} (h:Lk T s s'):Sim T (.ok x s) (.ok x s'):=λ y r y' r' h1 h2=>by
 injection h1 with a1 a2;injection h2 with b1 b2;subst a1 a2 b2;exact ⟨b1.symm,.inr h⟩
theorem Sim.bind {α β:Type} {T:List Tk} {e e':Rs α} {g g':α->Ss->Rs β} (h:Sim T e e') (hg:∀x s s',Lk T s s'->Sim T (g x s) (g' x s')) (he:∀x s,Sim T (g x s) (g' x s)):Sim T (e.bind g) (e'.bind g'):=λ y r y' r' h1 h2=>by
 obtain ⟨x,s,a1,a2⟩:=Rs.some h1;obtain ⟨x',s',b1,b2⟩:=Rs.some h2;obtain ⟨rfl,hs⟩:=h _ _ _ _ a1 b1;rcases hs with rfl|hs
 ·exact he _ _ _ _ _ _ a2 b2
 ·exact hg _ _ _ hs _ _ _ _ a2 b2
theorem wrong_bad {α:Type} (ts:List Tk):∃c p,(wrongR ts:Rs α)=.bad c p:=by
 cases ts with
 |nil=>exact ⟨_,_,rfl⟩
 |cons t r=>rw [wrongR_cons];split <;> exact ⟨_,_,rfl⟩
theorem Lk.next {T:List Tk} {s s':Ss} (h:Lk T s s') {t:Tk} {H:List Tk} (h1:s.ts=t::(H++eA T)) (h2:s'.ts=t::(H++eB T)) (n m a:Nat->Nat) :
  Lk T ⟨s.ts.tail,n s.n,m s.m,a s.a⟩ ⟨s'.ts.tail,n s'.n,m s'.m,a s'.a⟩:=by
 obtain ⟨_,_,_,hn,hm,ha⟩:=h;exact ⟨H,by rw [h1];rfl,by rw [h2];rfl,by rw [hn],by rw [hm],by rw [ha]⟩
theorem Lk.drop {T:List Tk} {s s':Ss} (h:Lk T s s') {t:Tk} {H:List Tk} (h1:s.ts=t::(H++eA T)) (h2:s'.ts=t::(H++eB T)):Lk T s.drop s'.drop:=h.next h1 h2 id id id
def Plain (k:Int) (u:List UInt8):Prop:=isTk k u (tW wEnter)=false/\isTk k u (tW wOn)=false
instance (k:Int) (u:List UInt8):Decidable (Plain k u):=inferInstanceAs (Decidable (_/\_))
def SyB.eqB (b b':SyB):Prop:=b'.initial=b.initial/\b'.enter=b.enter/\b'.leave=b.leave/\b'.moves=b.moves
theorem SyB.eqB.rfl (b:SyB):b.eqB b:=⟨Eq.refl _,Eq.refl _,Eq.refl _,Eq.refl _⟩
def rep (g:List Tk->List Tk):Nat->List Tk->List Tk
 |0,T=>T
 |k+1,T=>g (rep g k T)
def ScIs (l:List UInt8) (u:List Tk):Prop:=∀p acc,∃(v:List Tk) (q:Int),v.map Tk.er=u/\scT p acc l=(acc++v++[⟨5,[],0,q⟩],0,0)
def ScNo (l:List UInt8):Prop:=∀p acc,(scT p acc l).2.1≠0
def Ahead (d:List UInt8) (u:List Tk):Prop:=∀t p acc,∃(v:List Tk) (q:Nat),v.map Tk.er=u/\scT p acc (d++t)=scT q (acc++v) t
theorem Ahead.nil:Ahead [] []:=λ t p acc=>⟨[],p,rfl,by rw [List.append_nil];rfl⟩
theorem Ahead.append {d d':List UInt8} {u u':List Tk} (h:Ahead d u) (h':Ahead d' u'):Ahead (d++d') (u++u'):=λ t p acc=>by
 obtain ⟨v,q,h1,h2⟩:=h (d'++t) p acc;obtain ⟨v',q',k1,k2⟩:=h' t q (acc++v);exact ⟨v++v',q',by rw [List.map_append,h1,k1],by rw [a_,h2,k2,a_]⟩
theorem Ahead.is {d t:List UInt8} {u w:List Tk} (h:Ahead d u) (ht:ScIs t w):ScIs (d++t) (u++w):=λ p acc=>by
 obtain ⟨v,q,h1,h2⟩:=h t p acc;obtain ⟨v',q',k1,k2⟩:=ht q (acc++v);exact ⟨v++v',q',by rw [List.map_append,h1,k1],by rw [h2,k2];simp⟩
theorem Ahead.no {d t:List UInt8} {u:List Tk} (h:Ahead d u) (ht:ScNo t):ScNo (d++t):=λ p acc=>by
 obtain ⟨v,q,h1,h2⟩:=h t p acc;rw [h2];exact ht _ _
theorem scIs_nil:ScIs [] []:=λ p acc=>⟨[],_,rfl,by rw [scT_nil,List.append_nil]⟩
theorem Ahead.all {d:List UInt8} {u:List Tk} (h:Ahead d u):ScIs d u:=by
 have:=h.is scIs_nil
 rwa [List.append_nil,List.append_nil] at this
theorem Ahead.blank {c:UInt8} (hc:isBl c=true):Ahead [c] []:=λ t p acc=>⟨[],p+1,rfl,by rw [List.append_nil];exact scT_blank hc p acc t⟩
theorem Ahead.int {n:Int} (h0:0<=n) (h1:n<=9223372036854775807) {d:List UInt8} {w:List Tk} (hd:∃z y,d=z::y/\isWd z=false) (h:Ahead d w):Ahead (Lib.itoa n++d) (⟨3,[],n,0⟩::w):=λ t p acc=>by
 obtain ⟨z,y,rfl,hz⟩:=hd
 have hnw:NW (z::y++t):=λ c r e=>by
  rw [List.cons_append] at e;injection e with e _;rw [<-e];exact hz
 obtain ⟨v,q,k1,k2⟩:=h t (p+(Lib.itoa n).length) (acc++[⟨3,[],n,(p:Int)⟩]);refine ⟨⟨3,[],n,(p:Int)⟩::v,q,by rw [List.map_cons,k1];rfl,?_⟩;rw [a_,scT_int h0 h1 hnw,k2];simp
theorem Ahead.sign {c:UInt8} {d:List UInt8} {w:List Tk} (hl:isLt c=false) (hg:isDg c=false) (hb:∀t,blK false (c::t)=0) (hs:∀t,sgn (c::t)=1) (h:Ahead d w):Ahead (c::d) (⟨4,[c],0,0⟩::w):=λ t p acc=>by
 obtain ⟨v,q,h1,h2⟩:=h t (p+1) (acc++[⟨4,[c],0,(p:Int)⟩]);refine ⟨⟨4,[c],0,(p:Int)⟩::v,q,by rw [List.map_cons,h1];rfl,?_⟩;rw [List.cons_append,scT_sign hl hg (hb _) (hs _) (by decide)];show scT (p+1) (acc++[⟨4,[c],0,(p:Int)⟩]) (d++t)=_;rw [h2];simp
def syF (l:List UInt8):Rs SyChart:=if (scF l).2.1=0 then syR (scF l).1 else .bad (scF l).2.1 (scF l).2.2
def Rs.code {α:Type}:Rs α->Int
 |.out=>-1
 |.bad c _=>c
 |.ok _ _=>0
end Go.Proofs.YtpgeidpfhakgaaaGreatDoor
namespace Go.Proofs.YtpgeidpfhakgaaaGreatDoor
open Go.RowKit
def TkSrc (w:World) (A:Option Addr) (n:Nat) (xs:List Tk):Prop:=xs.length=n/\∀(i:Nat) (t:Tk),xs[i]?=some t->∃g,A=some ⟨g,0,none⟩ /\
 w.cell? ⟨g,i*4,none⟩=some (.int .i64 t.kind)/\w.cell? ⟨g,i*4+1,none⟩=some (txV t.text)/\w.cell? ⟨g,i*4+2,none⟩=some (.int .i64 t.num)/\w.cell? ⟨g,i*4+3,none⟩=some (.int .i64 t.at_)
theorem tkCs_at:∀(xs:List Tk) (i:Nat) (t:Tk),xs[i]?=some t->(tkCs xs)[i*4]?=some (.int .i64 t.kind)/\(tkCs xs)[i*4+1]?=some (txV t.text)/\(tkCs xs)[i*4+2]?=some (.int .i64 t.num)/\(tkCs xs)[i*4+3]?=some (.int .i64 t.at_)
 |[],i,t,h=>by simp at h
 |x::xs,0,t,h=>by
  have:x=t:=by simpa using h
  subst this;simp [tkCs,tkC]
 |x::xs,i+1,t,h=>by
  have ih:=tkCs_at xs i t (by simpa using h)
  have e:tkCs (x::xs)=tkC x++tkCs xs:=by simp [tkCs]
  have e2:∀j,(tkCs (x::xs))[(i+1)*4+j]?=(tkCs xs)[i*4+j]?:=λ j=>by
   rw [e,List.getElem?_append_right (by simp [tkC];omega)]
   congr 1
   simp [tkC];omega
  refine ⟨?_,?_,?_,?_⟩
  ·have:=e2 0;rw [Nat.add_zero,Nat.add_zero] at this;rw [this];exact ih.1
  ·rw [e2];exact ih.2.1
  ·rw [e2];exact ih.2.2.1
  ·rw [e2];exact ih.2.2.2
theorem TkRow.src {w:World} {B:Nat} {v:Value} {xs:List Tk} (h:TkRow w B v xs):∃A c,v=.slice A xs.length c/\xs.length<=c/\c<=maxLen/\(A=none->c=0)/\TkSrc w A xs.length xs:=by
 rcases h.2 with ⟨rfl,h0⟩|⟨g,cap,cur,rfl,hb,hh,hc,hm,hs,ht⟩
 ·refine ⟨none,0,by rw [h0],by omega,by unfold maxLen;omega,λ _=>rfl,rfl,λ i t hi=>?_⟩;have:=(List.getElem?_eq_some_iff.1 hi).1;omega
 ·refine ⟨some ⟨g,0,none⟩,cap,rfl,hc,hm,(λ h=>nomatch h),rfl,λ i t hi=>⟨g,rfl,?_⟩⟩;have hl:=(List.getElem?_eq_some_iff.1 hi).1
  have e:∀j u,j<4->(tkCs xs)[i*4+j]?=some u->w.cell? ⟨g,i*4+j,none⟩=some u:=λ j u hj hu=>by
   rw [cell_of_row w g _ cur _ _ hh,<-hu,<-ht,List.getElem?_take,if_pos (by omega)];simp
  have hx:=tkCs_at xs i t hi;exact ⟨e 0 _ (by omega) hx.1,e 1 _ (by omega) hx.2.1,e 2 _ (by omega) hx.2.2.1,e 3 _ (by omega) hx.2.2.2⟩
theorem TkSrc.below {w w':World} {A:Option Addr} {n:Nat} {xs:List Tk} (h:TkSrc w A n xs) (hb:Below w.heap.size w w'):TkSrc w' A n xs :=
 ⟨h.1,λ i t hi=>by
  obtain ⟨g,e,h0,h1,h2,h3⟩:=h.2 i t hi
  exact ⟨g,e,by rw [hb.cell (World.block_lt_of_cell? w _ h0)];exact h0,by rw [hb.cell (World.block_lt_of_cell? w _ h1)];exact h1,by rw [hb.cell (World.block_lt_of_cell? w _ h2)];exact h2,by rw [hb.cell (World.block_lt_of_cell? w _ h3)];exact h3⟩⟩
theorem TkSrc.take {w:World} {A:Option Addr} {n:Nat} {xs:List Tk} (h:TkSrc w A n xs) {k:Nat} (hk:k<=n):TkSrc w A k (xs.take k) :=
 ⟨by rw [List.length_take,h.1];omega,λ i t hi=>h.2 i t (by
  rw [List.getElem?_take] at hi
  split at hi
  ·exact hi
  ·cases hi)⟩
end Go.Proofs.YtpgeidpfhakgaaaGreatDoor
namespace Go.Proofs.YtpgeidpfhakgaaaGreatDoor
open Go.RowKit
def TkAt (w:World) (A:Option Addr) (n:Nat) (xs:List Tk):Prop:=xs.length=n/\∀(i:Nat) (t:Tk),xs[i]?=some t->∃g o,A=some ⟨g,o,none⟩ /\
 w.cell? ⟨g,o+i*4,none⟩=some (.int .i64 t.kind)/\w.cell? ⟨g,o+i*4+1,none⟩=some (txV t.text)/\w.cell? ⟨g,o+i*4+2,none⟩=some (.int .i64 t.num)/\w.cell? ⟨g,o+i*4+3,none⟩=some (.int .i64 t.at_)
theorem TkSrc.at {w:World} {A:Option Addr} {n:Nat} {xs:List Tk} (h:TkSrc w A n xs):TkAt w A n xs :=
 ⟨h.1,λ i t hi=>by
  obtain ⟨g,e,h0,h1,h2,h3⟩:=h.2 i t hi
  exact ⟨g,0,e,by rw [Nat.zero_add];exact h0,by rw [Nat.zero_add];exact h1,by rw [Nat.zero_add];exact h2,by rw [Nat.zero_add];exact h3⟩⟩
def RdB (w:World) (b:Nat) (A:Option Addr) (n c:Nat) (q d:Nat) (code pos:Int):Prop:=w.heap[b]?=some (.cells #[.slice A n c,.int .i64 (q:Int),.int .i64 (d:Int),.int .i64 code,.int .i64 pos] 241 (0,0))
section
variable {w w':World} {b n c q d:Nat} {A:Option Addr} {code pos:Int}
theorem RdB.lt (h:RdB w b A n c q d code pos):b<w.heap.size:=by
 rcases Nat.lt_or_ge b w.heap.size with hlt|hge
 ·exact hlt
 ·unfold RdB at h;rw [Array.getElem?_eq_none hge] at h;cases h
theorem RdB.c0 (h:RdB w b A n c q d code pos):w.cell? ⟨b,0,none⟩=some (.slice A n c):=cell_of_row w b 0 _ _ _ h
theorem RdB.c1 (h:RdB w b A n c q d code pos):w.cell? ⟨b,1,none⟩=some (.int .i64 (q:Int)):=cell_of_row w b 1 _ _ _ h
theorem RdB.c2 (h:RdB w b A n c q d code pos):w.cell? ⟨b,2,none⟩=some (.int .i64 (d:Int)):=cell_of_row w b 2 _ _ _ h
theorem RdB.c3 (h:RdB w b A n c q d code pos):w.cell? ⟨b,3,none⟩=some (.int .i64 code):=cell_of_row w b 3 _ _ _ h
theorem RdB.c4 (h:RdB w b A n c q d code pos):w.cell? ⟨b,4,none⟩=some (.int .i64 pos):=cell_of_row w b 4 _ _ _ h
theorem RdB.fr (h:RdB w b A n c q d code pos) (i:Nat):w.frozen? ⟨b,i,none⟩=false:=by
 unfold RdB at h;simp [World.frozen?,h]
theorem RdB.below (h:RdB w b A n c q d code pos) (hb:Below w.heap.size w w'):RdB w' b A n c q d code pos:=(hb.block b h.lt).trans h
theorem RdB.alloc (h:RdB w b A n c q d code pos) (o:Obj):RdB (w.alloc o) b A n c q d code pos:=(Below.heap_alloc w o b h.lt).trans h
theorem RdB.mv {g:Nat} (h:RdB w b A n c q d code pos) (hb:Mv g w w') (hn:b≠g):RdB w' b A n c q d code pos:=(hb.block h.lt hn).trans h
theorem RdB.set1 (h:RdB w b A n c q d code pos) (q':Nat):RdB (w.setCell ⟨b,1,none⟩ (.int .i64 (q':Int))) b A n c q' d code pos:=heap_setCell_same w b 1 _ _ _ h
theorem RdB.set2 (h:RdB w b A n c q d code pos) (d':Nat):RdB (w.setCell ⟨b,2,none⟩ (.int .i64 (d':Int))) b A n c q d' code pos:=heap_setCell_same w b 2 _ _ _ h
end
theorem Mv.drew {b:Nat} {w w':World} (h:Mv b w w'):Mv b w w'.drew:=h.trans ⟨rfl,rfl,rfl,n_ _,λ _ _ _=>rfl⟩
theorem TkAt.get {w:World} {A:Option Addr} {n:Nat} {xs:List Tk} (h:TkAt w A n xs) {q:Nat} (hq:q<n):∃t,xs[q]?=some t:=⟨_,List.getElem?_eq_getElem (by rw [h.1];exact hq)⟩
def wrC (t:Tk):Int:=if t.kind=5 then 3 else 4
theorem TkAt.below {w w':World} {A:Option Addr} {n:Nat} {xs:List Tk} (h:TkAt w A n xs) (hb:Below w.heap.size w w'):TkAt w' A n xs :=
 ⟨h.1,λ i t hi=>by
  obtain ⟨g,o,e,h0,h1,h2,h3⟩:=h.2 i t hi
  exact ⟨g,o,e,by rw [hb.cell (World.block_lt_of_cell? w _ h0)];exact h0,by rw [hb.cell (World.block_lt_of_cell? w _ h1)];exact h1,by rw [hb.cell (World.block_lt_of_cell? w _ h2)];exact h2,by rw [hb.cell (World.block_lt_of_cell? w _ h3)];exact h3⟩⟩
def RowsAt (w:World) (g:Nat) (f:List UInt8×Int->Value):Prop:=∀k,k<6->∃gk,w.cell? ⟨g,k,none⟩=some (.slice (some ⟨gk,0,none⟩) (rowOps k).length (rowOps k).length)/\∀(i:Nat) (o:List UInt8×Int),(rowOps k)[i]?=some o->w.cell? ⟨gk,i,none⟩=some (f o)
theorem RowsAt.below {w w':World} {g:Nat} {f:List UInt8×Int->Value} (h:RowsAt w g f) (hb:Below w.heap.size w w'):RowsAt w' g f:=λ k hk=>by
 obtain ⟨gk,h1,h2⟩:=h k hk;exact ⟨gk,by rw [hb.cell (World.block_lt_of_cell? w _ h1)];exact h1,λ i o ho=>by rw [hb.cell (World.block_lt_of_cell? w _ (h2 i o ho))];exact h2 i o ho⟩
theorem find_yes {α:Type} {p:α->Bool}:∀{l:List α} {i:Nat} {o:α},l[i]?=some o->p o=true->(∀j x,j<i->l[j]?=some x->p x=false)->l.find? p=some o
 |[],i,o,h,_,_=>by simp at h
 |x::l,0,o,h,hp,_=>by
  have:x=o:=by simpa using h
  subst this;rw [List.find?_cons,hp]
 |x::l,i+1,o,h,hp,hn=>by
  rw [List.find?_cons,hn 0 x (by omega) rfl];exact find_yes (by simpa using h) hp (λ j y hj hy=>hn (j+1) y (by omega) (by simpa using hy))
theorem find_no {α:Type} {p:α->Bool} {l:List α} (h:∀j x,j<l.length->l[j]?=some x->p x=false):l.find? p=none:=by
 rw [List.find?_eq_none];intro x hx;obtain ⟨j,hj⟩:=List.getElem?_of_mem hx;rw [h j x ((List.getElem?_eq_some_iff.1 hj).1) hj];decide
theorem rowOps_len (k:Nat):(rowOps k).length<=4:=by
 match k with
 |0=>decide
 |1=>decide
 |2=>decide
 |3=>decide
 |4=>decide
 |5=>decide
 |k+6=>simp [rowOps]
def XpB (w:World) (g:Nat) (v:EV):Prop:=w.heap[g]?=some (.cells #[.int .i64 v.kind,.int .i64 v.num,.string v.name,.int .i64 v.op,.slice v.A v.len v.cap,.int .i64 v.p] 40 (0,0))
def ev0:EV:=⟨0,0,⟨#[]⟩,0,none,0,0,0⟩
section
variable {w w':World} {g:Nat} {v:EV}
theorem XpB.lt (h:XpB w g v):g<w.heap.size:=by
 rcases Nat.lt_or_ge g w.heap.size with hlt|hge
 ·exact hlt
 ·unfold XpB at h;rw [Array.getElem?_eq_none hge] at h;cases h
theorem XpB.c0 (h:XpB w g v):w.cell? ⟨g,0,none⟩=some (.int .i64 v.kind):=cell_of_row w g 0 _ _ _ h
theorem XpB.c1 (h:XpB w g v):w.cell? ⟨g,1,none⟩=some (.int .i64 v.num):=cell_of_row w g 1 _ _ _ h
theorem XpB.c2 (h:XpB w g v):w.cell? ⟨g,2,none⟩=some (.string v.name):=cell_of_row w g 2 _ _ _ h
theorem XpB.c3 (h:XpB w g v):w.cell? ⟨g,3,none⟩=some (.int .i64 v.op):=cell_of_row w g 3 _ _ _ h
theorem XpB.c4 (h:XpB w g v):w.cell? ⟨g,4,none⟩=some (.slice v.A v.len v.cap):=cell_of_row w g 4 _ _ _ h
theorem XpB.c5 (h:XpB w g v):w.cell? ⟨g,5,none⟩=some (.int .i64 v.p):=cell_of_row w g 5 _ _ _ h
theorem XpB.fr (h:XpB w g v) (i:Nat):w.frozen? ⟨g,i,none⟩=false:=by
 unfold XpB at h;simp [World.frozen?,h]
theorem XpB.below (h:XpB w g v) (hb:Below w.heap.size w w'):XpB w' g v:=(hb.block g h.lt).trans h
theorem XpB.alloc (h:XpB w g v) (o:Obj):XpB (w.alloc o) g v:=(Below.heap_alloc w o g h.lt).trans h
theorem XpB.mv {b:Nat} (h:XpB w g v) (hb:Mv b w w') (hn:g≠b):XpB w' g v:=(hb.block h.lt hn).trans h
theorem XpB.new (w:World) (v:EV):XpB (w.alloc (.cells #[.int .i64 v.kind,.int .i64 v.num,.string v.name,.int .i64 v.op,.slice v.A v.len v.cap,.int .i64 v.p] 40)) w.heap.size v:=heap_alloc_new w _
def six (w:World) (g:Nat) (u:EV):World:=(((((w.setCell ⟨g,0,none⟩ (.int .i64 u.kind)).setCell ⟨g,1,none⟩ (.int .i64 u.num)).setCell ⟨g,2,none⟩ (.string u.name)).setCell ⟨g,3,none⟩ (.int .i64 u.op)).setCell ⟨g,4,none⟩ (.slice u.A u.len u.cap)).setCell ⟨g,5,none⟩ (.int .i64 u.p)
theorem XpB.all (h:XpB w g v) (u:EV):XpB (six w g u) g u:=by
 have h0:=heap_setCell_same w g 0 _ _ (.int .i64 u.kind) h;have h1:=heap_setCell_same _ g 1 _ _ (.int .i64 u.num) h0;have h2:=heap_setCell_same _ g 2 _ _ (.string u.name) h1;have h3:=heap_setCell_same _ g 3 _ _ (.int .i64 u.op) h2;have h4:=heap_setCell_same _ g 4 _ _ (.slice u.A u.len u.cap) h3;exact heap_setCell_same _ g 5 _ _ (.int .i64 u.p) h4
theorem six_mv (w:World) (g:Nat) (u:EV):Mv g w (six w g u):=((((((Mv.refl g w).set 0 _).set 1 _).set 2 _).set 3 _).set 4 _).set 5 _
theorem six_put {b:Nat} {u0:World} (h:Mv b u0 w) (hg:u0.heap.size<=g) (u:EV):Mv b u0 (six w g u):=(((((h.put 0 g hg _).put 1 g hg _).put 2 g hg _).put 3 g hg _).put 4 g hg _).put 5 g hg _
theorem XpB.load (h:XpB w g v):(loadVar 40 ⟨g,0,none⟩).run Tryz.prog w=.ok v.val w :=
 run_loadVar_row w g _ _ _ _ _ h Tryz.underlying40 rfl (by kernel_rfl)
theorem XpB.res {fn:Func} {p:Tmp} (hr:fn.results=#[.cell p 40]) (tmps:Array Value) (hp:tmps.getD p undef=.pointer (some ⟨g,0,none⟩)) (h:XpB w g v) :
  (results fn tmps).run Tryz.prog w=.ok v.val w:=by
 have hp':tmps[p]?.getD undef=.pointer (some ⟨g,0,none⟩):=by simpa using hp
 simp [results,hr,hp',asAddr,h.load]
end
theorem GV.mv {w w':World} {lo b:Nat} {x:GX} {v:EV} (h:GV w lo w.heap.size x v) (hm:Mv b w w') (hb:b<lo):GV w' lo w'.heap.size x v :=
 (h.same (λ g h1 h2=>hm.block h2 (by omega))).mono (n_ _) (World.grownBy.size hm)
theorem TkAt.mv {w w':World} {A:Option Addr} {n b:Nat} {xs:List Tk} (h:TkAt w A n xs) (hm:Mv b w w') (hn:∀g o,A=some ⟨g,o,none⟩->g≠b):TkAt w' A n xs :=
 ⟨h.1,λ i t hi=>by
  obtain ⟨g,o,e,h0,h1,h2,h3⟩:=h.2 i t hi;have hb:w'.heap[g]?=w.heap[g]?:=hm.block (World.block_lt_of_cell? w _ h0) (hn g o e);have e':∀j,w'.cell? ⟨g,j,none⟩=w.cell? ⟨g,j,none⟩:=λ j=>World.cell?_of_block (w:=w) hb
  exact ⟨g,o,e,by rw [e'];exact h0,by rw [e'];exact h1,by rw [e'];exact h2,by rw [e'];exact h3⟩⟩
def RP (w':World) (lo b n c d:Nat) (A:Option Addr) (xs:List Tk) (v:EV):PR->Prop
 |.out=>False
 |.ok x r=>GV w' lo w'.heap.size x.gx v/\TkEnds r/\∃q,q<n/\xs.drop q=r/\RdB w' b A n c q d 0 0
 |.bad code p=>code≠0/\∃q,q<n/\RdB w' b A n c q d code p
theorem wrC_ne (t:Tk):wrC t≠0:=by unfold wrC;split <;> decide
theorem wrongAt_eq (t:Tk):wrongAt t=.bad (wrC t) t.at_:=by unfold wrongAt wrC;split <;> rfl
theorem drop_get {xs r:List Tk} {q:Nat} {t:Tk} (h:xs.drop q=t::r):xs[q]?=some t/\q<xs.length/\xs.drop (q+1)=r:=by
 have hq:q<xs.length:=by
  rcases Nat.lt_or_ge q xs.length with h1|h1
  ·exact h1
  ·rw [List.drop_of_length_le h1] at h;cases h
 rw [List.drop_eq_getElem_cons hq] at h;injection h with h1 h2;exact ⟨by rw [List.getElem?_eq_getElem hq,h1],hq,h2⟩
theorem ends_cons {l:List Tk} (h:TkEnds l):∃t r,l=t::r:=by
 cases l with
 |nil=>exact absurd rfl h.ne
 |cons t r=>exact ⟨t,r,rfl⟩
theorem RP.rd {w':World} {lo b n c d:Nat} {A:Option Addr} {xs:List Tk} {v:EV} {e:PR} (h:RP w' lo b n c d A xs v e):∃q code pos,q<n/\RdB w' b A n c q d code pos:=by
 cases e with
 |out=>exact absurd h (by intro h;exact h)
 |ok x r=>obtain ⟨_,_,q,hq,_,hr⟩:=h;exact ⟨q,0,0,hq,hr⟩
 |bad code p=>obtain ⟨_,q,hq,hr⟩:=h;exact ⟨q,code,p,hq,hr⟩
def xob (v:EV):Obj:=.cells #[.int .i64 v.kind,.int .i64 v.num,.string v.name,.int .i64 v.op,.slice v.A v.len v.cap,.int .i64 v.p] 40
theorem RP.one {W:World} {lo lo' b n c d g:Nat} {A:Option Addr} {xs:List Tk} {v:EV} {e:PR} (h:RP W lo' b n c (d+1) A xs v e) (hb:b<lo') (hg:g<lo') (hlo:lo<=lo') (h5:lo'<=W.heap.size) (hne:b≠g) (op p:Int) :
  RP (six (((W.setCell ⟨b,2,none⟩ (.int .i64 (d:Int))).alloc (xob v)).alloc (xob v)) g ⟨4,0,⟨#[]⟩,op,some ⟨W.heap.size+1,0,none⟩,1,1,p⟩) lo b n c d A xs ⟨4,0,⟨#[]⟩,op,some ⟨W.heap.size+1,0,none⟩,1,1,p⟩
   (e.andThen λ x r'=>.ok (.one op x p) r'):=by
 cases e with
 |out=>exact absurd h (by intro h;exact h)
 |bad code q =>
  obtain ⟨hc,q',hq,hr⟩:=h;exact ⟨hc,q',hq,(((hr.set2 d).alloc _).alloc _).mv (six_mv _ g _) hne⟩
 |ok x r =>
  obtain ⟨hv,he,q',hq,hx,hr⟩:=h;refine ⟨?_,he,q',hq,hx,(((hr.set2 d).alloc _).alloc _).mv (six_mv _ g _) hne⟩;have hm:Mv b W (W.setCell ⟨b,2,none⟩ (.int .i64 (d:Int))):=(Mv.refl b W).set 2 _;have h1:=hv.mv hm hb;have hs1:=World.grownBy.size hm
  obtain ⟨W1,hW1⟩:∃W1,W1=W.setCell ⟨b,2,none⟩ (.int .i64 (d:Int)):=⟨_,rfl⟩
  have hsz:W1.heap.size=W.heap.size:=by rw [hW1];simp [World.setCell]
  rw [<-hW1] at h1 hs1 ⊢;have h2:GV (W1.alloc (xob v)) lo' (W1.alloc (xob v)).heap.size x.gx v:=(h1.below ((b_ _ W1).alloc (n_ _) _) (n_ _)).mono (n_ _) (by simp)
  have hsz2:(W1.alloc (xob v)).heap.size=W.heap.size+1:=by simp [hsz]
  have h3:=h2.one_new (by omega) 40 op p;rw [hsz2] at h3
  have h4:GV ((W1.alloc (xob v)).alloc (xob v)) lo' ((W1.alloc (xob v)).alloc (xob v)).heap.size (.mk 4 0 [] op [x.gx] p) ⟨4,0,⟨#[]⟩,op,some ⟨W.heap.size+1,0,none⟩,1,1,p⟩:=by
   have e:((W1.alloc (xob v)).alloc (xob v)).heap.size=W.heap.size+1+1:=by simp [hsz]
   rw [e];exact h3
  exact (h4.mv (six_mv _ g _) hg).mono hlo (n_ _)
theorem RP.put {W:World} {lo lo' b n c d g:Nat} {A:Option Addr} {xs:List Tk} {v:EV} {e:PR} (h:RP W lo' b n c d A xs v e) (hg:g<lo') (hlo:lo<=lo') (hne:b≠g):RP (six W g v) lo b n c d A xs v e:=by
 cases e with
 |out=>exact absurd h (by intro h;exact h)
 |bad code q =>
  obtain ⟨hc,q',hq,hr⟩:=h;exact ⟨hc,q',hq,hr.mv (six_mv _ g _) hne⟩
 |ok x r =>
  obtain ⟨hv,he,q',hq,hx,hr⟩:=h;exact ⟨(hv.mv (six_mv _ g _) hg).mono hlo (n_ _),he,q',hq,hx,hr.mv (six_mv _ g _) hne⟩
theorem RP.alloc {W:World} {lo b n c d:Nat} {A:Option Addr} {xs:List Tk} {v:EV} {e:PR} (h:RP W lo b n c d A xs v e) (ob:Obj):RP (W.alloc ob) lo b n c d A xs v e:=by
 cases e with
 |out=>exact absurd h (by intro h;exact h)
 |bad code q =>
  obtain ⟨hc,q',hq,hr⟩:=h;exact ⟨hc,q',hq,hr.alloc _⟩
 |ok x r =>
  obtain ⟨hv,he,q',hq,hx,hr⟩:=h;exact ⟨(hv.below ((b_ _ W).alloc (n_ _) _) (n_ _)).mono (n_ _) (by simp),he,q',hq,hx,hr.alloc _⟩
theorem RP.up {W:World} {lo b n c d:Nat} {A:Option Addr} {xs:List Tk} {v:EV} {e:PR} (h:RP W lo b n c (d+1) A xs v e) (hb:b<lo):RP (W.setCell ⟨b,2,none⟩ (.int .i64 (d:Int))) lo b n c d A xs v e:=by
 cases e with
 |out=>exact absurd h (by intro h;exact h)
 |bad code q =>
  obtain ⟨hc,q',hq,hr⟩:=h;exact ⟨hc,q',hq,hr.set2 d⟩
 |ok x r =>
  obtain ⟨hv,he,q',hq,hx,hr⟩:=h;exact ⟨hv.mv ((Mv.refl b W).set 2 _) hb,he,q',hq,hx,hr.set2 d⟩
theorem RP.below {W W':World} {lo b n c d:Nat} {A:Option Addr} {xs:List Tk} {v:EV} {e:PR} (h:RP W lo b n c d A xs v e) (hb:Below W.heap.size W W'):RP W' lo b n c d A xs v e:=by
 cases e with
 |out=>exact absurd h (by intro h;exact h)
 |bad code q =>
  obtain ⟨hc,q',hq,hr⟩:=h;exact ⟨hc,q',hq,hr.below hb⟩
 |ok x r =>
  obtain ⟨hv,he,q',hq,hx,hr⟩:=h;exact ⟨(hv.below hb (n_ _)).mono (n_ _) hb.size,he,q',hq,hx,hr.below hb⟩
def opN (k:Nat):PR->Int
 |.ok _ r=>opAt k r
 |_=>0
theorem GV.pos {w:World} {lo hi:Nat}:∀{x:GX} {v:EV},GV w lo hi x v->v.p=x.p
 |.mk _ _ _ _ _ _,_,h=>by
  unfold GV at h;exact h.2.2.2.2.1
def xob2 (v u:EV):Obj:=.cells #[.int .i64 v.kind,.int .i64 v.num,.string v.name,.int .i64 v.op,.slice v.A v.len v.cap,.int .i64 v.p,.int .i64 u.kind,.int .i64 u.num,.string u.name,.int .i64 u.op,.slice u.A u.len u.cap,.int .i64 u.p] 40
theorem RP.both {W:World} {lo lo' b n c d:Nat} {A:Option Addr} {xs:List Tk} {x:Ex} {v u:EV} {e:PR} (hx:GV W lo W.heap.size x.gx v) (h:RP W lo' b n c d A xs u e) (hlo:lo<=lo') (h5:lo'<=W.heap.size) (op:Int) :
  RP (W.alloc (xob2 v u)) lo b n c d A xs ⟨5,0,⟨#[]⟩,op,some ⟨W.heap.size,0,none⟩,2,2,v.p⟩ (e.andThen λ y r=>.ok (.both op x y) r):=by
 cases e with
 |out=>exact absurd h (by intro h;exact h)
 |bad code q =>
  obtain ⟨hc,q',hq,hr⟩:=h;exact ⟨hc,q',hq,hr.alloc _⟩
 |ok y r =>
  obtain ⟨hv,he,q',hq,hd,hr⟩:=h;refine ⟨?_,he,q',hq,hd,hr.alloc _⟩;have h1:=hx.both_new (hv.mono hlo (n_ _)) (Nat.le_trans hlo h5) 40 op v.p
  have e:(W.alloc (xob2 v u)).heap.size=W.heap.size+1:=by simp
  rw [e];have hp:=hx.pos;rw [gx_p] at hp;show GV _ lo _ (.mk 5 0 [] op [x.gx,y.gx] x.pos) _;rw [<-hp];exact h1
theorem opN_more {k d:Nat} (hk:k<6) {x:Ex} {r:List Tk} (h:opN k (.ok x r)≠0):Pm k d x r=((Pf (k+1) d r.tail).andThen λ y r'=>.ok (.both (opN k (.ok x r)) x y) r').andThen λ z r'=>Pm k d z r':=by
 have h':¬opAt k r=0:=h;rw [Pm_eq hk,if_neg h'];show _=((Pf (k+1) d r.tail).andThen λ y r'=>.ok (.both (opAt k r) x y) r').andThen _
 cases Pf (k+1) d r.tail <;> rfl
theorem opN_none {k d:Nat} (hk:k<6) {e:PR} (h:opN k e=0):(e.andThen λ z r=>Pm k d z r)=e:=by
 cases e with
 |out=>rfl
 |bad _ _=>rfl
 |ok x r =>
  show Pm k d x r=_;rw [Pm_eq hk,if_pos (show opAt k r=0 from h)]
def NX (w:World) (lo g:Nat) (x:GX) (v:EV):Prop:=∀W':World,(∀i,lo<=i->i<w.heap.size->i≠g->W'.heap[i]?=w.heap[i]?)->GV W' lo w.heap.size x v
theorem NX.gv {w:World} {lo g:Nat} {x:GX} {v:EV} (h:NX w lo g x v):GV w lo w.heap.size x v:=h w (λ _ _ _ _=>rfl)
theorem NX.new {W:World} {lo:Nat} {x:GX} {v:EV} (h:GV W lo W.heap.size x v) (ob:Obj):NX (W.alloc ob) lo W.heap.size x v:=λ W' hs =>
 (h.same (λ i h1 h2=>(hs i h1 (by simp;omega) (by omega)).trans (Below.heap_alloc W ob i h2))).mono (n_ _) (by simp)
theorem NX.mv {w w':World} {lo g b:Nat} {x:GX} {v:EV} (h:NX w lo g x v) (hm:Mv b w w') (hb:b<lo∨b=g):NX w' lo g x v:=λ W' hs=>by
 have hsz:=World.grownBy.size hm;exact (h W' (λ i h1 h2 h3=>(hs i h1 (by omega) h3).trans (hm.block h2 (by omega)))).mono (n_ _) hsz
theorem NX.both {W:World} {lo lo' g:Nat} {x y:GX} {v u:EV} (hx:NX W lo g x v) (hy:GV W lo' W.heap.size y u) (hg:g<lo') (hlo:lo<=lo') (h5:lo'<=W.heap.size) (op p:Int) :
  NX (W.alloc (xob2 v u)) lo g (.mk 5 0 [] op [x,y] p) ⟨5,0,⟨#[]⟩,op,some ⟨W.heap.size,0,none⟩,2,2,p⟩:=λ W' hs=>by
 have e:(W.alloc (xob2 v u)).heap.size=W.heap.size+1:=by simp
 rw [e] at hs ⊢;have ha:W'.heap[W.heap.size]?=some (xob2 v u):=(hs _ (by omega) (by omega) (by omega)).trans (heap_alloc_new W _);have hs':∀i,lo<=i->i<W.heap.size->i≠g->W'.heap[i]?=W.heap[i]?:=λ i h1 h2 h3=>(hs i h1 (by omega) h3).trans (Below.heap_alloc W _ i h2);have h1:=(hx W' hs').mono (n_ lo) (Nat.le_succ _);have h2:=((hy.same (λ i h1 h2=>hs' i (by omega) h2 (by omega)))).mono hlo (Nat.le_succ _);unfold xob2 at ha;unfold GV;refine ⟨rfl,rfl,rfl,rfl,rfl,rfl,n_ _,(by decide:2<=maxLen),?_⟩;unfold GRow GRow GRow;refine ⟨⟨W.heap.size,0,v,rfl,by omega,by omega,?_,h1⟩,⟨W.heap.size,0,u,rfl,by omega,by omega,?_,h2⟩,trivial⟩
 ·exact ⟨cell_of_row W' _ 0 _ _ _ ha,cell_of_row W' _ 1 _ _ _ ha,cell_of_row W' _ 2 _ _ _ ha,cell_of_row W' _ 3 _ _ _ ha,cell_of_row W' _ 4 _ _ _ ha,cell_of_row W' _ 5 _ _ _ ha⟩
 ·exact ⟨cell_of_row W' _ 6 _ _ _ ha,cell_of_row W' _ 7 _ _ _ ha,cell_of_row W' _ 8 _ _ _ ha,cell_of_row W' _ 9 _ _ _ ha,cell_of_row W' _ 10 _ _ _ ha,cell_of_row W' _ 11 _ _ _ ha⟩
def RX (w':World) (lo b n c d g:Nat) (A:Option Addr) (xs:List Tk) (v:EV):PR->Prop
 |.out=>False
 |.ok x r=>NX w' lo g x.gx v/\TkEnds r/\∃q,q<n/\xs.drop q=r/\RdB w' b A n c q d 0 0
 |.bad code p=>code≠0/\∃q,q<n/\RdB w' b A n c q d code p
section
variable {W W':World} {lo lo' b n c d g:Nat} {A:Option Addr} {xs:List Tk} {v u:EV} {e:PR}
theorem RX.new (h:RP W lo b n c d A xs v e) (ob:Obj):RX (W.alloc ob) lo b n c d W.heap.size A xs v e:=by
 cases e with
 |out=>exact absurd h (by intro h;exact h)
 |bad code q=>obtain ⟨hc,q',hq,hr⟩:=h;exact ⟨hc,q',hq,hr.alloc _⟩
 |ok x r=>obtain ⟨hv,he,q',hq,hx,hr⟩:=h;exact ⟨NX.new hv ob,he,q',hq,hx,hr.alloc _⟩
theorem RX.mv {b':Nat} (h:RX W lo b n c d g A xs v e) (hm:Mv b' W W') (hb:b'=g) (hne:b≠b'):RX W' lo b n c d g A xs v e:=by
 cases e with
 |out=>exact absurd h (by intro h;exact h)
 |bad code q=>obtain ⟨hc,q',hq,hr⟩:=h;exact ⟨hc,q',hq,hr.mv hm hne⟩
 |ok x r=>obtain ⟨hv,he,q',hq,hx,hr⟩:=h;exact ⟨hv.mv hm (.inr hb),he,q',hq,hx,hr.mv hm hne⟩
theorem RX.below (h:RX W lo b n c d g A xs v e) (hb:Below W.heap.size W W') (hbl:b<lo):RX W' lo b n c d g A xs v e:=by
 cases e with
 |out=>exact absurd h (by intro h;exact h)
 |bad code q=>obtain ⟨hc,q',hq,hr⟩:=h;exact ⟨hc,q',hq,hr.below hb⟩
 |ok x r=>obtain ⟨hv,he,q',hq,hx,hr⟩:=h;exact ⟨hv.mv (Mv.of b hb) (.inl hbl),he,q',hq,hx,hr.below hb⟩
theorem RX.both {x:Ex} (hx:NX W lo g x.gx v) (h:RP W lo' b n c d A xs u e) (hg:g<lo') (hlo:lo<=lo') (h5:lo'<=W.heap.size) (op:Int) :
  RX (W.alloc (xob2 v u)) lo b n c d g A xs ⟨5,0,⟨#[]⟩,op,some ⟨W.heap.size,0,none⟩,2,2,v.p⟩ (e.andThen λ y r=>.ok (.both op x y) r):=by
 cases e with
 |out=>exact absurd h (by intro h;exact h)
 |bad code q=>obtain ⟨hc,q',hq,hr⟩:=h;exact ⟨hc,q',hq,hr.alloc _⟩
 |ok y r =>
  obtain ⟨hv,he,q',hq,hd,hr⟩:=h;refine ⟨?_,he,q',hq,hd,hr.alloc _⟩;have hp:=hx.gv.pos;rw [gx_p] at hp;show NX _ lo g (.mk 5 0 [] op [x.gx,y.gx] x.pos) _;rw [<-hp];exact hx.both hv hg hlo h5 op v.p
end
theorem opAt_sign {k:Nat} {t:Tk} {r:List Tk} (h:opAt k (t::r)≠0):t.kind=4:=by
 by_cases hk:t.kind=4
 ·exact hk
 ·exfalso;apply h;rw [opAt_cons,find_no (λ j x _ _=>by simp [isSg,hk])]
end Go.Proofs.YtpgeidpfhakgaaaGreatDoor
