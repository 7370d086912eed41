import Derived.Test.YtifekcbinjdfbaaGreatDoorQh
import Derived.Test.YtifekcbinjdfbaaGreatDoorQPrE
import Derived.Test.YtifekcbinjdfbaaGreatDoorXE
import Derived.Test.YtifekcbinjdfbaaGreatDoorQXA
import Derived.Deep.RegionHeld3
import Derived.Below
import Derived.Test.YtifekcbinjdfbaaGreatDoorQXR
import Derived.Laws.StructEq
import Derived.Deep.QuietTactic
import Derived.BigQuiet
import Derived.Deep.WholeRow
import Derived.Laws.Tables
import Derived.RegionTactic
set_option maxHeartbeats 12800000
set_option maxRecDepth 20000
namespace Go.Proofs.YtifekcbinjdfbaaGreatDoor
def Shr (k:Nat) (e:Ex) (c w w':Nat):Prop:=(par (decide (e.lev<k)) e.tx).length+3*w'<=c+3*w
theorem par_mono {a b:Bool} (h:a=true->b=true) (s:List UInt8):(par a s).length<=(par b s).length:=by
 cases a
 ·cases b
  ·exact n_ _
  ·simp [par];omega
 ·rw [h rfl];exact n_ _
theorem par_lev {k k':Nat} (h:k<=k') (e:Ex) (s:List UInt8):(par (decide (e.lev<k)) s).length<=(par (decide (e.lev<k')) s).length :=
 par_mono (λ c=>decide_eq_true (Nat.lt_of_lt_of_le (of_decide_eq_true c) h)) s
theorem p_short:∀f,
  (∀k d ts e r,k<=6->d<=20->(∀t∈ts,Lex t)->pFrom f k d ts=.ok e r->Shr k e 0 (szs ts) (szs r)) /\
  (∀k d x ts e r,k<6->d<=20->(∀t∈ts,Lex t)->pMore f k d x ts=.ok e r->Shr k e (par (decide (x.lev<k)) x.tx).length (szs ts) (szs r)) /\
  (∀d ts e r,d<=20->(∀t∈ts,Lex t)->pOne f d ts=.ok e r->Shr 6 e 0 (szs ts) (szs r))
 |0=>⟨λ _ _ _ _ _ _ _ _ h=>by simp [pFrom] at h,λ _ _ _ _ _ _ _ _ _ h=>by simp [pMore] at h,λ _ _ _ _ _ _ h=>by simp [pOne] at h⟩
 |f+1=>by
  obtain ⟨h1,h2,h3⟩:=p_short f;obtain ⟨i1,i2,i3⟩:=p_good f;refine ⟨λ k d ts e r hk hd ht h=>?_,λ k d x ts e r hk hd ht h=>?_,λ d ts e r hd ht h=>?_⟩
  ·rw [pFrom_succ] at h
   split at h
   ·rename_i h6;subst h6;exact h3 _ _ _ _ hd ht h
   ·obtain ⟨y,u,e1,h⟩:=PR.andThen_ok h;have g1:=h1 _ _ _ _ _ (by omega) hd ht e1;obtain ⟨_,ht1⟩:=i1 _ _ _ _ _ (by omega) hd ht e1;have g2:=h2 _ _ _ _ _ _ (by omega) hd ht1 h;unfold Shr at g1 g2 ⊢;have:=par_lev (show k<=k+1 by omega) y y.tx;omega
  ·rw [pMore_succ] at h
   split at h
   ·injection h with e1 e2;subst e1 e2;exact n_ _
   ·rename_i h0;obtain ⟨t,ts,rfl⟩:=opAt_some h0;obtain ⟨hrow,_,hk4,htx⟩:=row_of_op h0;rw [List.tail_cons] at h;obtain ⟨y,u,e1,h⟩:=PR.andThen_ok h;have htt:∀t∈ts,Lex t:=λ t ht'=>ht t (by simp [ht']);have g1:=h1 _ _ _ _ _ (by omega) hd htt e1;obtain ⟨_,ht1⟩:=i1 _ _ _ _ _ (by omega) hd htt e1;generalize opAt k (t::ts)=op at *
    have hr6:rowOf op<6:=by omega
    have g2:=h2 k d (.both op x y) u e r hk hd ht1 h;have hsg:=sg_len hr6
    have hsz:t.sz=(sgOf op).length:=by
     unfold Tk.sz;rw [if_neg (by rw [hk4];decide),htx]
    have e6:(par (decide ((Ex.both op x y).lev<k)) (Ex.both op x y).tx).length=(par (decide (x.lev<k)) x.tx).length+(2+(sgOf op).length)+(par (decide (y.lev<k+1)) y.tx).length:=by
     have e7:(Ex.both op x y).lev=k:=hrow;rw [e7,decide_eq_false (Nat.lt_irrefl k)];show (par (decide (x.lev<rowOf op)) x.tx++32::(sgOf op++32::par (decide (y.lev<=rowOf op)) y.tx)).length=_;rw [hrow,show decide (y.lev<=k)=decide (y.lev<k+1) from by simp only [Nat.lt_succ_iff]];simp only [List.length_append,List.length_cons];omega
    unfold Shr at g1 g2 ⊢;rw [e6] at g2;show _+3*szs r<=_+3*(t.sz+szs ts);omega
  ·cases ts with
   |nil=>rw [pOne_nil] at h;cases h
   |cons t ts =>
    have htt:∀u∈ts,Lex u:=λ u hu=>ht u (by simp [hu]);have hsz:szs (t::ts)=t.sz+szs ts:=rfl;rw [pOne_cons] at h
    split at h
    ·rename_i hs
     split at h
     ·cases h
     ·obtain ⟨z,v,e1,h⟩:=PR.andThen_ok h;injection h with e2 e3;subst e2 e3;have g1:=h3 _ _ _ _ (by omega) htt e1;obtain ⟨g0,_⟩:=i3 _ _ _ _ (by omega) htt e1
      have hz:t.sz=1:=by rcases hs with hs|hs <;> exact isSg_sz hs
      have hpm:(par z.isBoth z.tx).length<=(par (decide (z.lev<6)) z.tx).length:=by
       refine par_mono (λ c=>?_) _
       cases z with
       |both op a b=>exact decide_eq_true g0.fine.1
       |_=>cases c
      unfold Shr at g1 ⊢;show (_::par z.isBoth z.tx).length+_<=_;rw [List.length_cons,hsz];omega
    ·split at h
     ·rename_i hs
      split at h
      ·cases h
      ·obtain ⟨z,v,e1,h⟩:=PR.andThen_ok h;obtain ⟨t',rfl,hs',rfl⟩:=shutP_some h;have g1:=h1 _ _ _ _ _ (by omega) (by omega) htt e1;have e2:szs (t'::r)=t'.sz+szs r:=rfl;have b1:t.sz=1:=isSg_sz hs;have b2:t'.sz=1:=isSg_sz hs';unfold Shr at g1 ⊢;rw [decide_eq_false (Nat.not_lt_zero _)] at g1;have b3:=par_len (decide (e.lev<6)) e.tx;change e.tx.length+3*szs (t'::r)<=0+3*szs ts at g1;rw [hsz];omega
     ·split at h
      ·rename_i h3';injection h with e1 e2;subst e1 e2;unfold Shr;show (Lib.itoa t.num).length+_<=_
       have:t.sz=(Lib.itoa t.num).length:=by unfold Tk.sz;rw [if_pos h3']
       omega
      ·split at h
       ·rename_i h3' h1';injection h with e1 e2;subst e1 e2;unfold Shr;show t.text.length+_<=_
        have:t.sz=t.text.length:=by unfold Tk.sz;rw [if_neg h3']
        omega
       ·split at h
        ·rename_i h3' h1' h2';obtain ⟨a,b,c,rfl,ha,hb,hc,rfl⟩:=innP_some h;unfold Shr;show (105::110::40::(b.text++[41])).length+_<=_
         have z1:t.sz=2:=by unfold Tk.sz;rw [if_neg h3',h2'.2];rfl
         have z2:a.sz=1:=isSg_sz ha
         have z3:b.sz=b.text.length:=by unfold Tk.sz;rw [if_neg (by rw [hb];decide)]
         have z4:c.sz=1:=isSg_sz hc;have e2:szs (a::b::c::r)=a.sz+(b.sz+(c.sz+szs r)):=rfl;rw [hsz,e2];simp only [List.length_cons,List.length_append,List.length_nil];omega
        ·exact absurd h wrongAt_not
def LM (M:Nat) (ts:List Tk):Prop:=(∀t∈ts,Lex t)/\szs ts<=M
theorem LM.cons {M:Nat} {t:Tk} {r:List Tk} (h:LM M (t::r)):LM M r:=⟨λ q hq=>h.1 q (List.mem_cons_of_mem _ hq),by have:=h.2;change t.sz+szs r<=M at this;omega⟩
theorem LM.tail {M:Nat}:∀{l:List Tk},LM M l->LM M l.tail
 |[],h=>h
 |_::_,h=>h.cons
def Ex.mayM (M:Nat) (x:Ex):Prop:=x.may/\x.tx.length<=3*M
structure SyAct.goodM (M:Nat) (a:SyAct):Prop where
 kind:a.kind=1∨a.kind=2∨a.kind=3
 name:isNm a.name=true
 raise:a.kind=2->a.value=none
 value:a.kind≠2->∃x,a.value=some x/\x.mayM M
structure SyMove.goodM (M:Nat) (m:SyMove):Prop where
 kind:m.kind=1∨m.kind=2∨m.kind=3
 event:(m.kind=1/\isNm m.event=true)∨(m.kind≠1/\m.event=[])
 wait:(m.kind=3/\0<=m.wait/\m.wait<=9223372036854775807)∨(m.kind≠3/\m.wait=0)
 guarded:m.guarded=m.guard.isSome
 guard:∀x,m.guard=some x->x.mayM M
 acts:∀a∈m.acts,a.goodM M
 targets:∀t∈m.targets,isNm t=true
def GdNM (M:Nat):Nat->SyNode->Prop
 |0,_=>False
 |d+1,.mk k nm ini dft en le mo ks _=>isNm nm=true /\
  (((k=3∨k=4)/\isNm dft=true/\ini=[]/\en=[]/\le=[]/\mo=[]/\ks=[]) ∨
   ((k=1∨k=2)/\dft=[]/\(ini=[]∨isNm ini=true)/\(∀a∈en,a.goodM M)/\(∀a∈le,a.goodM M)/\(∀m∈mo,m.goodM M)/\∀x∈ks,GdNM M d x))
structure SyChart.goodM (M:Nat) (c:SyChart):Prop where
 names:∀v∈c.vars,isNm v.name=true
 nums:∀v∈c.vars,-9223372036854775808<v.num/\v.num<=9223372036854775807
 many:c.vars.length<=16
 kind:∃nm ini dft en le mo ks p,c.root=.mk 1 nm ini dft en le mo ks p
 node:GdNM M 12 c.root
 nodes:cN c.root<=64
 moves:cM c.root<=200
 acts:cA c.root<=400
theorem It_inv {σ:Type} {stp:σ->Ss->Rs (σ×Bool)} (I:σ->Ss->Prop) (h:∀x s y s',I x s->stp x s=.ok y s'->I y.1 s') {x:σ} {s:Ss} {y:σ} {s':Ss} (h0:I x s) (e:It stp x s=.ok y s'):I y s':=by
 unfold It at e
 have go:∀(f:Nat) (x:σ) (s:Ss),I x s->itF stp f x s=.ok y s'->I y s':=by
  intro f
  induction f with
  |zero=>intro x s _ e;cases e
  |succ f ih =>
   intro x s h0 e;rw [itF] at e;obtain ⟨z,s1,e1,e2⟩:=Rs.some e;have h1:=h _ _ _ _ h0 e1
   split at e2
   ·exact ih _ _ h1 e2
   ·injection e2 with e3 e4;rw [<-e3,<-e4];exact h1
 exact go _ _ _ h0 e
theorem actK_le (ts:List Tk):actK ts=0∨actK ts=1∨actK ts=2∨actK ts=3:=by
 unfold actK wordAt wordAt wordAt wordAt
 split
 ·simp
 ·split
  ·simp
  ·split <;> simp
theorem moveK_le (ts:List Tk):moveK ts=0∨moveK ts=1∨moveK ts=2∨moveK ts=3:=by
 unfold moveK wordAt wordAt wordAt wordAt
 split
 ·simp
 ·split
  ·simp
  ·split <;> simp
theorem nodeK_le (ts:List Tk):nodeK ts=0∨nodeK ts=1∨nodeK ts=2∨nodeK ts=3∨nodeK ts=4:=by
 unfold nodeK wordAt wordAt wordAt wordAt wordAt
 split
 ·simp
 ·split
  ·simp
  ·split
   ·simp
   ·split <;> simp
theorem mvA_app:∀(l:List SyMove) (x:SyMove),mvA (l++[x])=mvA l+x.acts.length
 |[],x=>by simp [mvA]
 |y::l,x=>by rw [List.cons_append,mvA,mvA,mvA_app l x,Nat.add_assoc]
theorem cNs_app:∀(l l':List SyNode),cNs (l++l')=cNs l+cNs l'
 |[],l'=>by rw [List.nil_append,cNs,Nat.zero_add]
 |x::l,l'=>by rw [List.cons_append,cNs,cNs,cNs_app l l',Nat.add_assoc]
theorem cMs_app:∀(l l':List SyNode),cMs (l++l')=cMs l+cMs l'
 |[],l'=>by rw [List.nil_append,cMs,Nat.zero_add]
 |x::l,l'=>by rw [List.cons_append,cMs,cMs,cMs_app l l',Nat.add_assoc]
theorem cAs_app:∀(l l':List SyNode),cAs (l++l')=cAs l+cAs l'
 |[],l'=>by rw [List.nil_append,cAs,Nat.zero_add]
 |x::l,l'=>by rw [List.cons_append,cAs,cAs,cAs_app l l',Nat.add_assoc]
namespace Sz
variable {M:Nat}
def St (M:Nat) (s:Ss) (n m a:Nat):Prop:=LM M s.ts/\s.n=n/\s.m=m/\s.a=a/\n<=64/\m<=200/\a<=400
theorem St.drop {s:Ss} {n m a:Nat} (h:St M s n m a):St M s.drop n m a:=⟨h.1.tail,h.2⟩
theorem must_st {k:Int} {u:List UInt8} {s s':Ss} {x:Unit} {n m a:Nat} (h:St M s n m a) (e:mustR k u s=.ok x s'):St M s' n m a:=by
 unfold mustR at e
 split at e
 ·injection e with _ e;rw [<-e];exact h.drop
 ·obtain ⟨_,_,w⟩:=wrong_bad (α:=Unit) s.ts;rw [w] at e;cases e
theorem name_st {s s':Ss} {x:List UInt8×Int} {n m a:Nat} (h:St M s n m a) (e:nameR s=.ok x s'):St M s' n m a/\isNm x.1=true:=by
 obtain ⟨ts,sn,sm,sa⟩:=s;unfold nameR at e
 cases ts with
 |nil=>cases e
 |cons t r =>
  simp only at e
  split at e
  ·injection e with e1 e2;rw [<-e1,<-e2];exact ⟨⟨LM.cons h.1,h.2⟩,(h.1.1 t (List.mem_cons_self)).1 (by assumption)⟩
  ·obtain ⟨_,_,w⟩:=wrong_bad (α:=List UInt8×Int) (t::r);rw [w] at e;cases e
theorem num_st {s s':Ss} {x:Int} {n m a:Nat} (h:St M s n m a) (e:numR s=.ok x s'):St M s' n m a/\0<=x/\x<=9223372036854775807:=by
 obtain ⟨ts,sn,sm,sa⟩:=s;unfold numR at e
 cases ts with
 |nil=>cases e
 |cons t r =>
  simp only at e
  split at e
  ·injection e with e1 e2;rw [<-e1,<-e2];exact ⟨⟨LM.cons h.1,h.2⟩,(h.1.1 t (List.mem_cons_self)).2 (by assumption)⟩
  ·obtain ⟨_,_,w⟩:=wrong_bad (α:=Int) (t::r);rw [w] at e;cases e
theorem expr_st {s s':Ss} {x:Ex} {n m a:Nat} (h:St M s n m a) (e:exprR s=.ok x s'):St M s' n m a/\x.mayM M:=by
 unfold exprR at e
 split at e
 ·cases e
 ·cases e
 ·rename_i y r hp;injection e with e1 e2;obtain ⟨g,hr⟩:=(p_good _).1 0 0 _ _ _ (by omega) (by omega) h.1.1 hp;have hs:=(p_short _).1 0 0 _ _ _ (by omega) (by omega) h.1.1 hp;unfold Shr at hs;have hm:=h.1.2;rw [<-e1,<-e2];have:=g.deep;rw [decide_eq_false (Nat.not_lt_zero _)] at hs;change y.tx.length+3*szs r<=0+3*szs s.ts at hs
  have hr2:szs r<=M:=by omega
  have hy:y.tx.length<=3*M:=by omega
  exact ⟨⟨⟨hr,hr2⟩,h.2⟩,⟨g.fine,by omega⟩,hy⟩
theorem actV_st {k:Nat} {s s':Ss} {v:Option Ex} {n m a:Nat} (h:St M s n m a) (e:actV k s=.ok v s'):St M s' n m a/\(k=2->v=none)/\(k≠2->∃x,v=some x/\x.mayM M):=by
 unfold actV at e
 split at e
 ·rename_i hk;injection e with e1 e2;rw [<-e1,<-e2];exact ⟨h,λ _=>rfl,λ h=>absurd hk h⟩
 ·rename_i hk;obtain ⟨_,s1,a1,e⟩:=Rs.some e;obtain ⟨x,s2,a2,e⟩:=Rs.some e;injection e with e1 e2;obtain ⟨k1,k2⟩:=expr_st (must_st h a1) a2;rw [<-e1,<-e2];exact ⟨k1,λ h=>absurd h hk,λ _=>⟨x,rfl,k2⟩⟩
theorem act_st {s s':Ss} {x:SyAct} {n m a:Nat} (h:St M s n m a) (e:actR s=.ok x s'):St M s' n m (a+1)/\x.goodM M:=by
 unfold actR at e
 split at e
 ·obtain ⟨_,_,w⟩:=wrong_bad (α:=SyAct) s.ts;rw [w] at e;cases e
 ·rename_i h0
  split at e
  ·cases hs:s.ts with
   |nil=>rw [hs] at e;cases e
   |cons t r=>rw [hs] at e;cases e
  ·rename_i h4
   have hs1:St M ⟨s.ts.tail,s.n,s.m,s.a+1⟩ n m (a+1):=by
    obtain ⟨k1,k2,k3,k4,k5,k6,k7⟩:=h;exact ⟨LM.tail k1,k2,k3,by show s.a+1=_;omega,k5,k6,by omega⟩
   obtain ⟨y,s1,a1,e⟩:=Rs.some e;obtain ⟨v,s2,a2,e⟩:=Rs.some e;obtain ⟨_,s3,a3,e⟩:=Rs.some e;injection e with e1 e2;obtain ⟨k1,k2⟩:=name_st hs1 a1;obtain ⟨k3,k4,k5⟩:=actV_st k1 a2;rw [<-e1,<-e2];have hk:=actK_le s.ts;refine ⟨must_st k3 a3,?_,k2,λ hh=>k4 ?_,λ hh=>k5 ?_⟩
   ·show ((actK s.ts:Nat):Int)=1∨((actK s.ts:Nat):Int)=2∨((actK s.ts:Nat):Int)=3;omega
   ·have:((actK s.ts:Nat):Int)=2:=hh;omega
   ·have:¬((actK s.ts:Nat):Int)=2:=hh;omega
theorem block_st {s s':Ss} {l:List SyAct} {n m a:Nat} (h:St M s n m a) (e:blockR s=.ok l s'):St M s' n m (a+l.length)/\∀x∈l,x.goodM M:=by
 obtain ⟨_,s1,a1,e⟩:=Rs.some e;refine It_inv (λ (l:List SyAct) s=>St M s n m (a+l.length)/\∀x∈l,x.goodM M) (λ x s y s' hi e=>?_) ⟨must_st h a1,λ x hx=>by cases hx⟩ e;unfold blkS at e
 split at e
 ·injection e with e1 e2;rw [<-e1,<-e2];exact ⟨hi.1.drop,hi.2⟩
 ·obtain ⟨z,s2,a2,e⟩:=Rs.some e;injection e with e1 e2;obtain ⟨k1,k2⟩:=act_st hi.1 a2;rw [<-e1,<-e2];refine ⟨by rw [List.length_append];exact k1,λ q hq=>?_⟩;rcases List.mem_append.1 hq with hq|hq
  ·exact hi.2 q hq
  ·obtain rfl:q=z:=by simpa using hq
   exact k2
theorem move_st {s s':Ss} {x:SyMove} {n m a:Nat} (h:St M s n m a) (h0:moveK s.ts≠0) (e:moveR s=.ok x s'):St M s' n (m+1) (a+x.acts.length)/\x.goodM M:=by
 unfold moveR at e
 split at e
 ·cases hs:s.ts with
  |nil=>rw [hs] at e;cases e
  |cons t r=>rw [hs] at e;cases e
 ·have hs1:St M ⟨s.ts.tail,s.n,s.m+1,s.a⟩ n (m+1) a:=by
   obtain ⟨k1,k2,k3,k4,k5,k6,k7⟩:=h;exact ⟨LM.tail k1,k2,by show s.m+1=_;omega,k4,k5,by omega,k7⟩
  have hk:=moveK_le s.ts;obtain ⟨ev,s1,a1,e⟩:=Rs.some e;obtain ⟨w,s2,a2,e⟩:=Rs.some e;obtain ⟨g,s3,a3,e⟩:=Rs.some e;obtain ⟨l,s4,a4,e⟩:=Rs.some e;obtain ⟨q,s5,a5,e⟩:=Rs.some e;obtain ⟨_,s6,a6,e⟩:=Rs.some e
  have b1:St M s1 n (m+1) a/\((moveK s.ts=1/\isNm ev=true)∨(moveK s.ts≠1/\ev=[])):=by
   unfold evR at a1
   split at a1
   ·rename_i hk1;obtain ⟨y,s7,c1,c2⟩:=Rs.some a1;injection c2 with c3 c4;obtain ⟨d1,d2⟩:=name_st hs1 c1;rw [<-c3,<-c4];exact ⟨d1,.inl ⟨hk1,d2⟩⟩
   ·rename_i hk1;injection a1 with c3 c4;rw [<-c3,<-c4];exact ⟨hs1,.inr ⟨hk1,rfl⟩⟩
  have b2:St M s2 n (m+1) a/\((moveK s.ts=3/\0<=w/\w<=9223372036854775807)∨(moveK s.ts≠3/\w=0)):=by
   unfold waitR at a2
   split at a2
   ·rename_i hk1;obtain ⟨d1,d2⟩:=num_st b1.1 a2;exact ⟨d1,.inl ⟨hk1,d2⟩⟩
   ·rename_i hk1;injection a2 with c3 c4;rw [<-c3,<-c4];exact ⟨b1.1,.inr ⟨hk1,rfl⟩⟩
  have b3:St M s3 n (m+1) a/\∀x,g=some x->x.mayM M:=by
   unfold guardR at a3
   split at a3
   ·obtain ⟨y,s7,c1,c2⟩:=Rs.some a3;obtain ⟨_,s8,c3,c4⟩:=Rs.some c2;injection c4 with c5 c6;obtain ⟨d1,d2⟩:=expr_st b2.1.drop c1;rw [<-c5,<-c6];exact ⟨must_st d1 c3,λ x hx=>by injection hx with hx;rw [<-hx];exact d2⟩
   ·injection a3 with c3 c4;rw [<-c3,<-c4];exact ⟨b2.1,λ x hx=>by cases hx⟩
  have b4:St M s4 n (m+1) (a+l.length)/\∀x∈l,x.goodM M:=by
   unfold actsR at a4
   split at a4
   ·exact block_st b3.1 a4
   ·injection a4 with c3 c4;rw [<-c3,<-c4];exact ⟨b3.1,λ x hx=>by cases hx⟩
  have b5:St M s5 n (m+1) (a+l.length)/\∀t∈q,isNm t=true:=by
   unfold tgtR at a5
   split at a5
   ·refine It_inv (λ (l':List (List UInt8)) s=>St M s n (m+1) (a+l.length)/\∀t∈l',isNm t=true) (λ x s y s' hi e=>?_) ⟨b4.1.drop,λ x hx=>by cases hx⟩ a5;obtain ⟨z,s2,c1,c2⟩:=Rs.some e;obtain ⟨d1,d2⟩:=name_st hi.1 c1
    have all:∀t∈x++[z.1],isNm t=true:=λ t ht=>by
     rcases List.mem_append.1 ht with ht|ht
     ·exact hi.2 t ht
     ·obtain rfl:t=z.1:=by simpa using ht
      exact d2
    split at c2
    ·injection c2 with c3 c4;rw [<-c3,<-c4];exact ⟨d1.drop,all⟩
    ·injection c2 with c3 c4;rw [<-c3,<-c4];exact ⟨d1,all⟩
   ·injection a5 with c3 c4;rw [<-c3,<-c4];exact ⟨b4.1,λ x hx=>by cases hx⟩
  injection e with e1 e2;rw [<-e1,<-e2];refine ⟨must_st b5.1 a6,?_,?_,?_,rfl,b3.2,b4.2,b5.2⟩
  ·show ((moveK s.ts:Nat):Int)=1∨((moveK s.ts:Nat):Int)=2∨((moveK s.ts:Nat):Int)=3;omega
  ·rcases b1.2 with c|c
   ·exact .inl ⟨by show ((moveK s.ts:Nat):Int)=1;omega,c.2⟩
   ·exact .inr ⟨by show ¬((moveK s.ts:Nat):Int)=1;omega,c.2⟩
  ·rcases b2.2 with c|c
   ·exact .inl ⟨by show ((moveK s.ts:Nat):Int)=3;omega,c.2⟩
   ·exact .inr ⟨by show ¬((moveK s.ts:Nat):Int)=3;omega,c.2⟩
structure BSt (M:Nat) (b:SyB):Prop where
 ini:b.initial=[]∨isNm b.initial=true
 enter:∀x∈b.enter,x.goodM M
 leave:∀x∈b.leave,x.goodM M
 moves:∀x∈b.moves,x.goodM M
 he:b.he=false->b.enter=[]
 hl:b.hl=false->b.leave=[]
def BSv (M n m a:Nat) (b:SyB) (s:Ss):Prop:=St M s n (m+b.moves.length) (a+(b.enter.length+b.leave.length+mvA b.moves))/\BSt M b
theorem clause_st {n m a:Nat} (b:SyB) (s:Ss) (y:SyB×Bool) (s':Ss) (h:BSv M n m a b s) (e:clauseS b s=.ok y s'):BSv M n m a y.1 s':=by
 obtain ⟨h,hb⟩:=h;unfold clauseS at e
 split at e
 ·unfold initS at e
  split at e
  ·obtain ⟨_,_,w⟩:=wrong_bad (α:=SyB×Bool) s.ts;rw [w] at e;cases e
  ·obtain ⟨x,s1,a1,e⟩:=Rs.some e;obtain ⟨_,s2,a2,e⟩:=Rs.some e;obtain ⟨k1,k2⟩:=name_st h.drop a1;injection e with e1 e2;rw [<-e1,<-e2];exact ⟨must_st k1 a2,.inr k2,hb.enter,hb.leave,hb.moves,hb.he,hb.hl⟩
 ·split at e
  ·unfold enterS at e
   split at e
   ·obtain ⟨_,_,w⟩:=wrong_bad (α:=SyB×Bool) s.ts;rw [w] at e;cases e
   ·rename_i hh;have h0:=hb.he (by simpa using hh);obtain ⟨l,s1,a1,e⟩:=Rs.some e;obtain ⟨k1,k2⟩:=block_st h.drop a1;injection e with e1 e2;rw [<-e1,<-e2];rw [h0] at k1;refine ⟨?_,hb.ini,k2,hb.leave,hb.moves,(λ h=>by cases h),hb.hl⟩;rw [show a+(([]:List SyAct).length+b.leave.length+mvA b.moves)+l.length=a+(l.length+b.leave.length+mvA b.moves) from by simp;omega] at k1;exact k1
  ·split at e
   ·unfold leaveS at e
    split at e
    ·obtain ⟨_,_,w⟩:=wrong_bad (α:=SyB×Bool) s.ts;rw [w] at e;cases e
    ·rename_i hh;have h0:=hb.hl (by simpa using hh);obtain ⟨l,s1,a1,e⟩:=Rs.some e;obtain ⟨k1,k2⟩:=block_st h.drop a1;injection e with e1 e2;rw [<-e1,<-e2];rw [h0] at k1;refine ⟨?_,hb.ini,hb.enter,k2,hb.moves,hb.he,(λ h=>by cases h)⟩;rw [show a+(b.enter.length+([]:List SyAct).length+mvA b.moves)+l.length=a+(b.enter.length+l.length+mvA b.moves) from by simp;omega] at k1;exact k1
   ·unfold movS at e
    split at e
    ·injection e with e1 e2;rw [<-e1,<-e2];exact ⟨h,hb⟩
    ·rename_i h0;obtain ⟨x,s1,a1,e⟩:=Rs.some e;obtain ⟨k1,k2⟩:=move_st h h0 a1;injection e with e1 e2;rw [<-e1,<-e2];refine ⟨?_,hb.ini,hb.enter,hb.leave,λ q hq=>?_,hb.he,hb.hl⟩
     ·show St M s1 n (m+(b.moves++[x]).length) (a+(b.enter.length+b.leave.length+mvA (b.moves++[x])));rw [List.length_append,mvA_app,show a+(b.enter.length+b.leave.length+(mvA b.moves+x.acts.length))=a+(b.enter.length+b.leave.length+mvA b.moves)+x.acts.length from by omega];exact k1
     ·rcases List.mem_append.1 hq with hq|hq
      ·exact hb.moves q hq
      ·obtain rfl:q=x:=by simpa using hq
       exact k2
def NdSt (M d:Nat) (nd:Ss->Rs SyNode):Prop:=∀(s:Ss) (x:SyNode) (s':Ss) (n m a:Nat),St M s n m a->nodeK s.ts≠0->nd s=.ok x s'->St M s' (n+cN x) (m+cM x) (a+cA x)/\GdNM M d x
theorem bodyz_st {d:Nat} {nd:Ss->Rs SyNode} (ih:NdSt M d nd) {s s':Ss} {z:SyB×List SyNode} {n m a:Nat} (h:St M s n m a) (e:bodyR nd s=.ok z s') :
  St M s' (n+cNs z.2) (m+(z.1.moves.length+cMs z.2)) (a+(z.1.enter.length+z.1.leave.length+mvA z.1.moves+cAs z.2))/\BSt M z.1/\∀x∈z.2,GdNM M d x:=by
 obtain ⟨b,s1,a1,e⟩:=Rs.some e;obtain ⟨l,s2,a2,e⟩:=Rs.some e;injection e with e1 e2;have hb:BSv M n m a b s1:=It_inv (BSv M n m a) clause_st ⟨h,.inl rfl,(λ x hx=>by cases hx),(λ x hx=>by cases hx),(λ x hx=>by cases hx),(λ _=>rfl),(λ _=>rfl)⟩ a1;obtain ⟨hb,hg⟩:=hb
 have hk:=It_inv (stp:=kidS nd) (λ (l:List SyNode) s=>St M s (n+cNs l) (m+b.moves.length+cMs l) (a+(b.enter.length+b.leave.length+mvA b.moves)+cAs l)/\∀x∈l,GdNM M d x) (λ x s y s' hi e=>by
  unfold kidS at e
  split at e
  ·injection e with e1 e2;rw [<-e1,<-e2];exact hi
  ·rename_i h0;obtain ⟨w,s3,a3,e⟩:=Rs.some e;injection e with e1 e2;obtain ⟨k1,k2⟩:=ih _ _ _ _ _ _ hi.1 h0 a3;rw [<-e1,<-e2];refine ⟨?_,λ q hq=>?_⟩
   ·rw [cNs_app,cMs_app,cAs_app,cNs,cMs,cAs,cNs,cMs,cAs,<-Nat.add_assoc n,<-Nat.add_assoc (m+b.moves.length),<-Nat.add_assoc (a+(b.enter.length+b.leave.length+mvA b.moves))];exact k1
   ·rcases List.mem_append.1 hq with hq|hq
    ·exact hi.2 q hq
    ·obtain rfl:q=w:=by simpa using hq
     exact k2) ⟨hb,λ x hx=>by cases hx⟩ a2
 rw [<-e1,<-e2];refine ⟨?_,hg,hk.2⟩;have:=hk.1;rw [Nat.add_assoc m,Nat.add_assoc a] at this;exact this
theorem named_st {d:Nat} {s s':Ss} {x:List UInt8×Int} {n m a:Nat} (h:St M s n m a) (e:namedR d s=.ok x s'):St M s' (n+1) m a/\isNm x.1=true:=by
 obtain ⟨ts,sn,sm,sa⟩:=s;unfold namedR at e
 cases ts with
 |nil=>cases e
 |cons t r =>
  simp only at e
  split at e
  ·split at e
   ·cases e
   ·rename_i h64
    split at e
    ·cases e
    ·injection e with e1 e2;obtain ⟨k1,k2,k3,k4,k5,k6,k7⟩:=h;simp only at k2;rw [<-e1,<-e2];exact ⟨⟨LM.cons k1,by show sn+1=_;omega,k3,k4,by omega,k6,k7⟩,(k1.1 t (List.mem_cons_self)).1 (by assumption)⟩
  ·obtain ⟨_,_,w⟩:=wrong_bad (α:=List UInt8×Int) (t::r);rw [w] at e;cases e
theorem node_st:∀d,NdSt M d (nodeR d)
 |0,s,x,s',n,m,a,h,h0,e=>by
  unfold nodeR at e;obtain ⟨_,_,_,e⟩:=Rs.some e;cases e
 |d+1,s,x,s',n,m,a,h,h0,e=>by
  unfold nodeR at e;obtain ⟨y,s1,a1,e⟩:=Rs.some e;obtain ⟨k1,k2⟩:=named_st h.drop a1;have hk:=nodeK_le s.ts
  split at e
  ·rename_i h3;unfold histR at e;obtain ⟨_,s2,a2,e⟩:=Rs.some e;obtain ⟨w,s3,a3,e⟩:=Rs.some e;obtain ⟨_,s4,a4,e⟩:=Rs.some e;injection e with e1 e2;obtain ⟨k3,k4⟩:=name_st (must_st k1 a2) a3;rw [<-e1,<-e2];refine ⟨?_,k2,.inl ⟨?_,k4,rfl,rfl,rfl,rfl,rfl⟩⟩
   ·rw [cN,cM,cA,cNs,cMs,cAs];exact must_st k3 a4
   ·show ((nodeK s.ts:Nat):Int)=3∨((nodeK s.ts:Nat):Int)=4;omega
  ·rename_i h3;unfold innerR at e;obtain ⟨_,s2,a2,e⟩:=Rs.some e;obtain ⟨z,s3,a3,e⟩:=Rs.some e;obtain ⟨_,s4,a4,e⟩:=Rs.some e;injection e with e1 e2;obtain ⟨k3,k4,k5⟩:=bodyz_st (node_st d) (must_st k1 a2) a3;rw [<-e1,<-e2];unfold nodeOf;refine ⟨?_,k2,.inr ⟨?_,rfl,k4.ini,k4.enter,k4.leave,k4.moves,k5⟩⟩
   ·rw [cN,cM,cA,<-Nat.add_assoc n];exact must_st k3 a4
   ·show ((nodeK s.ts:Nat):Int)=1∨((nodeK s.ts:Nat):Int)=2;omega
theorem var_st {l:List SyVar} {s s':Ss} {y:List SyVar×Bool} {n m a:Nat} (h:St M s n m a/\(∀v∈l,isNm v.name=true/\-9223372036854775808<v.num/\v.num<=9223372036854775807)/\l.length<=16) (e:varS l s=.ok y s') :
  St M s' n m a/\(∀v∈y.1,isNm v.name=true/\-9223372036854775808<v.num/\v.num<=9223372036854775807)/\y.1.length<=16:=by
 unfold varS at e
 split at e
 ·obtain ⟨x,s1,a1,e⟩:=Rs.some e;obtain ⟨_,s2,a2,e⟩:=Rs.some e;obtain ⟨v,s3,a3,e⟩:=Rs.some e;obtain ⟨_,s4,a4,e⟩:=Rs.some e;injection e with e1 e2
  have b1:St M s1 n m a/\isNm x.1=true/\l.length≠16:=by
   have hd:=h.1.drop;obtain ⟨ts,sn,sm,sa⟩:=s
   cases ts with
   |nil=>cases a1
   |cons t r =>
    cases r with
    |nil=>cases a1
    |cons t r =>
     unfold vnameR at a1;change (if t.kind=1 then _ else _)=_ at a1
     split at a1
     ·split at a1
      ·cases a1
      ·rename_i h16;injection a1 with c1 c2;rw [<-c1,<-c2];exact ⟨⟨LM.cons hd.1,hd.2⟩,(hd.1.1 t (List.mem_cons_self)).1 (by assumption),h16⟩
     ·obtain ⟨_,_,w⟩:=wrong_bad (α:=List UInt8×Int) (t::r);have a1':(wrongR (t::r):Rs (List UInt8×Int))=_:=a1;rw [w] at a1';cases a1'
  have b2:=must_st b1.1 a2
  have b3:St M s3 n m a/\-9223372036854775808<v/\v<=9223372036854775807:=by
   unfold vnumR at a3
   split at a3
   ·obtain ⟨u,s5,c1,c2⟩:=Rs.some a3;injection c2 with c3 c4;obtain ⟨d1,d2⟩:=num_st b2.drop c1;rw [<-c3,<-c4];exact ⟨d1,by omega,by omega⟩
   ·obtain ⟨d1,d2⟩:=num_st b2 a3;exact ⟨d1,by omega,by omega⟩
  rw [<-e1,<-e2];refine ⟨must_st b3.1 a4,λ q hq=>?_,?_⟩
  ·rcases List.mem_append.1 hq with hq|hq
   ·exact h.2.1 q hq
   ·obtain rfl:q=⟨x.1,v,x.2⟩:=by simpa using hq
    exact ⟨b1.2.1,b3.2⟩
  ·show (l++[_]).length<=16;rw [List.length_append,List.length_singleton];have:=h.2.2;have:=b1.2.2;omega
 ·injection e with e1 e2;rw [<-e1,<-e2];exact h
theorem read_goodM {ts:List Tk} (ht:LM M ts) {c:SyChart} {s':Ss} (e:syR ts=.ok c s'):c.goodM M:=by
 have h:St M ⟨ts,0,0,0⟩ 0 0 0:=⟨ht,rfl,rfl,rfl,by omega,by omega,by omega⟩
 unfold syR chartR at e;obtain ⟨_,s1,a1,e⟩:=Rs.some e;obtain ⟨x,s2,a2,e⟩:=Rs.some e;obtain ⟨_,s3,a3,e⟩:=Rs.some e;obtain ⟨l,s4,a4,e⟩:=Rs.some e;obtain ⟨z,s5,a5,e⟩:=Rs.some e;obtain ⟨_,s6,a6,e⟩:=Rs.some e;obtain ⟨k1,k2⟩:=named_st (must_st h a1) a2;have hv:=It_inv (stp:=varS) (λ (l:List SyVar) s=>St M s (0+1) 0 0/\(∀v∈l,isNm v.name=true/\-9223372036854775808<v.num/\v.num<=9223372036854775807)/\l.length<=16) (λ x s y s' hi e=>var_st hi e) ⟨must_st k1 a3,(λ v hv=>by cases hv),by simp⟩ a4;obtain ⟨k3,k4,k5⟩:=bodyz_st (node_st 11) hv.1 a5;have k6:=must_st k3 a6;unfold endR at e
 split at e
 ·injection e with e1 e2;rw [<-e1];obtain ⟨_,_,_,_,l1,l2,l3⟩:=k6;refine ⟨λ v hv'=>(hv.2.1 v hv').1,λ v hv'=>(hv.2.1 v hv').2,hv.2.2,⟨_,_,_,_,_,_,_,_,rfl⟩,⟨k2,.inr ⟨.inl rfl,rfl,k4.ini,k4.enter,k4.leave,k4.moves,k5⟩⟩,?_,?_,?_⟩
  ·show cN (nodeOf 1 x z)<=64;unfold nodeOf;rw [cN];omega
  ·show cM (nodeOf 1 x z)<=200;unfold nodeOf;rw [cM];omega
  ·show cA (nodeOf 1 x z)<=400;unfold nodeOf;rw [cA];omega
 ·obtain ⟨_,_,w⟩:=wrong_bad (α:=SyChart) s6.ts;rw [w] at e;cases e
theorem syF_goodM {l:List UInt8} {c:SyChart} {s':Ss} (e:syF l=.ok c s'):c.goodM l.length:=by
 unfold syF at e
 split at e
 ·exact read_goodM (scF_lex l) e
 ·cases e
end Sz
end Go.Proofs.YtifekcbinjdfbaaGreatDoor
namespace Go.Proofs.YtifekcbinjdfbaaGreatDoor
open Go.RowKit
section
variable {P:Program} {ops:Array Oper} {Q:Exit->Act->World->Prop}
def updV (vals:Nat->Option Value) (i:Nat) (v:Value):Nat->Option Value:=λ j=>if j=i then some v else vals j
theorem updV_same (vals:Nat->Option Value) (i:Nat) (v:Value):updV vals i v i=some v:=if_pos rfl
theorem updV_ne (vals:Nat->Option Value) {i j:Nat} (v:Value) (h:j≠i):updV vals i v j=vals j:=if_neg h
def put1 (ops:Array Oper) (vals:Nat->Option Value) (a:Act) (i:Nat):Act :=
 match vals i,ops[i]? with
 |some v,some o=>a.put o.dst v
 |_,_=>a
def puts (ops:Array Oper) (vals:Nat->Option Value) (L:List Nat) (a:Act):Act:=L.foldl (put1 ops vals) a
theorem put_comm {a:Act} {d e:Option Tmp} {u v:Value} (h:d=none∨e=none∨d≠e):(a.put d u).put e v=(a.put e v).put d u:=by
 cases d with
 |none=>rfl
 |some d =>
  cases e with
  |none=>rfl
  |some e =>
   have hne:d≠e:=by
    rcases h with h|h|h
    ·cases h
    ·cases h
    ·exact λ hh=>h (by rw [hh])
   show ({ a with tmps:=(a.tmps.setIfInBounds d u).setIfInBounds e v }:Act)={ a with tmps:=(a.tmps.setIfInBounds e v).setIfInBounds d u };rw [Array.setIfInBounds_comm _ _ hne]
theorem puts_put {vals:Nat->Option Value} {d:Option Tmp} {v:Value}:∀(L:List Nat) (a:Act),(∀j∈L,∀o,ops[j]?=some o->o.dst=none∨d=none∨o.dst≠d)->(puts ops vals L a).put d v=puts ops vals L (a.put d v)
 |[],a,_=>rfl
 |j::L,a,h=>by
  show (puts ops vals L (put1 ops vals a j)).put d v=puts ops vals L (put1 ops vals (a.put d v) j);rw [puts_put L _ (λ k hk=>h k (by simp [hk]))]
  congr 1
  unfold put1
  split
  ·rename_i u o hu ho;exact put_comm (h j (by simp) o ho)
  ·rfl
theorem puts_upd {vals:Nat->Option Value} {i:Nat} {v:Value}:∀(L:List Nat) (a:Act),i∉L->puts ops (updV vals i v) L a=puts ops vals L a
 |[],a,_=>rfl
 |j::L,a,h=>by
  have hj:j≠i:=λ e=>h (by rw [e];simp);show puts ops (updV vals i v) L (put1 ops (updV vals i v) a j)=puts ops vals L (put1 ops vals a j);rw [puts_upd L _ (λ e=>h (by simp [e]))]
  congr 1
  unfold put1;rw [updV_ne vals v hj]
theorem puts_set {vals:Nat->Option Value} {i:Nat} {o:Oper} {v:Value} (ho:ops[i]?=some o) (hv:vals i=none):∀(L:List Nat) (a:Act),L.Nodup->i∈L->(∀j∈L,j≠i->∀p,ops[j]?=some p->p.dst=none∨o.dst=none∨p.dst≠o.dst) ->
  puts ops (updV vals i v) L a=(puts ops vals L a).put o.dst v
 |[],a,_,hi,_=>by simp at hi
 |j::L,a,hn,hi,hd=>by
  rw [List.nodup_cons] at hn
  by_cases hj:j=i
  ·subst hj;show puts ops (updV vals j v) L (put1 ops (updV vals j v) a j)=(puts ops vals L (put1 ops vals a j)).put o.dst v;rw [puts_upd L _ hn.1,puts_put L _ (λ k hk p hp=>hd k (by simp [hk]) (λ e=>hn.1 (e ▸ hk)) p hp)]
   congr 1
   unfold put1;rw [updV_same,ho,hv]
  ·show puts ops (updV vals i v) L (put1 ops (updV vals i v) a j)=(puts ops vals L (put1 ops vals a j)).put o.dst v
   have hiL:i∈L:=by
    rcases List.mem_cons.1 hi with h|h
    ·exact absurd h.symm hj
    ·exact h
   rw [puts_set ho hv L _ hn.2 hiL (λ k hk=>hd k (by simp [hk]))]
   congr 2
   unfold put1;rw [updV_ne vals v hj]
def freeB (ops:Array Oper):Bool :=
 ((List.range ops.size).all λ i=>(List.range ops.size).all λ j=>i==j || (match ops[i]?,ops[j]? with|some o,some p=>o.dst.isNone || p.dst.isNone || o.dst != p.dst|_,_=>true)) &&
 ((List.range ops.size).all λ i=>match ops[i]? with|some o=>o.guard.isNone&&o.after.all (λ e=>!Region.binds .any e || decide (e.on<i))|none=>true)
theorem freeB_dst (h:freeB ops=true) {i j:Nat} {o p:Oper} (hi:ops[i]?=some o) (hj:ops[j]?=some p) (hne:j≠i):p.dst=none∨o.dst=none∨p.dst≠o.dst:=by
 unfold freeB at h;rw [Bool.and_eq_true] at h;have h1:=List.all_eq_true.1 (List.all_eq_true.1 h.1 j (List.mem_range.2 (Array.getElem?_eq_some_iff.1 hj).1)) i (List.mem_range.2 (Array.getElem?_eq_some_iff.1 hi).1);simp only [hi,hj,Bool.or_eq_true,beq_iff_eq,Option.isNone_iff_eq_none,bne_iff_ne] at h1;rcases h1 with h1|(h1|h1)|h1
 ·exact absurd h1 hne
 ·exact .inl h1
 ·exact .inr (.inl h1)
 ·exact .inr (.inr h1)
theorem freeB_op (h:freeB ops=true) {i:Nat} {o:Oper} (hi:ops[i]?=some o):o.guard=none/\∀e∈o.after,Region.binds .any e=true->e.on<i:=by
 unfold freeB at h;rw [Bool.and_eq_true] at h;have h1:=List.all_eq_true.1 h.2 i (List.mem_range.2 (Array.getElem?_eq_some_iff.1 hi).1);simp only [hi,Bool.and_eq_true,Option.isNone_iff_eq_none,Array.all_eq_true_iff_forall_mem,Bool.or_eq_true,Bool.not_eq_true',decide_eq_true_eq] at h1;refine ⟨h1.1,λ e he hb=>?_⟩;rcases h1.2 e he with h2|h2
 ·rw [h2] at hb;cases hb
 ·exact h2
theorem all_come (h:freeB ops=true) {listed:Array Bool} (hr:Region.ready .any ops listed=[]):∀i,i<ops.size->listed.getD i true=true:=by
 intro i
 induction i using Nat.strongRecOn with
 |_ i ih =>
  intro hi
  by_cases c:listed.getD i true=true
  ·exact c
  ·have c':listed.getD i true=false:=by simpa using c
   have hm:i∈Region.ready .any ops listed:=by
    refine mem_ready.2 ⟨c',ops[i],Array.getElem?_eq_getElem hi,λ e he hb=>?_⟩;have h1:=(freeB_op h (Array.getElem?_eq_getElem hi)).2 e he hb;have h2:=ih e.on h1 (by omega);rw [Array.getD_eq_getD_getElem?] at h2 ⊢
    cases hh:listed[e.on]? with
    |some b=>rw [hh] at h2;exact h2
    |none =>
     exfalso;have h3:=Array.getElem?_eq_none_iff.1 hh;rw [Array.getD_eq_getD_getElem?,Array.getElem?_eq_none (by omega)] at c';cases c'
   rw [hr] at hm;cases hm
theorem wpAny_free (base:Act) (hB:freeB ops=true) (I:(Nat->Option Value)->World->Prop)
  (hstep:∀vals w i o,I vals w->ops[i]?=some o->vals i=none->(∀e∈o.after,Region.binds .any e=true->(vals e.on).isSome=true) ->
   o.wp P (puts ops vals (List.range ops.size) base) w (λ a' w'=>∃v,a'=(puts ops vals (List.range ops.size) base).put o.dst v/\I (updV vals i v) w') Q)
  (hdone:∀vals w,I vals w->(∀i,i<ops.size->(vals i).isSome=true)->Q .normal (puts ops vals (List.range ops.size) base) w) :
  ∀(fuel:Nat) (listed:Array Bool) (vals:Nat->Option Value) (w:World) (S:List Nat),listed.size=ops.size->(∀i,i<ops.size->listed.getD i true=(vals i).isSome)->S.length<=fuel->(∀i,i<ops.size->vals i=none->i∈S)->I vals w ->
   wpAny P .any ops Q fuel listed (puts ops vals (List.range ops.size) base) w
 |0,listed,vals,w,S,hs,hl,hf,hS,hI=>by
  have hall:∀i,i<ops.size->(vals i).isSome=true:=λ i hi=>by
   cases hv:vals i with
   |some v=>rfl
   |none =>
    have:=hS i hi hv;rw [List.eq_nil_of_length_eq_zero (Nat.le_zero.1 hf)] at this;cases this
  refine ⟨?_,hdone vals w hI hall⟩;refine List.eq_nil_iff_forall_not_mem.2 λ i hi=>?_;obtain ⟨h1,o,ho,_⟩:=mem_ready.1 hi;have hlt:=(Array.getElem?_eq_some_iff.1 ho).1;rw [hl i hlt,hall i hlt] at h1;cases h1
 |fuel+1,listed,vals,w,S,hs,hl,hf,hS,hI=>by
  refine ⟨λ hr=>hdone vals w hI (λ i hi=>by rw [<-hl i hi];exact all_come hB hr i hi),λ i hi=>?_⟩;obtain ⟨h1,o,ho,hdep⟩:=mem_ready.1 hi;have hlt:=(Array.getElem?_eq_some_iff.1 ho).1
  have hv:vals i=none:=by
   rw [hl i hlt] at h1;simpa using h1
  have hst:=hstep vals w i o hI ho hv (λ e he hb=>by
   have h2:=hdep e he hb
   have hlt2:e.on<ops.size:=by have:=(freeB_op hB ho).2 e he hb;omega
   rw [<-hl e.on hlt2];rw [Array.getD_eq_getD_getElem?] at h2 ⊢
   cases hh:listed[e.on]? with
   |some b=>rw [hh] at h2;exact h2
   |none=>rfl)
  have hg:=(freeB_op hB ho).1;unfold wpOp;rw [ho];simp only;rw [if_pos (by simp [Region.wanted,hg])];left;refine Oper.wp_mono (λ a' w' hh=>?_) hst;obtain ⟨v,rfl,hI'⟩:=hh;rw [<-puts_set ho hv (List.range ops.size) base List.nodup_range (List.mem_range.2 hlt) (λ j hj hne p hp=>freeB_dst hB ho hp hne)];refine wpAny_free base hB I hstep hdone fuel _ (updV vals i v) w' (S.erase i) (by simpa using hs) (λ j hj=>?_) ?_ (λ j hj hn=>?_) hI'
  ·by_cases c:j=i
   ·subst c;rw [updV_same,Array.getD_eq_getD_getElem?,Array.getElem?_setIfInBounds_self_of_lt (by omega)];rfl
   ·rw [updV_ne vals v c,<-hl j hj,Array.getD_eq_getD_getElem?,Array.getD_eq_getD_getElem?,Array.getElem?_setIfInBounds_ne (λ e=>c e.symm)]
  ·have:=List.length_erase_of_mem (hS i hlt hv);omega
  ·by_cases c:j=i
   ·subst c;rw [updV_same] at hn;cases hn
   ·rw [updV_ne vals v c] at hn;exact (List.mem_erase_of_ne c).2 (hS j hj hn)
def slotOf (ops:Array Oper) (j:Nat):Nat:=((ops[j]?).bind (·.dst)).getD 0
theorem puts_other (vals:Nat->Option Value) (k:Nat):∀(L:List Nat) (a:Act),(∀j∈L,∀o,ops[j]?=some o->o.dst≠some k)->(puts ops vals L a).tmps[k]?=a.tmps[k]?
 |[],a,_=>rfl
 |j::L,a,h=>by
  show (puts ops vals L (put1 ops vals a j)).tmps[k]?=_;rw [puts_other vals k L _ (λ i hi=>h i (by simp [hi]))];unfold put1
  split
  ·rename_i v o hv ho;have:=h j (by simp) o ho;unfold Act.put
   split
   ·rename_i d hd;rw [hd] at this;exact Array.getElem?_setIfInBounds_ne (λ e=>this (by rw [e]))
   ·rfl
  ·rfl
theorem puts_at {vals:Nat->Option Value} {i:Nat} {o:Oper} {v:Value} {d:Tmp} (ho:ops[i]?=some o) (hd:o.dst=some d) (hv:vals i=some v):∀(L:List Nat) (a:Act),L.Nodup->i∈L->d<a.tmps.size->(∀j∈L,j≠i->∀p,ops[j]?=some p->p.dst=none∨o.dst=none∨p.dst≠o.dst)->(puts ops vals L a).tmps[d]?=some v
 |[],a,_,hi,_,_=>by simp at hi
 |j::L,a,hn,hi,hsz,hdd=>by
  rw [List.nodup_cons] at hn
  by_cases hj:j=i
  ·subst hj;show (puts ops vals L (put1 ops vals a j)).tmps[d]?=_
   rw [puts_other vals d L _ (λ k hk p hp e=>by
    rcases hdd k (by simp [hk]) (λ e=>hn.1 (e ▸ hk)) p hp with h|h|h
    ·rw [h] at e;cases e
    ·rw [h] at hd;cases hd
    ·exact h (by rw [e,hd]))]
   unfold put1;rw [hv,ho];simp only [Act.put,hd];exact Array.getElem?_setIfInBounds_self_of_lt hsz
  ·show (puts ops vals L (put1 ops vals a j)).tmps[d]?=_
   have hiL:i∈L:=by
    rcases List.mem_cons.1 hi with h|h
    ·exact absurd h.symm hj
    ·exact h
   refine puts_at ho hd hv L _ hn.2 hiL ?_ (λ k hk=>hdd k (by simp [hk]));unfold put1
   split
   ·unfold Act.put
    split <;> simp [hsz]
   ·exact hsz
def depsB (ops:Array Oper) (D:Nat->List Nat):Bool :=
 (List.range ops.size).all λ i=>match ops[i]? with
  |some o=>(D i).all λ j=>decide (j<i)&&o.after.any (λ e=>e.on==j&&Region.binds .any e)&&(match ops[j]? with|some p=>p.dst.isSome|none=>false)
  |none=>true
def outB (ops:Array Oper) (k:Nat):Bool:=ops.all λ o=>o.dst != some k
def inB (ops:Array Oper) (n:Nat):Bool:=ops.all λ o=>match o.dst with|some d=>decide (d<n)|none=>true
def coverB (ops:Array Oper) (last:Nat):Bool :=
 (List.range last).all λ i=>(List.range (last+1)).any λ k=>decide (i<k)&&(match ops[k]? with|some o=>o.after.any (λ e=>e.on==i&&Region.binds .any e)|none=>false)
theorem cover_all {last:Nat} (hc:coverB ops last=true) {p:Nat->Prop} (hp:∀k o,k<=last->ops[k]?=some o->(k=last∨p k)->∀e∈o.after,Region.binds .any e=true->p e.on):∀i,i<last->p i:=by
 have main:∀d i,i<last->last-i<=d->p i:=by
  intro d
  induction d with
  |zero=>intro i hi hd;omega
  |succ d ih =>
   intro i hi hd;unfold coverB at hc;obtain ⟨k,hk,hh⟩:=List.any_eq_true.1 (List.all_eq_true.1 hc i (List.mem_range.2 hi));rw [Bool.and_eq_true,decide_eq_true_eq] at hh;have hkl:=List.mem_range.1 hk;obtain ⟨h1,h2⟩:=hh
   cases ho:ops[k]? with
   |none=>rw [ho] at h2;cases h2
   |some o =>
    rw [ho] at h2;simp only at h2;rw [<-Array.any_toList] at h2;obtain ⟨e,he0,h3⟩:=List.any_eq_true.1 h2;have he:e∈o.after:=Array.mem_toList_iff.1 he0;rw [Bool.and_eq_true,beq_iff_eq] at h3
    have:=hp k o (by omega) ho (by
     by_cases c:k=last
     ·exact .inl c
     ·exact .inr (ih k (by omega) (by omega))) e he h3.2
    rw [h3.1] at this;exact this
 exact λ i hi=>main (last-i) i hi (n_ _)
end
end Go.Proofs.YtifekcbinjdfbaaGreatDoor
namespace Go.Proofs.YtifekcbinjdfbaaGreatDoor
open Go.RowKit
mutual
def GW (w:World) (lo hi:Nat):GX->EV->Prop
 |.mk k n s o l p,v=>(v.kind=k/\v.num=n/\v.name.data.toList=s/\v.op=o/\v.p=p/\v.len=l.length/\v.len<=v.cap/\v.cap<=maxLen) /\
  (l=[]∨∃g cs,v.A=some ⟨g,0,none⟩/\lo<=g/\g<hi/\w.heap[g]?=some (.cells cs 40 (0,0))/\GWs w g lo g l 0)
def GWs (w:World) (g a b:Nat):List GX->Nat->Prop
 |[],_=>a<=b
 |x::l,i=>∃m v,a<=m/\m<=b/\EvAt w g (0+i*6) v/\GW w a m x v/\GWs w g m b l (i+1)
end
mutual
theorem GW.same {w w':World}:∀{x:GX} {v:EV} {lo hi:Nat},(∀g,lo<=g->g<hi->w'.heap[g]?=w.heap[g]?)->GW w lo hi x v->GW w' lo hi x v
 |.mk _ _ _ _ l _,_,lo,hi,hs,h=>by
  unfold GW at h ⊢;refine ⟨h.1,?_⟩;rcases h.2 with h2|⟨g,cs,h2,h3,h4,h5,h6⟩
  ·exact .inl h2
  ·exact .inr ⟨g,cs,h2,h3,h4,(hs g h3 h4).trans h5,GWs.same (hs g h3 h4) (λ i h7 h8=>hs i h7 (by omega)) h6⟩
theorem GWs.same {w w':World} {g:Nat} (hg:w'.heap[g]?=w.heap[g]?):∀{l:List GX} {a b i:Nat},(∀j,a<=j->j<b->w'.heap[j]?=w.heap[j]?)->GWs w g a b l i->GWs w' g a b l i
 |[],_,_,_,_,h=>by unfold GWs at h ⊢;exact h
 |x::l,a,b,i,hs,h=>by
  unfold GWs at h ⊢;obtain ⟨m,v,h1,h2,h3,h4,h5⟩:=h;exact ⟨m,v,h1,h2,h3.same hg,GW.same (λ j h6 h7=>hs j h6 (by omega)) h4,GWs.same hg (λ j h6 h7=>hs j (by omega) h7) h5⟩
end
mutual
theorem GW.gv {w:World}:∀{x:GX} {v:EV} {lo hi:Nat},GW w lo hi x v->GV w lo hi x v
 |.mk _ _ _ _ l _,v,lo,hi,h=>by
  unfold GW at h;unfold GV;obtain ⟨⟨a1,a2,a3,a4,a5,a6,a7,a8⟩,h2⟩:=h;refine ⟨a1,a2,a3,a4,a5,a6,a7,a8,?_⟩;rcases h2 with rfl|⟨g,cs,h2,h3,h4,_,h6⟩
  ·unfold GRow;trivial
  ·rw [h2];exact GWs.grow h3 h4 (n_ _) (Nat.le_of_lt h4) h6
theorem GWs.grow {w:World} {g lo hi:Nat} (h1:lo<=g) (h2:g<hi):∀{l:List GX} {a b i:Nat},lo<=a->b<=hi->GWs w g a b l i->GRow w lo hi l (some ⟨g,0,none⟩) i
 |[],_,_,_,_,_,_=>by unfold GRow;trivial
 |x::l,a,b,i,ha,hb,h=>by
  unfold GWs at h;unfold GRow;obtain ⟨m,v,h3,h4,h5,h6,h7⟩:=h;exact ⟨⟨g,0,v,rfl,h1,h2,h5,GV.mono ha (by omega) (GW.gv h6)⟩,GWs.grow h1 h2 (by omega) hb h7⟩
end
theorem GWs.front {w:World} {g:Nat}:∀{l:List GX} {a a' b i:Nat},a'<=a->(∀{x:GX} {v:EV} {lo lo' hi:Nat},x∈l->lo'<=lo->GW w lo hi x v->GW w lo' hi x v)->GWs w g a b l i->GWs w g a' b l i
 |[],_,_,_,_,h1,_,h=>by unfold GWs at h ⊢;omega
 |x::l,a,a',b,i,h1,hx,h=>by
  unfold GWs at h ⊢;obtain ⟨m,v,h3,h4,h5,h6,h7⟩:=h;exact ⟨m,v,by omega,h4,h5,hx (by simp) h1 h6,h7⟩
theorem GW.monoN {w:World}:∀(n:Nat) {x:GX} {v:EV} {lo hi lo' hi':Nat},SizeOf.sizeOf x<=n->lo'<=lo->hi<=hi'->GW w lo hi x v->GW w lo' hi' x v
 |0,.mk _ _ _ _ _ _,_,_,_,_,_,hn,_,_,_=>by simp only [GX.mk.sizeOf_spec] at hn;omega
 |n+1,.mk _ _ _ _ l _,v,lo,hi,lo',hi',hn,h1,h2,h=>by
  unfold GW at h ⊢;refine ⟨h.1,?_⟩;rcases h.2 with h3|⟨g,cs,h3,h4,h5,h6,h7⟩
  ·exact .inl h3
  ·refine .inr ⟨g,cs,h3,by omega,by omega,h6,GWs.front h1 (λ {y} {u} {a} {a'} {b} hy ha hw=>GW.monoN n (by
    have:=List.sizeOf_lt_of_mem hy;simp only [GX.mk.sizeOf_spec] at hn
    omega) ha (n_ b) hw) h7⟩
theorem GW.mono {w:World} {lo hi lo' hi':Nat} (h1:lo'<=lo) (h2:hi<=hi') {x:GX} {v:EV} (h:GW w lo hi x v):GW w lo' hi' x v:=GW.monoN _ (n_ _) h1 h2 h
theorem GW.below {w w':World} {lo hi:Nat} {x:GX} {v:EV} (h:GW w lo hi x v) (hb:Below w.heap.size w w') (hh:hi<=w.heap.size):GW w' lo hi x v:=h.same (λ g _ h2=>hb.block g (by omega))
theorem GW.mv {w w':World} {lo b:Nat} {x:GX} {v:EV} (h:GW w lo w.heap.size x v) (hm:Mv b w w') (hb:b<lo):GW w' lo w'.heap.size x v :=
 (h.same (λ g h1 h2=>hm.block h2 (by omega))).mono (n_ _) (World.grownBy.size hm)
theorem GW.leaf (w:World) (lo hi:Nat) (k n o p:Int) (S:ByteArray):GW w lo hi (.mk k n S.data.toList o [] p) ⟨k,n,S,o,none,0,0,p⟩:=by
 unfold GW;exact ⟨⟨rfl,rfl,rfl,rfl,rfl,rfl,n_ _,Nat.zero_le _⟩,.inl rfl⟩
theorem GW.one_new {w:World} {lo:Nat} {x:GX} {v:EV} (h:GW w lo w.heap.size x v) (hlo:lo<=w.heap.size) (op p:Int) :
  GW (w.alloc (.cells #[.int .i64 v.kind,.int .i64 v.num,.string v.name,.int .i64 v.op,.slice v.A v.len v.cap,.int .i64 v.p] 40)) lo (w.heap.size+1) (.mk 4 0 [] op [x] p) ⟨4,0,⟨#[]⟩,op,some ⟨w.heap.size,0,none⟩,1,1,p⟩:=by
 unfold GW;refine ⟨⟨rfl,rfl,rfl,rfl,rfl,rfl,n_ _,(by decide:1<=maxLen)⟩,.inr ⟨w.heap.size,_,rfl,hlo,by omega,heap_alloc_new w _,?_⟩⟩;unfold GWs GWs;exact ⟨w.heap.size,v,hlo,n_ _,EvAt.of (heap_alloc_new w _) (λ j u hu=>by simpa [EV.cells] using hu),h.same (λ _ _ h2=>heap_alloc_old w _ h2),n_ _⟩
theorem GW.both_of {W:World} {lo m hi g:Nat} {x y:GX} {v u:EV} (hx:GW W lo m x v) (hy:GW W m g y u) (h1:lo<=m) (h2:m<=g) (h3:g<hi) {cs:Array Value} (hg:W.heap[g]?=some (.cells cs 40 (0,0))) (e1:EvAt W g 0 v) (e2:EvAt W g 6 u) (op p:Int) :
  GW W lo hi (.mk 5 0 [] op [x,y] p) ⟨5,0,⟨#[]⟩,op,some ⟨g,0,none⟩,2,2,p⟩:=by
 unfold GW;refine ⟨⟨rfl,rfl,rfl,rfl,rfl,rfl,n_ _,(by decide:2<=maxLen)⟩,.inr ⟨g,cs,rfl,by omega,h3,hg,?_⟩⟩;unfold GWs GWs GWs;exact ⟨m,v,h1,h2,e1,hx,g,u,h2,n_ _,e2,hy,n_ _⟩
end Go.Proofs.YtifekcbinjdfbaaGreatDoor
namespace Go.Proofs.YtifekcbinjdfbaaGreatDoor
open Go.RowKit
def TkSrc (w:World) (A:Option Addr) (n:Nat) (xs:List Tk):Prop:=xs.length=n/\∀(i:Nat) (t:Tk),xs[i]?=some t->∃g,A=some ⟨g,0,none⟩ /\
 w.cell? ⟨g,i*4,none⟩=some (.int .i64 t.kind)/\w.cell? ⟨g,i*4+1,none⟩=some (txV t.text)/\w.cell? ⟨g,i*4+2,none⟩=some (.int .i64 t.num)/\w.cell? ⟨g,i*4+3,none⟩=some (.int .i64 t.at_)
theorem tkCs_at:∀(xs:List Tk) (i:Nat) (t:Tk),xs[i]?=some t->(tkCs xs)[i*4]?=some (.int .i64 t.kind)/\(tkCs xs)[i*4+1]?=some (txV t.text)/\(tkCs xs)[i*4+2]?=some (.int .i64 t.num)/\(tkCs xs)[i*4+3]?=some (.int .i64 t.at_)
 |[],i,t,h=>by simp at h
 |x::xs,0,t,h=>by
  have:x=t:=by simpa using h
  subst this;simp [tkCs,tkC]
 |x::xs,i+1,t,h=>by
  have ih:=tkCs_at xs i t (by simpa using h)
  have e:tkCs (x::xs)=tkC x++tkCs xs:=by simp [tkCs]
  have e2:∀j,(tkCs (x::xs))[(i+1)*4+j]?=(tkCs xs)[i*4+j]?:=λ j=>by
   rw [e,List.getElem?_append_right (by simp [tkC];omega)]
   congr 1
   simp [tkC];omega
  refine ⟨?_,?_,?_,?_⟩
  ·have:=e2 0;rw [Nat.add_zero,Nat.add_zero] at this;rw [this];exact ih.1
  ·rw [e2];exact ih.2.1
  ·rw [e2];exact ih.2.2.1
  ·rw [e2];exact ih.2.2.2
theorem TkRow.src {w:World} {B:Nat} {v:Value} {xs:List Tk} (h:TkRow w B v xs):∃A c,v=.slice A xs.length c/\xs.length<=c/\c<=maxLen/\(A=none->c=0)/\TkSrc w A xs.length xs:=by
 rcases h.2 with ⟨rfl,h0⟩|⟨g,cap,cur,rfl,hb,hh,hc,hm,hs,ht⟩
 ·refine ⟨none,0,by rw [h0],by omega,by unfold maxLen;omega,λ _=>rfl,rfl,λ i t hi=>?_⟩;have:=(List.getElem?_eq_some_iff.1 hi).1;omega
 ·refine ⟨some ⟨g,0,none⟩,cap,rfl,hc,hm,(λ h=>nomatch h),rfl,λ i t hi=>⟨g,rfl,?_⟩⟩;have hl:=(List.getElem?_eq_some_iff.1 hi).1
  have e:∀j u,j<4->(tkCs xs)[i*4+j]?=some u->w.cell? ⟨g,i*4+j,none⟩=some u:=λ j u hj hu=>by
   rw [cell_of_row w g _ cur _ _ hh,<-hu,<-ht,List.getElem?_take,if_pos (by omega)];simp
  have hx:=tkCs_at xs i t hi;exact ⟨e 0 _ (by omega) hx.1,e 1 _ (by omega) hx.2.1,e 2 _ (by omega) hx.2.2.1,e 3 _ (by omega) hx.2.2.2⟩
theorem TkSrc.below {w w':World} {A:Option Addr} {n:Nat} {xs:List Tk} (h:TkSrc w A n xs) (hb:Below w.heap.size w w'):TkSrc w' A n xs :=
 ⟨h.1,λ i t hi=>by
  obtain ⟨g,e,h0,h1,h2,h3⟩:=h.2 i t hi
  exact ⟨g,e,by rw [hb.cell (World.block_lt_of_cell? w _ h0)];exact h0,by rw [hb.cell (World.block_lt_of_cell? w _ h1)];exact h1,by rw [hb.cell (World.block_lt_of_cell? w _ h2)];exact h2,by rw [hb.cell (World.block_lt_of_cell? w _ h3)];exact h3⟩⟩
theorem TkSrc.take {w:World} {A:Option Addr} {n:Nat} {xs:List Tk} (h:TkSrc w A n xs) {k:Nat} (hk:k<=n):TkSrc w A k (xs.take k) :=
 ⟨by rw [List.length_take,h.1];omega,λ i t hi=>h.2 i t (by
  rw [List.getElem?_take] at hi
  split at hi
  ·exact hi
  ·cases hi)⟩
end Go.Proofs.YtifekcbinjdfbaaGreatDoor
namespace Go.Proofs.YtifekcbinjdfbaaGreatDoor
open Go.RowKit
def TkAt (w:World) (A:Option Addr) (n:Nat) (xs:List Tk):Prop:=xs.length=n/\∀(i:Nat) (t:Tk),xs[i]?=some t->∃g o,A=some ⟨g,o,none⟩ /\
 w.cell? ⟨g,o+i*4,none⟩=some (.int .i64 t.kind)/\w.cell? ⟨g,o+i*4+1,none⟩=some (txV t.text)/\w.cell? ⟨g,o+i*4+2,none⟩=some (.int .i64 t.num)/\w.cell? ⟨g,o+i*4+3,none⟩=some (.int .i64 t.at_)
theorem TkSrc.at {w:World} {A:Option Addr} {n:Nat} {xs:List Tk} (h:TkSrc w A n xs):TkAt w A n xs :=
 ⟨h.1,λ i t hi=>by
  obtain ⟨g,e,h0,h1,h2,h3⟩:=h.2 i t hi
  exact ⟨g,0,e,by rw [Nat.zero_add];exact h0,by rw [Nat.zero_add];exact h1,by rw [Nat.zero_add];exact h2,by rw [Nat.zero_add];exact h3⟩⟩
def RdB (w:World) (b:Nat) (A:Option Addr) (n c:Nat) (q d:Nat) (code pos:Int):Prop:=w.heap[b]?=some (.cells #[.slice A n c,.int .i64 (q:Int),.int .i64 (d:Int),.int .i64 code,.int .i64 pos] 219 (0,0))
section
variable {w w':World} {b n c q d:Nat} {A:Option Addr} {code pos:Int}
theorem RdB.lt (h:RdB w b A n c q d code pos):b<w.heap.size:=by
 rcases Nat.lt_or_ge b w.heap.size with hlt|hge
 ·exact hlt
 ·unfold RdB at h;rw [Array.getElem?_eq_none hge] at h;cases h
theorem RdB.c0 (h:RdB w b A n c q d code pos):w.cell? ⟨b,0,none⟩=some (.slice A n c):=cell_of_row w b 0 _ _ _ h
theorem RdB.c1 (h:RdB w b A n c q d code pos):w.cell? ⟨b,1,none⟩=some (.int .i64 (q:Int)):=cell_of_row w b 1 _ _ _ h
theorem RdB.c2 (h:RdB w b A n c q d code pos):w.cell? ⟨b,2,none⟩=some (.int .i64 (d:Int)):=cell_of_row w b 2 _ _ _ h
theorem RdB.c3 (h:RdB w b A n c q d code pos):w.cell? ⟨b,3,none⟩=some (.int .i64 code):=cell_of_row w b 3 _ _ _ h
theorem RdB.c4 (h:RdB w b A n c q d code pos):w.cell? ⟨b,4,none⟩=some (.int .i64 pos):=cell_of_row w b 4 _ _ _ h
theorem RdB.fr (h:RdB w b A n c q d code pos) (i:Nat):w.frozen? ⟨b,i,none⟩=false:=by
 unfold RdB at h;simp [World.frozen?,h]
theorem RdB.below (h:RdB w b A n c q d code pos) (hb:Below w.heap.size w w'):RdB w' b A n c q d code pos:=(hb.block b h.lt).trans h
theorem RdB.alloc (h:RdB w b A n c q d code pos) (o:Obj):RdB (w.alloc o) b A n c q d code pos:=(Below.heap_alloc w o b h.lt).trans h
theorem RdB.mv {g:Nat} (h:RdB w b A n c q d code pos) (hb:Mv g w w') (hn:b≠g):RdB w' b A n c q d code pos:=(hb.block h.lt hn).trans h
theorem RdB.set1 (h:RdB w b A n c q d code pos) (q':Nat):RdB (w.setCell ⟨b,1,none⟩ (.int .i64 (q':Int))) b A n c q' d code pos:=heap_setCell_same w b 1 _ _ _ h
theorem RdB.set2 (h:RdB w b A n c q d code pos) (d':Nat):RdB (w.setCell ⟨b,2,none⟩ (.int .i64 (d':Int))) b A n c q d' code pos:=heap_setCell_same w b 2 _ _ _ h
end
theorem Mv.drew {b:Nat} {w w':World} (h:Mv b w w'):Mv b w w'.drew:=h.trans ⟨rfl,rfl,rfl,n_ _,λ _ _ _=>rfl⟩
theorem TkAt.get {w:World} {A:Option Addr} {n:Nat} {xs:List Tk} (h:TkAt w A n xs) {q:Nat} (hq:q<n):∃t,xs[q]?=some t:=⟨_,List.getElem?_eq_getElem (by rw [h.1];exact hq)⟩
def wrC (t:Tk):Int:=if t.kind=5 then 3 else 4
theorem TkAt.below {w w':World} {A:Option Addr} {n:Nat} {xs:List Tk} (h:TkAt w A n xs) (hb:Below w.heap.size w w'):TkAt w' A n xs :=
 ⟨h.1,λ i t hi=>by
  obtain ⟨g,o,e,h0,h1,h2,h3⟩:=h.2 i t hi
  exact ⟨g,o,e,by rw [hb.cell (World.block_lt_of_cell? w _ h0)];exact h0,by rw [hb.cell (World.block_lt_of_cell? w _ h1)];exact h1,by rw [hb.cell (World.block_lt_of_cell? w _ h2)];exact h2,by rw [hb.cell (World.block_lt_of_cell? w _ h3)];exact h3⟩⟩
def RowsAt (w:World) (g:Nat) (f:List UInt8×Int->Value):Prop:=∀k,k<6->∃gk,w.cell? ⟨g,k,none⟩=some (.slice (some ⟨gk,0,none⟩) (rowOps k).length (rowOps k).length)/\∀(i:Nat) (o:List UInt8×Int),(rowOps k)[i]?=some o->w.cell? ⟨gk,i,none⟩=some (f o)
theorem RowsAt.below {w w':World} {g:Nat} {f:List UInt8×Int->Value} (h:RowsAt w g f) (hb:Below w.heap.size w w'):RowsAt w' g f:=λ k hk=>by
 obtain ⟨gk,h1,h2⟩:=h k hk;exact ⟨gk,by rw [hb.cell (World.block_lt_of_cell? w _ h1)];exact h1,λ i o ho=>by rw [hb.cell (World.block_lt_of_cell? w _ (h2 i o ho))];exact h2 i o ho⟩
theorem find_yes {α:Type} {p:α->Bool}:∀{l:List α} {i:Nat} {o:α},l[i]?=some o->p o=true->(∀j x,j<i->l[j]?=some x->p x=false)->l.find? p=some o
 |[],i,o,h,_,_=>by simp at h
 |x::l,0,o,h,hp,_=>by
  have:x=o:=by simpa using h
  subst this;rw [List.find?_cons,hp]
 |x::l,i+1,o,h,hp,hn=>by
  rw [List.find?_cons,hn 0 x (by omega) rfl];exact find_yes (by simpa using h) hp (λ j y hj hy=>hn (j+1) y (by omega) (by simpa using hy))
theorem find_no {α:Type} {p:α->Bool} {l:List α} (h:∀j x,j<l.length->l[j]?=some x->p x=false):l.find? p=none:=by
 rw [List.find?_eq_none];intro x hx;obtain ⟨j,hj⟩:=List.getElem?_of_mem hx;rw [h j x ((List.getElem?_eq_some_iff.1 hj).1) hj];decide
theorem rowOps_len (k:Nat):(rowOps k).length<=4:=by
 match k with
 |0=>decide
 |1=>decide
 |2=>decide
 |3=>decide
 |4=>decide
 |5=>decide
 |k+6=>simp [rowOps]
def XpB (w:World) (g:Nat) (v:EV):Prop:=w.heap[g]?=some (.cells #[.int .i64 v.kind,.int .i64 v.num,.string v.name,.int .i64 v.op,.slice v.A v.len v.cap,.int .i64 v.p] 40 (0,0))
def ev0:EV:=⟨0,0,⟨#[]⟩,0,none,0,0,0⟩
section
variable {w w':World} {g:Nat} {v:EV}
theorem XpB.lt (h:XpB w g v):g<w.heap.size:=by
 rcases Nat.lt_or_ge g w.heap.size with hlt|hge
 ·exact hlt
 ·unfold XpB at h;rw [Array.getElem?_eq_none hge] at h;cases h
theorem XpB.c0 (h:XpB w g v):w.cell? ⟨g,0,none⟩=some (.int .i64 v.kind):=cell_of_row w g 0 _ _ _ h
theorem XpB.c1 (h:XpB w g v):w.cell? ⟨g,1,none⟩=some (.int .i64 v.num):=cell_of_row w g 1 _ _ _ h
theorem XpB.c2 (h:XpB w g v):w.cell? ⟨g,2,none⟩=some (.string v.name):=cell_of_row w g 2 _ _ _ h
theorem XpB.c3 (h:XpB w g v):w.cell? ⟨g,3,none⟩=some (.int .i64 v.op):=cell_of_row w g 3 _ _ _ h
theorem XpB.c4 (h:XpB w g v):w.cell? ⟨g,4,none⟩=some (.slice v.A v.len v.cap):=cell_of_row w g 4 _ _ _ h
theorem XpB.c5 (h:XpB w g v):w.cell? ⟨g,5,none⟩=some (.int .i64 v.p):=cell_of_row w g 5 _ _ _ h
theorem XpB.fr (h:XpB w g v) (i:Nat):w.frozen? ⟨g,i,none⟩=false:=by
 unfold XpB at h;simp [World.frozen?,h]
theorem XpB.below (h:XpB w g v) (hb:Below w.heap.size w w'):XpB w' g v:=(hb.block g h.lt).trans h
theorem XpB.alloc (h:XpB w g v) (o:Obj):XpB (w.alloc o) g v:=(Below.heap_alloc w o g h.lt).trans h
theorem XpB.mv {b:Nat} (h:XpB w g v) (hb:Mv b w w') (hn:g≠b):XpB w' g v:=(hb.block h.lt hn).trans h
theorem XpB.new (w:World) (v:EV):XpB (w.alloc (.cells #[.int .i64 v.kind,.int .i64 v.num,.string v.name,.int .i64 v.op,.slice v.A v.len v.cap,.int .i64 v.p] 40)) w.heap.size v:=heap_alloc_new w _
def six (w:World) (g:Nat) (u:EV):World:=(((((w.setCell ⟨g,0,none⟩ (.int .i64 u.kind)).setCell ⟨g,1,none⟩ (.int .i64 u.num)).setCell ⟨g,2,none⟩ (.string u.name)).setCell ⟨g,3,none⟩ (.int .i64 u.op)).setCell ⟨g,4,none⟩ (.slice u.A u.len u.cap)).setCell ⟨g,5,none⟩ (.int .i64 u.p)
theorem XpB.all (h:XpB w g v) (u:EV):XpB (six w g u) g u:=by
 have h0:=heap_setCell_same w g 0 _ _ (.int .i64 u.kind) h;have h1:=heap_setCell_same _ g 1 _ _ (.int .i64 u.num) h0;have h2:=heap_setCell_same _ g 2 _ _ (.string u.name) h1;have h3:=heap_setCell_same _ g 3 _ _ (.int .i64 u.op) h2;have h4:=heap_setCell_same _ g 4 _ _ (.slice u.A u.len u.cap) h3;exact heap_setCell_same _ g 5 _ _ (.int .i64 u.p) h4
theorem six_mv (w:World) (g:Nat) (u:EV):Mv g w (six w g u):=((((((Mv.refl g w).set 0 _).set 1 _).set 2 _).set 3 _).set 4 _).set 5 _
theorem six_put {b:Nat} {u0:World} (h:Mv b u0 w) (hg:u0.heap.size<=g) (u:EV):Mv b u0 (six w g u):=(((((h.put 0 g hg _).put 1 g hg _).put 2 g hg _).put 3 g hg _).put 4 g hg _).put 5 g hg _
theorem XpB.load (h:XpB w g v):(loadVar 40 ⟨g,0,none⟩).run Tryz.prog w=.ok v.val w :=
 run_loadVar_row w g _ _ _ _ _ h Tryz.underlying40 rfl (by kernel_rfl)
theorem XpB.res {fn:Func} {p:Tmp} (hr:fn.results=#[.cell p 40]) (tmps:Array Value) (hp:tmps.getD p undef=.pointer (some ⟨g,0,none⟩)) (h:XpB w g v) :
  (results fn tmps).run Tryz.prog w=.ok v.val w:=by
 have hp':tmps[p]?.getD undef=.pointer (some ⟨g,0,none⟩):=by simpa using hp
 simp [results,hr,hp',asAddr,h.load]
end
theorem GV.mv {w w':World} {lo b:Nat} {x:GX} {v:EV} (h:GV w lo w.heap.size x v) (hm:Mv b w w') (hb:b<lo):GV w' lo w'.heap.size x v :=
 (h.same (λ g h1 h2=>hm.block h2 (by omega))).mono (n_ _) (World.grownBy.size hm)
theorem TkAt.mv {w w':World} {A:Option Addr} {n b:Nat} {xs:List Tk} (h:TkAt w A n xs) (hm:Mv b w w') (hn:∀g o,A=some ⟨g,o,none⟩->g≠b):TkAt w' A n xs :=
 ⟨h.1,λ i t hi=>by
  obtain ⟨g,o,e,h0,h1,h2,h3⟩:=h.2 i t hi;have hb:w'.heap[g]?=w.heap[g]?:=hm.block (World.block_lt_of_cell? w _ h0) (hn g o e);have e':∀j,w'.cell? ⟨g,j,none⟩=w.cell? ⟨g,j,none⟩:=λ j=>World.cell?_of_block (w:=w) hb
  exact ⟨g,o,e,by rw [e'];exact h0,by rw [e'];exact h1,by rw [e'];exact h2,by rw [e'];exact h3⟩⟩
def RP (w':World) (lo b n c d:Nat) (A:Option Addr) (xs:List Tk) (v:EV):PR->Prop
 |.out=>False
 |.ok x r=>GV w' lo w'.heap.size x.gx v/\TkEnds r/\∃q,q<n/\xs.drop q=r/\RdB w' b A n c q d 0 0
 |.bad code p=>code≠0/\∃q,q<n/\RdB w' b A n c q d code p
theorem wrC_ne (t:Tk):wrC t≠0:=by unfold wrC;split <;> decide
theorem wrongAt_eq (t:Tk):wrongAt t=.bad (wrC t) t.at_:=by unfold wrongAt wrC;split <;> rfl
theorem drop_get {xs r:List Tk} {q:Nat} {t:Tk} (h:xs.drop q=t::r):xs[q]?=some t/\q<xs.length/\xs.drop (q+1)=r:=by
 have hq:q<xs.length:=by
  rcases Nat.lt_or_ge q xs.length with h1|h1
  ·exact h1
  ·rw [List.drop_of_length_le h1] at h;cases h
 rw [List.drop_eq_getElem_cons hq] at h;injection h with h1 h2;exact ⟨by rw [List.getElem?_eq_getElem hq,h1],hq,h2⟩
theorem ends_cons {l:List Tk} (h:TkEnds l):∃t r,l=t::r:=by
 cases l with
 |nil=>exact absurd rfl h.ne
 |cons t r=>exact ⟨t,r,rfl⟩
theorem RP.rd {w':World} {lo b n c d:Nat} {A:Option Addr} {xs:List Tk} {v:EV} {e:PR} (h:RP w' lo b n c d A xs v e):∃q code pos,q<n/\RdB w' b A n c q d code pos:=by
 cases e with
 |out=>exact absurd h (by intro h;exact h)
 |ok x r=>obtain ⟨_,_,q,hq,_,hr⟩:=h;exact ⟨q,0,0,hq,hr⟩
 |bad code p=>obtain ⟨_,q,hq,hr⟩:=h;exact ⟨q,code,p,hq,hr⟩
def xob (v:EV):Obj:=.cells #[.int .i64 v.kind,.int .i64 v.num,.string v.name,.int .i64 v.op,.slice v.A v.len v.cap,.int .i64 v.p] 40
theorem RP.one {W:World} {lo lo' b n c d g:Nat} {A:Option Addr} {xs:List Tk} {v:EV} {e:PR} (h:RP W lo' b n c (d+1) A xs v e) (hb:b<lo') (hg:g<lo') (hlo:lo<=lo') (h5:lo'<=W.heap.size) (hne:b≠g) (op p:Int) :
  RP (six (((W.setCell ⟨b,2,none⟩ (.int .i64 (d:Int))).alloc (xob v)).alloc (xob v)) g ⟨4,0,⟨#[]⟩,op,some ⟨W.heap.size+1,0,none⟩,1,1,p⟩) lo b n c d A xs ⟨4,0,⟨#[]⟩,op,some ⟨W.heap.size+1,0,none⟩,1,1,p⟩
   (e.andThen λ x r'=>.ok (.one op x p) r'):=by
 cases e with
 |out=>exact absurd h (by intro h;exact h)
 |bad code q =>
  obtain ⟨hc,q',hq,hr⟩:=h;exact ⟨hc,q',hq,(((hr.set2 d).alloc _).alloc _).mv (six_mv _ g _) hne⟩
 |ok x r =>
  obtain ⟨hv,he,q',hq,hx,hr⟩:=h;refine ⟨?_,he,q',hq,hx,(((hr.set2 d).alloc _).alloc _).mv (six_mv _ g _) hne⟩;have hm:Mv b W (W.setCell ⟨b,2,none⟩ (.int .i64 (d:Int))):=(Mv.refl b W).set 2 _;have h1:=hv.mv hm hb;have hs1:=World.grownBy.size hm
  obtain ⟨W1,hW1⟩:∃W1,W1=W.setCell ⟨b,2,none⟩ (.int .i64 (d:Int)):=⟨_,rfl⟩
  have hsz:W1.heap.size=W.heap.size:=by rw [hW1];simp [World.setCell]
  rw [<-hW1] at h1 hs1 ⊢;have h2:GV (W1.alloc (xob v)) lo' (W1.alloc (xob v)).heap.size x.gx v:=(h1.below ((b_ _ W1).alloc (n_ _) _) (n_ _)).mono (n_ _) (by simp)
  have hsz2:(W1.alloc (xob v)).heap.size=W.heap.size+1:=by simp [hsz]
  have h3:=h2.one_new (by omega) 40 op p;rw [hsz2] at h3
  have h4:GV ((W1.alloc (xob v)).alloc (xob v)) lo' ((W1.alloc (xob v)).alloc (xob v)).heap.size (.mk 4 0 [] op [x.gx] p) ⟨4,0,⟨#[]⟩,op,some ⟨W.heap.size+1,0,none⟩,1,1,p⟩:=by
   have e:((W1.alloc (xob v)).alloc (xob v)).heap.size=W.heap.size+1+1:=by simp [hsz]
   rw [e];exact h3
  exact (h4.mv (six_mv _ g _) hg).mono hlo (n_ _)
theorem RP.put {W:World} {lo lo' b n c d g:Nat} {A:Option Addr} {xs:List Tk} {v:EV} {e:PR} (h:RP W lo' b n c d A xs v e) (hg:g<lo') (hlo:lo<=lo') (hne:b≠g):RP (six W g v) lo b n c d A xs v e:=by
 cases e with
 |out=>exact absurd h (by intro h;exact h)
 |bad code q =>
  obtain ⟨hc,q',hq,hr⟩:=h;exact ⟨hc,q',hq,hr.mv (six_mv _ g _) hne⟩
 |ok x r =>
  obtain ⟨hv,he,q',hq,hx,hr⟩:=h;exact ⟨(hv.mv (six_mv _ g _) hg).mono hlo (n_ _),he,q',hq,hx,hr.mv (six_mv _ g _) hne⟩
theorem RP.alloc {W:World} {lo b n c d:Nat} {A:Option Addr} {xs:List Tk} {v:EV} {e:PR} (h:RP W lo b n c d A xs v e) (ob:Obj):RP (W.alloc ob) lo b n c d A xs v e:=by
 cases e with
 |out=>exact absurd h (by intro h;exact h)
 |bad code q =>
  obtain ⟨hc,q',hq,hr⟩:=h;exact ⟨hc,q',hq,hr.alloc _⟩
 |ok x r =>
  obtain ⟨hv,he,q',hq,hx,hr⟩:=h;exact ⟨(hv.below ((b_ _ W).alloc (n_ _) _) (n_ _)).mono (n_ _) (by simp),he,q',hq,hx,hr.alloc _⟩
theorem RP.up {W:World} {lo b n c d:Nat} {A:Option Addr} {xs:List Tk} {v:EV} {e:PR} (h:RP W lo b n c (d+1) A xs v e) (hb:b<lo):RP (W.setCell ⟨b,2,none⟩ (.int .i64 (d:Int))) lo b n c d A xs v e:=by
 cases e with
 |out=>exact absurd h (by intro h;exact h)
 |bad code q =>
  obtain ⟨hc,q',hq,hr⟩:=h;exact ⟨hc,q',hq,hr.set2 d⟩
 |ok x r =>
  obtain ⟨hv,he,q',hq,hx,hr⟩:=h;exact ⟨hv.mv ((Mv.refl b W).set 2 _) hb,he,q',hq,hx,hr.set2 d⟩
theorem RP.below {W W':World} {lo b n c d:Nat} {A:Option Addr} {xs:List Tk} {v:EV} {e:PR} (h:RP W lo b n c d A xs v e) (hb:Below W.heap.size W W'):RP W' lo b n c d A xs v e:=by
 cases e with
 |out=>exact absurd h (by intro h;exact h)
 |bad code q =>
  obtain ⟨hc,q',hq,hr⟩:=h;exact ⟨hc,q',hq,hr.below hb⟩
 |ok x r =>
  obtain ⟨hv,he,q',hq,hx,hr⟩:=h;exact ⟨(hv.below hb (n_ _)).mono (n_ _) hb.size,he,q',hq,hx,hr.below hb⟩
def opN (k:Nat):PR->Int
 |.ok _ r=>opAt k r
 |_=>0
theorem GV.pos {w:World} {lo hi:Nat}:∀{x:GX} {v:EV},GV w lo hi x v->v.p=x.p
 |.mk _ _ _ _ _ _,_,h=>by
  unfold GV at h;exact h.2.2.2.2.1
def xob2 (v u:EV):Obj:=.cells #[.int .i64 v.kind,.int .i64 v.num,.string v.name,.int .i64 v.op,.slice v.A v.len v.cap,.int .i64 v.p,.int .i64 u.kind,.int .i64 u.num,.string u.name,.int .i64 u.op,.slice u.A u.len u.cap,.int .i64 u.p] 40
theorem RP.both {W:World} {lo lo' b n c d:Nat} {A:Option Addr} {xs:List Tk} {x:Ex} {v u:EV} {e:PR} (hx:GV W lo W.heap.size x.gx v) (h:RP W lo' b n c d A xs u e) (hlo:lo<=lo') (h5:lo'<=W.heap.size) (op:Int) :
  RP (W.alloc (xob2 v u)) lo b n c d A xs ⟨5,0,⟨#[]⟩,op,some ⟨W.heap.size,0,none⟩,2,2,v.p⟩ (e.andThen λ y r=>.ok (.both op x y) r):=by
 cases e with
 |out=>exact absurd h (by intro h;exact h)
 |bad code q =>
  obtain ⟨hc,q',hq,hr⟩:=h;exact ⟨hc,q',hq,hr.alloc _⟩
 |ok y r =>
  obtain ⟨hv,he,q',hq,hd,hr⟩:=h;refine ⟨?_,he,q',hq,hd,hr.alloc _⟩;have h1:=hx.both_new (hv.mono hlo (n_ _)) (Nat.le_trans hlo h5) 40 op v.p
  have e:(W.alloc (xob2 v u)).heap.size=W.heap.size+1:=by simp
  rw [e];have hp:=hx.pos;rw [gx_p] at hp;show GV _ lo _ (.mk 5 0 [] op [x.gx,y.gx] x.pos) _;rw [<-hp];exact h1
theorem opN_more {k d:Nat} (hk:k<6) {x:Ex} {r:List Tk} (h:opN k (.ok x r)≠0):Pm k d x r=((Pf (k+1) d r.tail).andThen λ y r'=>.ok (.both (opN k (.ok x r)) x y) r').andThen λ z r'=>Pm k d z r':=by
 have h':¬opAt k r=0:=h;rw [Pm_eq hk,if_neg h'];show _=((Pf (k+1) d r.tail).andThen λ y r'=>.ok (.both (opAt k r) x y) r').andThen _
 cases Pf (k+1) d r.tail <;> rfl
theorem opN_none {k d:Nat} (hk:k<6) {e:PR} (h:opN k e=0):(e.andThen λ z r=>Pm k d z r)=e:=by
 cases e with
 |out=>rfl
 |bad _ _=>rfl
 |ok x r =>
  show Pm k d x r=_;rw [Pm_eq hk,if_pos (show opAt k r=0 from h)]
def NX (w:World) (lo g:Nat) (x:GX) (v:EV):Prop:=∀W':World,(∀i,lo<=i->i<w.heap.size->i≠g->W'.heap[i]?=w.heap[i]?)->GV W' lo w.heap.size x v
theorem NX.gv {w:World} {lo g:Nat} {x:GX} {v:EV} (h:NX w lo g x v):GV w lo w.heap.size x v:=h w (λ _ _ _ _=>rfl)
theorem NX.new {W:World} {lo:Nat} {x:GX} {v:EV} (h:GV W lo W.heap.size x v) (ob:Obj):NX (W.alloc ob) lo W.heap.size x v:=λ W' hs =>
 (h.same (λ i h1 h2=>(hs i h1 (by simp;omega) (by omega)).trans (Below.heap_alloc W ob i h2))).mono (n_ _) (by simp)
theorem NX.mv {w w':World} {lo g b:Nat} {x:GX} {v:EV} (h:NX w lo g x v) (hm:Mv b w w') (hb:b<lo∨b=g):NX w' lo g x v:=λ W' hs=>by
 have hsz:=World.grownBy.size hm;exact (h W' (λ i h1 h2 h3=>(hs i h1 (by omega) h3).trans (hm.block h2 (by omega)))).mono (n_ _) hsz
theorem NX.both {W:World} {lo lo' g:Nat} {x y:GX} {v u:EV} (hx:NX W lo g x v) (hy:GV W lo' W.heap.size y u) (hg:g<lo') (hlo:lo<=lo') (h5:lo'<=W.heap.size) (op p:Int) :
  NX (W.alloc (xob2 v u)) lo g (.mk 5 0 [] op [x,y] p) ⟨5,0,⟨#[]⟩,op,some ⟨W.heap.size,0,none⟩,2,2,p⟩:=λ W' hs=>by
 have e:(W.alloc (xob2 v u)).heap.size=W.heap.size+1:=by simp
 rw [e] at hs ⊢;have ha:W'.heap[W.heap.size]?=some (xob2 v u):=(hs _ (by omega) (by omega) (by omega)).trans (heap_alloc_new W _);have hs':∀i,lo<=i->i<W.heap.size->i≠g->W'.heap[i]?=W.heap[i]?:=λ i h1 h2 h3=>(hs i h1 (by omega) h3).trans (Below.heap_alloc W _ i h2);have h1:=(hx W' hs').mono (n_ lo) (Nat.le_succ _);have h2:=((hy.same (λ i h1 h2=>hs' i (by omega) h2 (by omega)))).mono hlo (Nat.le_succ _);unfold xob2 at ha;unfold GV;refine ⟨rfl,rfl,rfl,rfl,rfl,rfl,n_ _,(by decide:2<=maxLen),?_⟩;unfold GRow GRow GRow;refine ⟨⟨W.heap.size,0,v,rfl,by omega,by omega,?_,h1⟩,⟨W.heap.size,0,u,rfl,by omega,by omega,?_,h2⟩,trivial⟩
 ·exact ⟨cell_of_row W' _ 0 _ _ _ ha,cell_of_row W' _ 1 _ _ _ ha,cell_of_row W' _ 2 _ _ _ ha,cell_of_row W' _ 3 _ _ _ ha,cell_of_row W' _ 4 _ _ _ ha,cell_of_row W' _ 5 _ _ _ ha⟩
 ·exact ⟨cell_of_row W' _ 6 _ _ _ ha,cell_of_row W' _ 7 _ _ _ ha,cell_of_row W' _ 8 _ _ _ ha,cell_of_row W' _ 9 _ _ _ ha,cell_of_row W' _ 10 _ _ _ ha,cell_of_row W' _ 11 _ _ _ ha⟩
def RX (w':World) (lo b n c d g:Nat) (A:Option Addr) (xs:List Tk) (v:EV):PR->Prop
 |.out=>False
 |.ok x r=>NX w' lo g x.gx v/\TkEnds r/\∃q,q<n/\xs.drop q=r/\RdB w' b A n c q d 0 0
 |.bad code p=>code≠0/\∃q,q<n/\RdB w' b A n c q d code p
section
variable {W W':World} {lo lo' b n c d g:Nat} {A:Option Addr} {xs:List Tk} {v u:EV} {e:PR}
theorem RX.new (h:RP W lo b n c d A xs v e) (ob:Obj):RX (W.alloc ob) lo b n c d W.heap.size A xs v e:=by
 cases e with
 |out=>exact absurd h (by intro h;exact h)
 |bad code q=>obtain ⟨hc,q',hq,hr⟩:=h;exact ⟨hc,q',hq,hr.alloc _⟩
 |ok x r=>obtain ⟨hv,he,q',hq,hx,hr⟩:=h;exact ⟨NX.new hv ob,he,q',hq,hx,hr.alloc _⟩
theorem RX.mv {b':Nat} (h:RX W lo b n c d g A xs v e) (hm:Mv b' W W') (hb:b'=g) (hne:b≠b'):RX W' lo b n c d g A xs v e:=by
 cases e with
 |out=>exact absurd h (by intro h;exact h)
 |bad code q=>obtain ⟨hc,q',hq,hr⟩:=h;exact ⟨hc,q',hq,hr.mv hm hne⟩
 |ok x r=>obtain ⟨hv,he,q',hq,hx,hr⟩:=h;exact ⟨hv.mv hm (.inr hb),he,q',hq,hx,hr.mv hm hne⟩
theorem RX.below (h:RX W lo b n c d g A xs v e) (hb:Below W.heap.size W W') (hbl:b<lo):RX W' lo b n c d g A xs v e:=by
 cases e with
 |out=>exact absurd h (by intro h;exact h)
 |bad code q=>obtain ⟨hc,q',hq,hr⟩:=h;exact ⟨hc,q',hq,hr.below hb⟩
 |ok x r=>obtain ⟨hv,he,q',hq,hx,hr⟩:=h;exact ⟨hv.mv (Mv.of b hb) (.inl hbl),he,q',hq,hx,hr.below hb⟩
theorem RX.both {x:Ex} (hx:NX W lo g x.gx v) (h:RP W lo' b n c d A xs u e) (hg:g<lo') (hlo:lo<=lo') (h5:lo'<=W.heap.size) (op:Int) :
  RX (W.alloc (xob2 v u)) lo b n c d g A xs ⟨5,0,⟨#[]⟩,op,some ⟨W.heap.size,0,none⟩,2,2,v.p⟩ (e.andThen λ y r=>.ok (.both op x y) r):=by
 cases e with
 |out=>exact absurd h (by intro h;exact h)
 |bad code q=>obtain ⟨hc,q',hq,hr⟩:=h;exact ⟨hc,q',hq,hr.alloc _⟩
 |ok y r =>
  obtain ⟨hv,he,q',hq,hd,hr⟩:=h;refine ⟨?_,he,q',hq,hd,hr.alloc _⟩;have hp:=hx.gv.pos;rw [gx_p] at hp;show NX _ lo g (.mk 5 0 [] op [x.gx,y.gx] x.pos) _;rw [<-hp];exact hx.both hv hg hlo h5 op v.p
end
theorem opAt_sign {k:Nat} {t:Tk} {r:List Tk} (h:opAt k (t::r)≠0):t.kind=4:=by
 by_cases hk:t.kind=4
 ·exact hk
 ·exfalso;apply h;rw [opAt_cons,find_no (λ j x _ _=>by simp [isSg,hk])]
end Go.Proofs.YtifekcbinjdfbaaGreatDoor
