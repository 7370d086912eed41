import Derived.Test.YtocecpghoncmgaaGreatDoorQh
import Derived.Test.YtocecpghoncmgaaGreatDoorQVaX
import Derived.Laws.StructEq
import Derived.Deep.QuietTactic
import Derived.BigQuiet
import Derived.Test.YtocecpghoncmgaaGreatDoorQXA
import Derived.Deep.WholeRow
import Derived.Laws.Tables
import Derived.RegionTactic
set_option maxHeartbeats 12800000
set_option maxRecDepth 20000
namespace Go.Proofs.YtocecpghoncmgaaGreatDoor
structure SyVar where
 name:List UInt8
 num:Int
 at_:Int
structure SyAct where
 kind:Int
 name:List UInt8
 value:Option Ex
 at_:Int
structure SyMove where
 kind:Int
 event:List UInt8
 wait:Int
 guarded:Bool
 guard:Option Ex
 acts:List SyAct
 targets:List (List UInt8)
 at_:Int
inductive SyNode where
 |mk (kind:Int) (name initial default:List UInt8) (enter leave:List SyAct) (moves:List SyMove) (kids:List SyNode) (at_:Int)
structure SyChart where
 vars:List SyVar
 root:SyNode
structure Ss where
 ts:List Tk
 n:Nat
 m:Nat
 a:Nat
inductive Rs (α:Type) where
 |out
 |bad (code p:Int)
 |ok (x:α) (s:Ss)
def Rs.bind {α β:Type} (e:Rs α) (g:α->Ss->Rs β):Rs β:=match e with
 |.ok x s=>g x s
 |.out=>.out
 |.bad c p=>.bad c p
@[simp] theorem Rs.bind_ok {α β:Type} (x:α) (s:Ss) (g:α->Ss->Rs β):(Rs.ok x s).bind g=g x s:=rfl
@[simp] theorem Rs.bind_bad {α β:Type} (c p:Int) (g:α->Ss->Rs β):(Rs.bad c p:Rs α).bind g=.bad c p:=rfl
@[simp] theorem Rs.bind_out {α β:Type} (g:α->Ss->Rs β):(Rs.out:Rs α).bind g=.out:=rfl
theorem Rs.some {α β:Type} {e:Rs α} {g:α->Ss->Rs β} {y:β} {r:Ss} (h:e.bind g=.ok y r):∃x s,e=.ok x s/\g x s=.ok y r:=by
 cases e with
 |out=>cases h
 |bad c p=>cases h
 |ok x s=>exact ⟨x,s,rfl,h⟩
theorem Rs.congr {α β:Type} {e:Rs α} {g g':α->Ss->Rs β} (h:∀x s,e=.ok x s->g x s=g' x s):e.bind g=e.bind g':=by
 cases e with
 |out=>rfl
 |bad c p=>rfl
 |ok x s=>exact h x s rfl
theorem Rs.assoc {α β γ:Type} (e:Rs α) (g:α->Ss->Rs β) (h:β->Ss->Rs γ):(e.bind g).bind h=e.bind λ x s=>(g x s).bind h:=by
 cases e <;> rfl
def Takes {α:Type} (k:Nat) (s:Ss) (e:Rs α):Prop:=∀x s',e=.ok x s'->s'.ts.length+k<=s.ts.length
theorem Takes.bind {α β:Type} {k l:Nat} {s:Ss} {e:Rs α} {g:α->Ss->Rs β} (h:Takes k s e) (hg:∀x s',e=.ok x s'->Takes l s' (g x s')):Takes (k+l) s (e.bind g):=λ y r hy=>by
 obtain ⟨x,s',e1,e2⟩:=Rs.some hy;have:=h x s' e1;have:=hg x s' e1 y r e2;omega
theorem Takes.mono {α:Type} {k l:Nat} {s:Ss} {e:Rs α} (h:Takes k s e) (hl:l<=k):Takes l s e:=λ x s' hx=>by
 have:=h x s' hx;omega
theorem Takes.le_of {α:Type} {k:Nat} {s u:Ss} {e:Rs α} (h:Takes k u e) (hl:u.ts.length<=s.ts.length):Takes k s e:=λ x s' hx=>by
 have:=h x s' hx;omega
theorem Takes.ok {α:Type} (x:α) (s:Ss):Takes 0 s (.ok x s):=λ y s' h=>by
 injection h with _ h;subst h;exact n_ _
theorem Takes.bad {α:Type} (k:Nat) (s:Ss) (c p:Int):Takes k s (.bad c p:Rs α):=λ _ _ h=>by cases h
theorem Takes.out {α:Type} (k:Nat) (s:Ss):Takes k s (.out:Rs α):=λ _ _ h=>by cases h
theorem Takes.next {α:Type} {k:Nat} {s:Ss} {t:Tk} {r:List Tk} {n m a:Nat} {e:Rs α} (hs:s.ts=t::r) (h:Takes k ⟨r,n,m,a⟩ e):Takes (k+1) s e:=λ x s' hx=>by
 have:=h x s' hx;rw [hs,List.length_cons];simp only at this;omega
def itF {σ:Type} (stp:σ->Ss->Rs (σ×Bool)):Nat->σ->Ss->Rs σ
 |0,_,_=>.out
 |f+1,x,s=>(stp x s).bind λ y s'=>if y.2=true then itF stp f y.1 s' else .ok y.1 s'
def Goes {σ:Type} (stp:σ->Ss->Rs (σ×Bool)):Prop:=∀x s y s',stp x s=.ok (y,true) s'->s'.ts.length<s.ts.length
def Keeps {σ:Type} (stp:σ->Ss->Rs (σ×Bool)):Prop:=∀x s,Takes 0 s (stp x s)
theorem itF_same {σ:Type} {stp:σ->Ss->Rs (σ×Bool)} (hg:Goes stp):∀f f' x s,s.ts.length<f->s.ts.length<f'->itF stp f x s=itF stp f' x s
 |0,_,_,_,h,_=>by omega
 |_+1,0,_,_,_,h=>by omega
 |f+1,f' + 1,x,s,h,h'=>by
  rw [itF,itF];refine Rs.congr λ y s' e=>?_
  split
  ·rename_i hy
   have e':stp x s=.ok (y.1,true) s':=by rw [e,<-hy]
   have:=hg _ _ _ _ e';exact itF_same hg f f' _ _ (by omega) (by omega)
  ·rfl
theorem itF_takes {σ:Type} {stp:σ->Ss->Rs (σ×Bool)} (hk:Keeps stp):∀f x s,Takes 0 s (itF stp f x s)
 |0,_,s=>.out 0 s
 |f+1,x,s=>by
  rw [itF];refine Takes.bind (k:=0) (l:=0) (hk x s) λ y s' _=>?_
  split
  ·exact itF_takes hk f _ _
  ·exact .ok _ _
def It {σ:Type} (stp:σ->Ss->Rs (σ×Bool)) (x:σ) (s:Ss):Rs σ:=itF stp (s.ts.length+1) x s
theorem It_eq {σ:Type} {stp:σ->Ss->Rs (σ×Bool)} (hg:Goes stp) (x:σ) (s:Ss):It stp x s=(stp x s).bind λ y s'=>if y.2=true then It stp y.1 s' else .ok y.1 s':=by
 unfold It;rw [itF];refine Rs.congr λ y s' e=>?_
 split
 ·rename_i hy
  have e':stp x s=.ok (y.1,true) s':=by rw [e,<-hy]
  have:=hg _ _ _ _ e';exact itF_same hg _ _ _ _ (by omega) (by omega)
 ·rfl
theorem It_takes {σ:Type} {stp:σ->Ss->Rs (σ×Bool)} (hk:Keeps stp) (x:σ) (s:Ss):Takes 0 s (It stp x s):=itF_takes hk _ x s
def isTk (k:Int) (u:List UInt8) (t:Tk):Bool:=decide (t.kind=k)&&decide (t.text=u)
def isAt (k:Int) (u:List UInt8):List Tk->Bool
 |[]=>false
 |t::_=>isTk k u t
def wrongR {α:Type}:List Tk->Rs α
 |[]=>.bad 0 0
 |t::_=>if t.kind=5 then .bad 3 t.at_ else .bad 4 t.at_
def stopR {α:Type} (c:Int):List Tk->Rs α
 |[]=>.bad 0 0
 |t::_=>.bad c t.at_
def atOf:List Tk->Int
 |[]=>0
 |t::_=>t.at_
def kindOf:List Tk->Int
 |[]=>0
 |t::_=>t.kind
theorem wrongR_cons {α:Type} (t:Tk) (r:List Tk):(wrongR (t::r):Rs α)=if t.kind=5 then .bad 3 t.at_ else .bad 4 t.at_:=rfl
theorem wrongR_takes {α:Type} (k:Nat) (s:Ss) (ts:List Tk):Takes k s (wrongR ts:Rs α):=by
 cases ts with
 |nil=>exact Takes.bad _ _ _ _
 |cons t r=>rw [wrongR_cons];split <;> exact Takes.bad _ _ _ _
theorem stopR_takes {α:Type} (k:Nat) (s:Ss) (c:Int) (ts:List Tk):Takes k s (stopR c ts:Rs α):=by
 cases ts with
 |nil=>exact Takes.bad _ _ _ _
 |cons t r=>exact Takes.bad _ _ _ _
def Ss.drop (s:Ss):Ss:=⟨s.ts.tail,s.n,s.m,s.a⟩
def mustR (k:Int) (u:List UInt8) (s:Ss):Rs Unit:=if isAt k u s.ts=true then .ok () s.drop else wrongR s.ts
def nameR (s:Ss):Rs (List UInt8×Int):=match s.ts with
 |[]=>.bad 0 0
 |t::r=>if t.kind=1 then .ok (t.text,t.at_) ⟨r,s.n,s.m,s.a⟩ else wrongR (t::r)
def numR (s:Ss):Rs Int:=match s.ts with
 |[]=>.bad 0 0
 |t::r=>if t.kind=3 then .ok t.num ⟨r,s.n,s.m,s.a⟩ else wrongR (t::r)
def exprR (s:Ss):Rs Ex:=match Pf 0 0 s.ts with
 |.out=>.out
 |.bad c p=>.bad c p
 |.ok x r=>.ok x ⟨r,s.n,s.m,s.a⟩
theorem isAt_cons {k:Int} {u:List UInt8} {ts:List Tk} (h:isAt k u ts=true):∃t r,ts=t::r:=by
 cases ts with
 |nil=>cases h
 |cons t r=>exact ⟨t,r,rfl⟩
theorem drop_takes {α:Type} {k:Int} {u:List UInt8} {s:Ss} (h:isAt k u s.ts=true) (x:α):Takes 1 s (.ok x s.drop):=λ y s' e=>by
 injection e with _ e;obtain ⟨t,r,hs⟩:=isAt_cons h;subst e;show s.ts.tail.length+1<=_;rw [hs];exact n_ _
theorem mustR_takes (k:Int) (u:List UInt8) (s:Ss):Takes 1 s (mustR k u s):=by
 unfold mustR
 split
 ·exact drop_takes (by assumption) _
 ·exact wrongR_takes _ _ _
theorem nameR_takes (s:Ss):Takes 1 s (nameR s):=by
 unfold nameR
 split
 ·exact Takes.bad _ _ _ _
 ·rename_i t r hs
  split
  ·exact .next (k:=0) hs (.ok _ _)
  ·exact wrongR_takes _ _ _
theorem numR_takes (s:Ss):Takes 1 s (numR s):=by
 unfold numR
 split
 ·exact Takes.bad _ _ _ _
 ·rename_i t r hs
  split
  ·exact .next (k:=0) hs (.ok _ _)
  ·exact wrongR_takes _ _ _
theorem exprR_takes (s:Ss):Takes 1 s (exprR s):=λ y s' h=>by
 unfold exprR at h
 split at h
 ·cases h
 ·cases h
 ·rename_i x r e;injection h with _ h;subst h;exact Pf_len e
def wSet:List UInt8:=[115,101,116]
def wRaise:List UInt8:=[114,97,105,115,101]
def wEmit:List UInt8:=[101,109,105,116]
def wOn:List UInt8:=[111,110]
def wAlways:List UInt8:=[97,108,119,97,121,115]
def wAfter:List UInt8:=[97,102,116,101,114]
def wInitial:List UInt8:=[105,110,105,116,105,97,108]
def wEnter:List UInt8:=[101,110,116,101,114]
def wLeave:List UInt8:=[108,101,97,118,101]
def wState:List UInt8:=[115,116,97,116,101]
def wParallel:List UInt8:=[112,97,114,97,108,108,101,108]
def wHistory:List UInt8:=[104,105,115,116,111,114,121]
def wDeep:List UInt8:=[100,101,101,112]
def wVar:List UInt8:=[118,97,114]
def wChart:List UInt8:=[99,104,97,114,116]
def wordAt (ts:List Tk):List (List UInt8)->Nat->Nat
 |[],_=>0
 |u::l,i=>if isAt 2 u ts=true then i else wordAt ts l (i+1)
def actK (ts:List Tk):Nat:=wordAt ts [wSet,wRaise,wEmit] 1
def moveK (ts:List Tk):Nat:=wordAt ts [wOn,wAlways,wAfter] 1
def nodeK (ts:List Tk):Nat:=wordAt ts [wState,wParallel,wHistory,wDeep] 1
theorem wordAt_cons {ts:List Tk}:∀{l:List (List UInt8)} {i:Nat},wordAt ts l i≠0->∃t r,ts=t::r
 |[],_,h=>absurd rfl h
 |u::l,i,h=>by
  unfold wordAt at h
  split at h
  ·exact isAt_cons (by assumption)
  ·exact wordAt_cons h
theorem dropW_takes {α:Type} {s:Ss} {l:List (List UInt8)} {i k n m a:Nat} (h:wordAt s.ts l i≠0) {e:Rs α} (he:Takes k ⟨s.ts.tail,n,m,a⟩ e):Takes (k+1) s e:=by
 obtain ⟨t,r,hs⟩:=wordAt_cons h;rw [hs,List.tail_cons] at he;exact .next hs he
def actV (k:Nat) (s:Ss):Rs (Option Ex) :=
 if k=2 then .ok none s else (mustR 4 [61] s).bind λ _ s=>(exprR s).bind λ x s=>.ok (some x) s
def actR (s:Ss):Rs SyAct :=
 if actK s.ts=0 then wrongR s.ts
 else if s.a=400 then stopR 2 s.ts
 else (nameR ⟨s.ts.tail,s.n,s.m,s.a+1⟩).bind λ x s1=>(actV (actK s.ts) s1).bind λ v s2=>(mustR 4 [59] s2).bind λ _ s3 =>
  .ok ⟨actK s.ts,x.1,v,atOf s.ts⟩ s3
theorem actV_takes (k:Nat) (s:Ss):Takes 0 s (actV k s):=by
 unfold actV
 split
 ·exact .ok _ _
 ·exact (Takes.bind (mustR_takes _ _ _) λ _ s1 _=>Takes.bind (exprR_takes s1) λ _ s2 _=>Takes.ok _ _).mono (by omega)
theorem actR_takes (s:Ss):Takes 1 s (actR s):=by
 unfold actR
 split
 ·exact wrongR_takes _ _ _
 ·rename_i h0
  split
  ·exact stopR_takes _ _ _ _
  ·exact (dropW_takes h0 (Takes.bind (nameR_takes _) λ _ _ _=>Takes.bind (actV_takes _ _) λ _ _ _=>Takes.bind (mustR_takes _ _ _) λ _ _ _=>Takes.ok _ _)).mono (by omega)
def blkS (l:List SyAct) (s:Ss):Rs (List SyAct×Bool) :=
 if isAt 4 [125] s.ts=true then .ok (l,false) s.drop else (actR s).bind λ x s'=>.ok (l++[x],true) s'
def blockR (s:Ss):Rs (List SyAct):=(mustR 4 [123] s).bind λ _ s'=>It blkS [] s'
theorem blkS_goes:Goes blkS:=λ x s y s' h=>by
 unfold blkS at h
 split at h
 ·injection h with h _;injection h with _ h;cases h
 ·obtain ⟨z,s1,e,h⟩:=Rs.some h;injection h with _ h;have:=actR_takes s _ _ e;subst h;omega
theorem blkS_keeps:Keeps blkS:=λ x s=>by
 unfold blkS
 split
 ·exact (drop_takes (by assumption) _).mono (by omega)
 ·exact (Takes.bind (actR_takes s) λ _ _ _=>Takes.ok _ _).mono (by omega)
theorem blockR_takes (s:Ss):Takes 1 s (blockR s):=(Takes.bind (mustR_takes _ _ s) λ _ _ _=>It_takes blkS_keeps _ _).mono (by omega)
def evR (k:Nat) (s:Ss):Rs (List UInt8):=if k=1 then (nameR s).bind λ x s=>.ok x.1 s else .ok [] s
def waitR (k:Nat) (s:Ss):Rs Int:=if k=3 then numR s else .ok 0 s
def guardR (s:Ss):Rs (Option Ex):=if isAt 4 [91] s.ts=true then (exprR s.drop).bind λ x s=>(mustR 4 [93] s).bind λ _ s=>.ok (some x) s else .ok none s
def actsR (s:Ss):Rs (List SyAct):=if isAt 4 [123] s.ts=true then blockR s else .ok [] s
def tgtS (l:List (List UInt8)) (s:Ss):Rs (List (List UInt8)×Bool):=(nameR s).bind λ x s=>if isAt 4 [44] s.ts=true then .ok (l++[x.1],true) s.drop else .ok (l++[x.1],false) s
def tgtR (s:Ss):Rs (List (List UInt8)):=if isAt 4 [45,62] s.ts=true then It tgtS [] s.drop else .ok [] s
theorem drop_le (s:Ss):s.drop.ts.length<=s.ts.length:=by
 show s.ts.tail.length<=_;rw [List.length_tail];omega
theorem Takes.dropped {α:Type} {k:Nat} {s:Ss} {e:Rs α} (h:Takes k s.drop e):Takes k s e:=λ x s' hx=>by
 have:=h x s' hx;have:=drop_le s;omega
theorem tgtS_keeps:Keeps tgtS:=λ x s=>by
 refine (Takes.bind (l:=0) (nameR_takes s) λ z s1 _=>?_).mono (by omega)
 split
 ·exact (Takes.ok _ _).dropped
 ·exact .ok _ _
theorem evR_takes (k:Nat) (s:Ss):Takes 0 s (evR k s):=by
 unfold evR
 split
 ·exact (Takes.bind (nameR_takes s) λ _ _ _=>Takes.ok _ _).mono (by omega)
 ·exact .ok _ _
theorem waitR_takes (k:Nat) (s:Ss):Takes 0 s (waitR k s):=by
 unfold waitR
 split
 ·exact (numR_takes s).mono (by omega)
 ·exact .ok _ _
theorem guardR_takes (s:Ss):Takes 0 s (guardR s):=by
 unfold guardR
 split
 ·exact ((Takes.bind (exprR_takes _) λ _ _ _=>Takes.bind (mustR_takes _ _ _) λ _ _ _=>Takes.ok _ _).mono (by omega)).dropped
 ·exact .ok _ _
theorem actsR_takes (s:Ss):Takes 0 s (actsR s):=by
 unfold actsR
 split
 ·exact (blockR_takes s).mono (by omega)
 ·exact .ok _ _
theorem tgtR_takes (s:Ss):Takes 0 s (tgtR s):=by
 unfold tgtR
 split
 ·exact (It_takes tgtS_keeps _ _).dropped
 ·exact .ok _ _
def moveR (s:Ss):Rs SyMove :=
 if s.m=200 then stopR 2 s.ts
 else (evR (moveK s.ts) ⟨s.ts.tail,s.n,s.m+1,s.a⟩).bind λ e s1=>(waitR (moveK s.ts) s1).bind λ w s2=>(guardR s2).bind λ g s3 =>
  (actsR s3).bind λ l s4=>(tgtR s4).bind λ q s5=>(mustR 4 [59] s5).bind λ _ s6=>.ok ⟨moveK s.ts,e,w,g.isSome,g,l,q,atOf s.ts⟩ s6
theorem moveR_takes (s:Ss):Takes 1 s (moveR s):=by
 unfold moveR
 split
 ·exact stopR_takes _ _ _ _
 ·refine (Takes.bind (k:=0) (l:=1) (s:=⟨s.ts.tail,s.n,s.m+1,s.a⟩) (evR_takes _ _) λ _ _ _=>?_).le_of ?_
  ·exact (Takes.bind (waitR_takes _ _) λ _ _ _=>Takes.bind (guardR_takes _) λ _ _ _=>Takes.bind (actsR_takes _) λ _ _ _=>Takes.bind (tgtR_takes _) λ _ _ _=>Takes.bind (mustR_takes _ _ _) λ _ _ _=>Takes.ok _ _).mono (by omega)
  ·show s.ts.tail.length<=_;rw [List.length_tail];omega
structure SyB where
 initial:List UInt8
 enter:List SyAct
 leave:List SyAct
 moves:List SyMove
 hi:Bool
 he:Bool
 hl:Bool
def SyB.none:SyB:=⟨[],[],[],[],false,false,false⟩
def initS (b:SyB) (s:Ss):Rs (SyB×Bool) :=
 if b.hi=true then wrongR s.ts else (nameR s.drop).bind λ x s1=>(mustR 4 [59] s1).bind λ _ s2=>.ok (⟨x.1,b.enter,b.leave,b.moves,true,b.he,b.hl⟩,true) s2
def enterS (b:SyB) (s:Ss):Rs (SyB×Bool) :=
 if b.he=true then wrongR s.ts else (blockR s.drop).bind λ l s1=>.ok (⟨b.initial,l,b.leave,b.moves,b.hi,true,b.hl⟩,true) s1
def leaveS (b:SyB) (s:Ss):Rs (SyB×Bool) :=
 if b.hl=true then wrongR s.ts else (blockR s.drop).bind λ l s1=>.ok (⟨b.initial,b.enter,l,b.moves,b.hi,b.he,true⟩,true) s1
def movS (b:SyB) (s:Ss):Rs (SyB×Bool) :=
 if moveK s.ts=0 then .ok (b,false) s else (moveR s).bind λ x s1=>.ok (⟨b.initial,b.enter,b.leave,b.moves++[x],b.hi,b.he,b.hl⟩,true) s1
def clauseS (b:SyB) (s:Ss):Rs (SyB×Bool) :=
 if isAt 2 wInitial s.ts=true then initS b s
 else if isAt 2 wEnter s.ts=true then enterS b s
 else if isAt 2 wLeave s.ts=true then leaveS b s
 else movS b s
theorem drop_lt {s:Ss} {t:Tk} {r:List Tk} (h:s.ts=t::r):s.drop.ts.length+1=s.ts.length:=by
 show s.ts.tail.length+1=_;rw [h];rfl
def Steps {σ:Type} (s:Ss) (e:Rs (σ×Bool)):Prop:=∀y b s',e=.ok (y,b) s'->s'.ts.length+(if b=true then 1 else 0)<=s.ts.length
theorem Steps.of {σ:Type} {s:Ss} {e:Rs (σ×Bool)} (h:Takes 1 s e):Steps s e:=λ y b s' e'=>by
 have:=h _ _ e'
 split <;> omega
theorem Steps.stop {σ:Type} (s:Ss) (x:σ):Steps s (.ok (x,false) s):=λ y b s' e'=>by
 injection e' with e1 e2;injection e1 with _ e1;subst e1 e2;exact n_ _
theorem clauseS_steps (b:SyB) (s:Ss):Steps s (clauseS b s):=by
 unfold clauseS
 split
 ·obtain ⟨t,r,hs⟩:=isAt_cons (by assumption);have hd:=drop_lt hs;unfold initS
  split
  ·exact .of (wrongR_takes _ _ _)
  ·exact .of ((Takes.bind (nameR_takes _) λ _ _ _=>Takes.bind (mustR_takes _ _ _) λ _ _ _=>Takes.ok _ _).mono (by omega) |>.le_of (drop_le s))
 ·split
  ·obtain ⟨t,r,hs⟩:=isAt_cons (by assumption);unfold enterS
   split
   ·exact .of (wrongR_takes _ _ _)
   ·exact .of ((Takes.bind (blockR_takes _) λ _ _ _=>Takes.ok _ _).mono (by omega) |>.le_of (drop_le s))
  ·split
   ·unfold leaveS
    split
    ·exact .of (wrongR_takes _ _ _)
    ·exact .of ((Takes.bind (blockR_takes _) λ _ _ _=>Takes.ok _ _).mono (by omega) |>.le_of (drop_le s))
   ·unfold movS
    split
    ·exact .stop _ _
    ·exact .of ((Takes.bind (moveR_takes _) λ _ _ _=>Takes.ok _ _).mono (by omega))
theorem goes_of {σ:Type} {stp:σ->Ss->Rs (σ×Bool)} (h:∀x s,Steps s (stp x s)):Goes stp:=λ x s y s' e=>by
 have:=h x s y true s' e;rw [if_pos rfl] at this;omega
theorem keeps_of {σ:Type} {stp:σ->Ss->Rs (σ×Bool)} (h:∀x s,Steps s (stp x s)):Keeps stp:=λ x s y s' e=>by
 have:=h x s y.1 y.2 s' e;omega
theorem clauseS_goes:Goes clauseS:=goes_of clauseS_steps
theorem clauseS_keeps:Keeps clauseS:=keeps_of clauseS_steps
def kidS (nd:Ss->Rs SyNode) (l:List SyNode) (s:Ss):Rs (List SyNode×Bool) :=
 if nodeK s.ts=0 then .ok (l,false) s else (nd s).bind λ x s1=>.ok (l++[x],true) s1
theorem kidS_steps {nd:Ss->Rs SyNode} (h:∀s,Takes 1 s (nd s)) (l:List SyNode) (s:Ss):Steps s (kidS nd l s):=by
 unfold kidS
 split
 ·exact .stop _ _
 ·exact .of ((Takes.bind (h s) λ _ _ _=>Takes.ok _ _).mono (by omega))
theorem kidS_goes {nd:Ss->Rs SyNode} (h:∀s,Takes 1 s (nd s)):Goes (kidS nd):=goes_of (kidS_steps h)
theorem kidS_keeps {nd:Ss->Rs SyNode} (h:∀s,Takes 1 s (nd s)):Keeps (kidS nd):=keeps_of (kidS_steps h)
def bodyR (nd:Ss->Rs SyNode) (s:Ss):Rs (SyB×List SyNode):=(It clauseS SyB.none s).bind λ b s1=>(It (kidS nd) [] s1).bind λ l s2=>.ok (b,l) s2
theorem bodyR_takes {nd:Ss->Rs SyNode} (h:∀s,Takes 1 s (nd s)) (s:Ss):Takes 0 s (bodyR nd s) :=
 Takes.bind (k:=0) (l:=0) (It_takes clauseS_keeps _ s) λ _ _ _=>Takes.bind (k:=0) (l:=0) (It_takes (kidS_keeps h) _ _) λ _ _ _=>Takes.ok _ _
def namedR (d:Nat) (s:Ss):Rs (List UInt8×Int):=match s.ts with
 |[]=>.bad 0 0
 |t::r=>if t.kind=1 then (if s.n=64 then .bad 2 t.at_ else if d=0 then .bad 21 t.at_ else .ok (t.text,t.at_) ⟨r,s.n+1,s.m,s.a⟩) else wrongR (t::r)
theorem namedR_takes (d:Nat) (s:Ss):Takes 1 s (namedR d s):=by
 unfold namedR
 split
 ·exact Takes.bad _ _ _ _
 ·rename_i t r hs
  split
  ·split
   ·exact Takes.bad _ _ _ _
   ·split
    ·exact Takes.bad _ _ _ _
    ·exact .next (k:=0) hs (.ok _ _)
  ·exact wrongR_takes _ _ _
theorem namedR_zero (s:Ss):∃c p,namedR 0 s=.bad c p:=by
 unfold namedR
 split
 ·exact ⟨_,_,rfl⟩
 ·split
  ·split
   ·exact ⟨_,_,rfl⟩
   ·exact ⟨_,_,if_pos rfl⟩
  ·rw [wrongR_cons]
   split <;> exact ⟨_,_,rfl⟩
def histR (k:Nat) (x:List UInt8×Int) (s:Ss):Rs SyNode :=
 (mustR 4 [45,62] s).bind λ _ s2=>(nameR s2).bind λ y s3=>(mustR 4 [59] s3).bind λ _ s4=>.ok (.mk k x.1 [] y.1 [] [] [] [] x.2) s4
def nodeOf (k:Nat) (x:List UInt8×Int) (z:SyB×List SyNode):SyNode:=.mk k x.1 z.1.initial [] z.1.enter z.1.leave z.1.moves z.2 x.2
def innerR (nd:Ss->Rs SyNode) (k:Nat) (x:List UInt8×Int) (s:Ss):Rs SyNode :=
 (mustR 4 [123] s).bind λ _ s2=>(bodyR nd s2).bind λ z s3=>(mustR 4 [125] s3).bind λ _ s4=>.ok (nodeOf k x z) s4
def nodeR:Nat->Ss->Rs SyNode
 |0,s=>(namedR 0 s.drop).bind λ _ _=>.out
 |d+1,s=>(namedR (d+1) s.drop).bind λ x s1=>if 3<=nodeK s.ts then histR (nodeK s.ts) x s1 else innerR (nodeR d) (nodeK s.ts) x s1
theorem nodeR_takes:∀d s,Takes 1 s (nodeR d s)
 |0,s=>by
  unfold nodeR;obtain ⟨c,p,e⟩:=namedR_zero s.drop;rw [e];exact Takes.bad _ _ _ _
 |d+1,s=>by
  unfold nodeR;refine Takes.le_of (Takes.mono (Takes.bind (k:=1) (l:=0) (namedR_takes _ _) λ x s1 _=>?_) (by omega)) (drop_le s)
  split
  ·exact (Takes.bind (mustR_takes _ _ _) λ _ _ _=>Takes.bind (nameR_takes _) λ _ _ _=>Takes.bind (mustR_takes _ _ _) λ _ _ _=>Takes.ok _ _).mono (by omega)
  ·exact (Takes.bind (mustR_takes _ _ _) λ _ _ _=>Takes.bind (bodyR_takes (nodeR_takes d) _) λ _ _ _=>Takes.bind (mustR_takes _ _ _) λ _ _ _=>Takes.ok _ _).mono (by omega)
def vnameR (k:Nat) (s:Ss):Rs (List UInt8×Int):=match s.ts with
 |[]=>.bad 0 0
 |t::r=>if t.kind=1 then (if k=16 then .bad 2 t.at_ else .ok (t.text,t.at_) ⟨r,s.n,s.m,s.a⟩) else wrongR (t::r)
def vnumR (s:Ss):Rs Int:=if isAt 4 [45] s.ts=true then (numR s.drop).bind λ x s=>.ok (-x) s else numR s
def varS (l:List SyVar) (s:Ss):Rs (List SyVar×Bool) :=
 if isAt 2 wVar s.ts=true then (vnameR l.length s.drop).bind λ x s1=>(mustR 4 [61] s1).bind λ _ s2=>(vnumR s2).bind λ v s3=>(mustR 4 [59] s3).bind λ _ s4=>.ok (l++[⟨x.1,v,x.2⟩],true) s4
 else .ok (l,false) s
theorem vnameR_takes (k:Nat) (s:Ss):Takes 1 s (vnameR k s):=by
 unfold vnameR
 split
 ·exact Takes.bad _ _ _ _
 ·rename_i t r hs
  split
  ·split
   ·exact Takes.bad _ _ _ _
   ·exact .next (k:=0) hs (.ok _ _)
  ·exact wrongR_takes _ _ _
theorem vnumR_takes (s:Ss):Takes 1 s (vnumR s):=by
 unfold vnumR
 split
 ·exact ((Takes.bind (numR_takes _) λ _ _ _=>Takes.ok _ _).mono (by omega)).dropped
 ·exact numR_takes s
theorem varS_steps (l:List SyVar) (s:Ss):Steps s (varS l s):=by
 unfold varS
 split
 ·exact .of (((Takes.bind (vnameR_takes _ _) λ _ _ _=>Takes.bind (mustR_takes _ _ _) λ _ _ _=>Takes.bind (vnumR_takes _) λ _ _ _=>Takes.bind (mustR_takes _ _ _) λ _ _ _=>Takes.ok _ _).mono (by omega)).dropped)
 ·exact .stop _ _
theorem varS_goes:Goes varS:=goes_of varS_steps
def endR (c:SyChart) (s:Ss):Rs SyChart:=if kindOf s.ts=5 then .ok c s else wrongR s.ts
def chartR (s:Ss):Rs SyChart :=
 (mustR 2 wChart s).bind λ _ s1=>(namedR 12 s1).bind λ x s2=>(mustR 4 [123] s2).bind λ _ s3=>(It varS [] s3).bind λ l s4 =>
  (bodyR (nodeR 11) s4).bind λ z s5=>(mustR 4 [125] s5).bind λ _ s6=>endR ⟨l,nodeOf 1 x z⟩ s6
def syR (ts:List Tk):Rs SyChart:=chartR ⟨ts,0,0,0⟩
def tW (u:List UInt8):Tk:=⟨2,u,0,0⟩
def tN (u:List UInt8):Tk:=⟨1,u,0,0⟩
def tS (u:List UInt8):Tk:=⟨4,u,0,0⟩
def goN:List UInt8:=[103,111]
def xN:List UInt8:=[120]
def mvT (T:List Tk):List Tk:=tS [45,62]::tN xN::tS [59]::T
def eA (T:List Tk):List Tk:=tW wEnter::tS [123]::tS [125]::tW wOn::tN goN::mvT T
def syF (l:List UInt8):Rs SyChart:=if (scF l).2.1=0 then syR (scF l).1 else .bad (scF l).2.1 (scF l).2.2
end Go.Proofs.YtocecpghoncmgaaGreatDoor
namespace Go.Proofs.YtocecpghoncmgaaGreatDoor
open Go.RowKit
def TkSrc (w:World) (A:Option Addr) (n:Nat) (xs:List Tk):Prop:=xs.length=n/\∀(i:Nat) (t:Tk),xs[i]?=some t->∃g,A=some ⟨g,0,none⟩ /\
 w.cell? ⟨g,i*4,none⟩=some (.int .i64 t.kind)/\w.cell? ⟨g,i*4+1,none⟩=some (txV t.text)/\w.cell? ⟨g,i*4+2,none⟩=some (.int .i64 t.num)/\w.cell? ⟨g,i*4+3,none⟩=some (.int .i64 t.at_)
theorem tkCs_at:∀(xs:List Tk) (i:Nat) (t:Tk),xs[i]?=some t->(tkCs xs)[i*4]?=some (.int .i64 t.kind)/\(tkCs xs)[i*4+1]?=some (txV t.text)/\(tkCs xs)[i*4+2]?=some (.int .i64 t.num)/\(tkCs xs)[i*4+3]?=some (.int .i64 t.at_)
 |[],i,t,h=>by simp at h
 |x::xs,0,t,h=>by
  have:x=t:=by simpa using h
  subst this;simp [tkCs,tkC]
 |x::xs,i+1,t,h=>by
  have ih:=tkCs_at xs i t (by simpa using h)
  have e:tkCs (x::xs)=tkC x++tkCs xs:=by simp [tkCs]
  have e2:∀j,(tkCs (x::xs))[(i+1)*4+j]?=(tkCs xs)[i*4+j]?:=λ j=>by
   rw [e,List.getElem?_append_right (by simp [tkC];omega)]
   congr 1
   simp [tkC];omega
  refine ⟨?_,?_,?_,?_⟩
  ·have:=e2 0;rw [Nat.add_zero,Nat.add_zero] at this;rw [this];exact ih.1
  ·rw [e2];exact ih.2.1
  ·rw [e2];exact ih.2.2.1
  ·rw [e2];exact ih.2.2.2
theorem TkRow.src {w:World} {B:Nat} {v:Value} {xs:List Tk} (h:TkRow w B v xs):∃A c,v=.slice A xs.length c/\xs.length<=c/\c<=maxLen/\(A=none->c=0)/\TkSrc w A xs.length xs:=by
 rcases h.2 with ⟨rfl,h0⟩|⟨g,cap,cur,rfl,hb,hh,hc,hm,hs,ht⟩
 ·refine ⟨none,0,by rw [h0],by omega,by unfold maxLen;omega,λ _=>rfl,rfl,λ i t hi=>?_⟩;have:=(List.getElem?_eq_some_iff.1 hi).1;omega
 ·refine ⟨some ⟨g,0,none⟩,cap,rfl,hc,hm,(λ h=>nomatch h),rfl,λ i t hi=>⟨g,rfl,?_⟩⟩;have hl:=(List.getElem?_eq_some_iff.1 hi).1
  have e:∀j u,j<4->(tkCs xs)[i*4+j]?=some u->w.cell? ⟨g,i*4+j,none⟩=some u:=λ j u hj hu=>by
   rw [cell_of_row w g _ cur _ _ hh,<-hu,<-ht,List.getElem?_take,if_pos (by omega)];simp
  have hx:=tkCs_at xs i t hi;exact ⟨e 0 _ (by omega) hx.1,e 1 _ (by omega) hx.2.1,e 2 _ (by omega) hx.2.2.1,e 3 _ (by omega) hx.2.2.2⟩
end Go.Proofs.YtocecpghoncmgaaGreatDoor
namespace Go.Proofs.YtocecpghoncmgaaGreatDoor
open Go.RowKit
def TkAt (w:World) (A:Option Addr) (n:Nat) (xs:List Tk):Prop:=xs.length=n/\∀(i:Nat) (t:Tk),xs[i]?=some t->∃g o,A=some ⟨g,o,none⟩ /\
 w.cell? ⟨g,o+i*4,none⟩=some (.int .i64 t.kind)/\w.cell? ⟨g,o+i*4+1,none⟩=some (txV t.text)/\w.cell? ⟨g,o+i*4+2,none⟩=some (.int .i64 t.num)/\w.cell? ⟨g,o+i*4+3,none⟩=some (.int .i64 t.at_)
theorem TkSrc.at {w:World} {A:Option Addr} {n:Nat} {xs:List Tk} (h:TkSrc w A n xs):TkAt w A n xs :=
 ⟨h.1,λ i t hi=>by
  obtain ⟨g,e,h0,h1,h2,h3⟩:=h.2 i t hi
  exact ⟨g,0,e,by rw [Nat.zero_add];exact h0,by rw [Nat.zero_add];exact h1,by rw [Nat.zero_add];exact h2,by rw [Nat.zero_add];exact h3⟩⟩
section
variable {w w':World} {b n c q d:Nat} {A:Option Addr} {code pos:Int}
end
theorem TkAt.get {w:World} {A:Option Addr} {n:Nat} {xs:List Tk} (h:TkAt w A n xs) {q:Nat} (hq:q<n):∃t,xs[q]?=some t:=⟨_,List.getElem?_eq_getElem (by rw [h.1];exact hq)⟩
def wrC (t:Tk):Int:=if t.kind=5 then 3 else 4
theorem TkAt.below {w w':World} {A:Option Addr} {n:Nat} {xs:List Tk} (h:TkAt w A n xs) (hb:Below w.heap.size w w'):TkAt w' A n xs :=
 ⟨h.1,λ i t hi=>by
  obtain ⟨g,o,e,h0,h1,h2,h3⟩:=h.2 i t hi
  exact ⟨g,o,e,by rw [hb.cell (World.block_lt_of_cell? w _ h0)];exact h0,by rw [hb.cell (World.block_lt_of_cell? w _ h1)];exact h1,by rw [hb.cell (World.block_lt_of_cell? w _ h2)];exact h2,by rw [hb.cell (World.block_lt_of_cell? w _ h3)];exact h3⟩⟩
def XpB (w:World) (g:Nat) (v:EV):Prop:=w.heap[g]?=some (.cells #[.int .i64 v.kind,.int .i64 v.num,.string v.name,.int .i64 v.op,.slice v.A v.len v.cap,.int .i64 v.p] 55 (0,0))
def ev0:EV:=⟨0,0,⟨#[]⟩,0,none,0,0,0⟩
section
variable {w w':World} {g:Nat} {v:EV}
theorem XpB.lt (h:XpB w g v):g<w.heap.size:=by
 rcases Nat.lt_or_ge g w.heap.size with hlt|hge
 ·exact hlt
 ·unfold XpB at h;rw [Array.getElem?_eq_none hge] at h;cases h
theorem XpB.c0 (h:XpB w g v):w.cell? ⟨g,0,none⟩=some (.int .i64 v.kind):=cell_of_row w g 0 _ _ _ h
theorem XpB.c1 (h:XpB w g v):w.cell? ⟨g,1,none⟩=some (.int .i64 v.num):=cell_of_row w g 1 _ _ _ h
theorem XpB.c2 (h:XpB w g v):w.cell? ⟨g,2,none⟩=some (.string v.name):=cell_of_row w g 2 _ _ _ h
theorem XpB.c3 (h:XpB w g v):w.cell? ⟨g,3,none⟩=some (.int .i64 v.op):=cell_of_row w g 3 _ _ _ h
theorem XpB.c4 (h:XpB w g v):w.cell? ⟨g,4,none⟩=some (.slice v.A v.len v.cap):=cell_of_row w g 4 _ _ _ h
theorem XpB.c5 (h:XpB w g v):w.cell? ⟨g,5,none⟩=some (.int .i64 v.p):=cell_of_row w g 5 _ _ _ h
theorem XpB.alloc (h:XpB w g v) (o:Obj):XpB (w.alloc o) g v:=(Below.heap_alloc w o g h.lt).trans h
theorem XpB.mv {b:Nat} (h:XpB w g v) (hb:Mv b w w') (hn:g≠b):XpB w' g v:=(hb.block h.lt hn).trans h
theorem XpB.new (w:World) (v:EV):XpB (w.alloc (.cells #[.int .i64 v.kind,.int .i64 v.num,.string v.name,.int .i64 v.op,.slice v.A v.len v.cap,.int .i64 v.p] 55)) w.heap.size v:=heap_alloc_new w _
end
theorem TkAt.mv {w w':World} {A:Option Addr} {n b:Nat} {xs:List Tk} (h:TkAt w A n xs) (hm:Mv b w w') (hn:∀g o,A=some ⟨g,o,none⟩->g≠b):TkAt w' A n xs :=
 ⟨h.1,λ i t hi=>by
  obtain ⟨g,o,e,h0,h1,h2,h3⟩:=h.2 i t hi;have hb:w'.heap[g]?=w.heap[g]?:=hm.block (World.block_lt_of_cell? w _ h0) (hn g o e);have e':∀j,w'.cell? ⟨g,j,none⟩=w.cell? ⟨g,j,none⟩:=λ j=>World.cell?_of_block (w:=w) hb
  exact ⟨g,o,e,by rw [e'];exact h0,by rw [e'];exact h1,by rw [e'];exact h2,by rw [e'];exact h3⟩⟩
section
variable {W W':World} {lo lo' b n c d g:Nat} {A:Option Addr} {xs:List Tk} {v u:EV} {e:PR}
end
end Go.Proofs.YtocecpghoncmgaaGreatDoor
namespace Go.Proofs.YtocecpghoncmgaaGreatDoor
open Go.RowKit
section
variable {w w':World} {b n c q d:Nat} {A:Option Addr}
end
theorem FtB.mv {w w':World} {f g:Nat} {x y:Value} (h:FtB w f x y) (hm:Mv g w w') (hne:f≠g):FtB w' f x y:=h.grown hm (by simpa using hne)
def ftV (c p:Int):Value:=.agg #[.int .i64 c,.int .i64 p]
theorem TkB.res1 {w:World} {g:Nat} {x0 x1 x2 x3:Value} {fn:Func} {p:Tmp} (hr:fn.results=#[.cell p 131]) (tmps:Array Value) (hp:tmps.getD p undef=.pointer (some ⟨g,0,none⟩)) (h:TkB w g x0 x1 x2 x3) :
  (results fn tmps).run Tryz.prog w=.ok (.agg #[x0,x1,x2,x3]) w:=by
 have hp':tmps[p]?.getD undef=.pointer (some ⟨g,0,none⟩):=by simpa using hp
 simp [results,hr,hp',asAddr,h.load]
theorem FtB.res1 {w:World} {g:Nat} {x0 x1:Value} {fn:Func} {p:Tmp} (hr:fn.results=#[.cell p 34]) (tmps:Array Value) (hp:tmps.getD p undef=.pointer (some ⟨g,0,none⟩)) (h:FtB w g x0 x1) :
  (results fn tmps).run Tryz.prog w=.ok (.agg #[x0,x1]) w:=by
 have hp':tmps[p]?.getD undef=.pointer (some ⟨g,0,none⟩):=by simpa using hp
 simp [results,hr,hp',asAddr,h.load]
theorem below_four {B g:Nat} {u w:World} (h:Below B u w) (hB:B<=g) (y0 y1 y2 y3:Value):Below B u ((((w.setCell ⟨g,0,none⟩ y0).setCell ⟨g,1,none⟩ y1).setCell ⟨g,2,none⟩ y2).setCell ⟨g,3,none⟩ y3) :=
 (((h.setCell (p:=⟨g,0,none⟩) hB y0).setCell (p:=⟨g,1,none⟩) hB y1).setCell (p:=⟨g,2,none⟩) hB y2).setCell (p:=⟨g,3,none⟩) hB y3
theorem nm_size {s:List UInt8} (h:isNm s=true):s.length<=24:=by
 unfold isNm at h;simp at h;omega
def sgs:List (List UInt8):=[[],[43],[45],[42],[47],[37],[60],[60,61],[62],[62,61],[61,61],[33,61],[38,38],[124,124],[45],[33]]
def sgVals:List Value:=sgs.map λ k=>Value.string ⟨k.toArray⟩
def SgAt (w:World):Prop:=∃t fr,w.heap[1]?=some (.cells sgVals.toArray t fr)
theorem SgAt.lt {w:World} (h:SgAt w):1<w.heap.size:=by
 obtain ⟨t,fr,h⟩:=h;rcases Nat.lt_or_ge 1 w.heap.size with h'|h'
 ·exact h'
 ·rw [Array.getElem?_eq_none h'] at h;cases h
theorem SgAt.below {w w':World} (h:SgAt w) (hb:Below w.heap.size w w'):SgAt w':=by
 have hl:=h.lt;obtain ⟨t,fr,h⟩:=h;exact ⟨t,fr,by rw [hb.block _ hl];exact h⟩
theorem SgAt.cell {w:World} (h:SgAt w) {k:Nat} {x:List UInt8} (hx:sgs[k]?=some x):w.cell? ⟨1,k,none⟩=some (.string ⟨x.toArray⟩):=by
 obtain ⟨t,fr,h⟩:=h;rw [cell_of_row w 1 k _ _ _ h];simp [sgVals,hx]
def PR.code:PR->Int
 |.bad c _=>c
 |_=>0
def PR.pt:PR->Int
 |.bad _ p=>p
 |_=>0
def ftP (e:PR):Value:=ftV e.code e.pt
structure Vs (w:World):Prop where
 kw:KwAt w
 sg:SgAt w
theorem Vs.below {w w':World} (h:Vs w) (hb:Below w.heap.size w w'):Vs w':=⟨h.kw.below hb,h.sg.below hb⟩
def two (w:World) (g:Nat) (c p:Int):World:=(w.setCell ⟨g,0,none⟩ (.int .i64 c)).setCell ⟨g,1,none⟩ (.int .i64 p)
theorem two_mv (w:World) (g:Nat) (c p:Int):Mv g w (two w g c p):=((Mv.refl g w).set 0 _).set 1 _
theorem FtB.two {w:World} {g:Nat} {x y:Value} (h:FtB w g x y) (c p:Int):FtB (two w g c p) g (.int .i64 c) (.int .i64 p):=h.all _ _
section
variable {w u0:World} {g1 g2:Nat}
theorem two_sz (w:World) (g:Nat) (c p:Int):(two w g c p).heap.size=w.heap.size:=by simp [two,World.setCell]
end
end Go.Proofs.YtocecpghoncmgaaGreatDoor
