import Derived.Test.YtcddbfdbhjkjgaaGreatDoorQh
import Derived.Test.YtcddbfdbhjkjgaaGreatDoorXE
import Derived.Test.YtcddbfdbhjkjgaaGreatDoorXA
import Derived.Test.YtcddbfdbhjkjgaaGreatDoorXB
import Derived.Laws.StructEq
import Derived.Deep.QuietTactic
import Derived.BigQuiet
import Derived.Deep.WholeRow
import Derived.Laws.Tables
set_option maxHeartbeats 12800000
set_option maxRecDepth 20000
namespace Go.Proofs.YtcddbfdbhjkjgaaGreatDoor
structure SyVar where
 name:List UInt8
 num:Int
 at_:Int
structure SyAct where
 kind:Int
 name:List UInt8
 value:Option Ex
 at_:Int
structure SyMove where
 kind:Int
 event:List UInt8
 wait:Int
 guarded:Bool
 guard:Option Ex
 acts:List SyAct
 targets:List (List UInt8)
 at_:Int
inductive SyNode where
 |mk (kind:Int) (name initial default:List UInt8) (enter leave:List SyAct) (moves:List SyMove) (kids:List SyNode) (at_:Int)
structure SyChart where
 vars:List SyVar
 root:SyNode
structure Ss where
 ts:List Tk
 n:Nat
 m:Nat
 a:Nat
inductive Rs (α:Type) where
 |out
 |bad (code p:Int)
 |ok (x:α) (s:Ss)
def Rs.bind {α β:Type} (e:Rs α) (g:α→Ss→Rs β):Rs β:=match e with
 |.ok x s=>g x s
 |.out=>.out
 |.bad c p=>.bad c p
@[simp] theorem Rs.bind_ok {α β:Type} (x:α) (s:Ss) (g:α→Ss→Rs β):(Rs.ok x s).bind g=g x s:=rfl
@[simp] theorem Rs.bind_bad {α β:Type} (c p:Int) (g:α→Ss→Rs β):(Rs.bad c p:Rs α).bind g=.bad c p:=rfl
@[simp] theorem Rs.bind_out {α β:Type} (g:α→Ss→Rs β):(Rs.out:Rs α).bind g=.out:=rfl
theorem Rs.some {α β:Type} {e:Rs α} {g:α→Ss→Rs β} {y:β} {r:Ss} (h:e.bind g=.ok y r):∃x s,e=.ok x s∧g x s=.ok y r:=by
 cases e with
 |out=>cases h
 |bad c p=>cases h
 |ok x s=>exact ⟨x,s,rfl,h⟩
theorem Rs.congr {α β:Type} {e:Rs α} {g g':α→Ss→Rs β} (h:∀x s,e=.ok x s→g x s=g' x s):e.bind g=e.bind g':=by
 cases e with
 |out=>rfl
 |bad c p=>rfl
 |ok x s=>exact h x s rfl
theorem Rs.notOut {α β:Type} {e:Rs α} {g:α→Ss→Rs β} (h0:e≠.out) (h:∀x s,e=.ok x s→g x s≠.out):e.bind g≠.out:=by
 cases e with
 |out=>exact absurd rfl h0
 |bad c p=>intro h;cases h
 |ok x s=>exact h x s rfl
theorem Rs.assoc {α β γ:Type} (e:Rs α) (g:α→Ss→Rs β) (h:β→Ss→Rs γ):(e.bind g).bind h=e.bind fun x s=>(g x s).bind h:=by
 cases e <;> rfl
def Takes {α:Type} (k:Nat) (s:Ss) (e:Rs α):Prop:=∀x s',e=.ok x s'→s'.ts.length+k≤s.ts.length
theorem Takes.bind {α β:Type} {k l:Nat} {s:Ss} {e:Rs α} {g:α→Ss→Rs β} (h:Takes k s e) (hg:∀x s',e=.ok x s'→Takes l s' (g x s')):Takes (k+l) s (e.bind g):=fun y r hy=>by
 obtain ⟨x,s',e1,e2⟩:=Rs.some hy
 have:=h x s' e1
 have:=hg x s' e1 y r e2
 omega
theorem Takes.mono {α:Type} {k l:Nat} {s:Ss} {e:Rs α} (h:Takes k s e) (hl:l≤k):Takes l s e:=fun x s' hx=>by
 have:=h x s' hx
 omega
theorem Takes.le_of {α:Type} {k:Nat} {s u:Ss} {e:Rs α} (h:Takes k u e) (hl:u.ts.length≤s.ts.length):Takes k s e:=fun x s' hx=>by
 have:=h x s' hx
 omega
theorem Takes.ok {α:Type} (x:α) (s:Ss):Takes 0 s (.ok x s):=fun y s' h=>by
 injection h with _ h
 subst h
 exact n_ _
theorem Takes.bad {α:Type} (k:Nat) (s:Ss) (c p:Int):Takes k s (.bad c p:Rs α):=fun _ _ h=>by cases h
theorem Takes.out {α:Type} (k:Nat) (s:Ss):Takes k s (.out:Rs α):=fun _ _ h=>by cases h
theorem Takes.next {α:Type} {k:Nat} {s:Ss} {t:Tk} {r:List Tk} {n m a:Nat} {e:Rs α} (hs:s.ts=t::r) (h:Takes k ⟨r,n,m,a⟩ e):Takes (k+1) s e:=fun x s' hx=>by
 have:=h x s' hx
 rw [hs,List.length_cons]
 simp only at this
 omega
def itF {σ:Type} (stp:σ→Ss→Rs (σ×Bool)):Nat→σ→Ss→Rs σ
 |0,_,_=>.out
 |f+1,x,s=>(stp x s).bind fun y s'=>if y.2=true then itF stp f y.1 s' else .ok y.1 s'
def Goes {σ:Type} (stp:σ→Ss→Rs (σ×Bool)):Prop:=∀x s y s',stp x s=.ok (y,true) s'→s'.ts.length<s.ts.length
def Keeps {σ:Type} (stp:σ→Ss→Rs (σ×Bool)):Prop:=∀x s,Takes 0 s (stp x s)
theorem itF_same {σ:Type} {stp:σ→Ss→Rs (σ×Bool)} (hg:Goes stp):∀f f' x s,s.ts.length<f→s.ts.length<f'→itF stp f x s=itF stp f' x s
 |0,_,_,_,h,_=>by omega
 |_+1,0,_,_,_,h=>by omega
 |f+1,f' + 1,x,s,h,h'=>by
  rw [itF,itF]
  refine Rs.congr fun y s' e=>?_
  split
  ·rename_i hy
   have e':stp x s=.ok (y.1,true) s':=by rw [e,←hy]
   have:=hg _ _ _ _ e'
   exact itF_same hg f f' _ _ (by omega) (by omega)
  ·rfl
theorem itF_takes {σ:Type} {stp:σ→Ss→Rs (σ×Bool)} (hk:Keeps stp):∀f x s,Takes 0 s (itF stp f x s)
 |0,_,s=>.out 0 s
 |f+1,x,s=>by
  rw [itF]
  refine Takes.bind (k:=0) (l:=0) (hk x s) fun y s' _=>?_
  split
  ·exact itF_takes hk f _ _
  ·exact .ok _ _
def It {σ:Type} (stp:σ→Ss→Rs (σ×Bool)) (x:σ) (s:Ss):Rs σ:=itF stp (s.ts.length+1) x s
theorem It_eq {σ:Type} {stp:σ→Ss→Rs (σ×Bool)} (hg:Goes stp) (x:σ) (s:Ss):It stp x s=(stp x s).bind fun y s'=>if y.2=true then It stp y.1 s' else .ok y.1 s':=by
 unfold It
 rw [itF]
 refine Rs.congr fun y s' e=>?_
 split
 ·rename_i hy
  have e':stp x s=.ok (y.1,true) s':=by rw [e,←hy]
  have:=hg _ _ _ _ e'
  exact itF_same hg _ _ _ _ (by omega) (by omega)
 ·rfl
theorem It_takes {σ:Type} {stp:σ→Ss→Rs (σ×Bool)} (hk:Keeps stp) (x:σ) (s:Ss):Takes 0 s (It stp x s):=itF_takes hk _ x s
def isTk (k:Int) (u:List UInt8) (t:Tk):Bool:=decide (t.kind=k)&&decide (t.text=u)
def isAt (k:Int) (u:List UInt8):List Tk→Bool
 |[]=>false
 |t::_=>isTk k u t
def wrongR {α:Type}:List Tk→Rs α
 |[]=>.bad 0 0
 |t::_=>if t.kind=5 then .bad 3 t.at_ else .bad 4 t.at_
def stopR {α:Type} (c:Int):List Tk→Rs α
 |[]=>.bad 0 0
 |t::_=>.bad c t.at_
def atOf:List Tk→Int
 |[]=>0
 |t::_=>t.at_
def kindOf:List Tk→Int
 |[]=>0
 |t::_=>t.kind
theorem wrongR_cons {α:Type} (t:Tk) (r:List Tk):(wrongR (t::r):Rs α)=if t.kind=5 then .bad 3 t.at_ else .bad 4 t.at_:=rfl
theorem wrongR_takes {α:Type} (k:Nat) (s:Ss) (ts:List Tk):Takes k s (wrongR ts:Rs α):=by
 cases ts with
 |nil=>exact Takes.bad _ _ _ _
 |cons t r=>rw [wrongR_cons];split <;> exact Takes.bad _ _ _ _
theorem stopR_takes {α:Type} (k:Nat) (s:Ss) (c:Int) (ts:List Tk):Takes k s (stopR c ts:Rs α):=by
 cases ts with
 |nil=>exact Takes.bad _ _ _ _
 |cons t r=>exact Takes.bad _ _ _ _
theorem wrongR_out {α:Type} (ts:List Tk):(wrongR ts:Rs α)≠.out:=by
 cases ts with
 |nil=>intro h;cases h
 |cons t r=>rw [wrongR_cons];split <;> (intro h;cases h)
def Ss.drop (s:Ss):Ss:=⟨s.ts.tail,s.n,s.m,s.a⟩
def mustR (k:Int) (u:List UInt8) (s:Ss):Rs Unit:=if isAt k u s.ts=true then .ok () s.drop else wrongR s.ts
def nameR (s:Ss):Rs (List UInt8×Int):=match s.ts with
 |[]=>.bad 0 0
 |t::r=>if t.kind=1 then .ok (t.text,t.at_) ⟨r,s.n,s.m,s.a⟩ else wrongR (t::r)
def numR (s:Ss):Rs Int:=match s.ts with
 |[]=>.bad 0 0
 |t::r=>if t.kind=3 then .ok t.num ⟨r,s.n,s.m,s.a⟩ else wrongR (t::r)
def exprR (s:Ss):Rs Ex:=match Pf 0 0 s.ts with
 |.out=>.out
 |.bad c p=>.bad c p
 |.ok x r=>.ok x ⟨r,s.n,s.m,s.a⟩
theorem isAt_cons {k:Int} {u:List UInt8} {ts:List Tk} (h:isAt k u ts=true):∃t r,ts=t::r:=by
 cases ts with
 |nil=>cases h
 |cons t r=>exact ⟨t,r,rfl⟩
theorem drop_takes {α:Type} {k:Int} {u:List UInt8} {s:Ss} (h:isAt k u s.ts=true) (x:α):Takes 1 s (.ok x s.drop):=fun y s' e=>by
 injection e with _ e
 obtain ⟨t,r,hs⟩:=isAt_cons h
 subst e
 show s.ts.tail.length+1≤_
 rw [hs]
 exact n_ _
theorem mustR_takes (k:Int) (u:List UInt8) (s:Ss):Takes 1 s (mustR k u s):=by
 unfold mustR
 split
 ·exact drop_takes (by assumption) _
 ·exact wrongR_takes _ _ _
theorem nameR_takes (s:Ss):Takes 1 s (nameR s):=by
 unfold nameR
 split
 ·exact Takes.bad _ _ _ _
 ·rename_i t r hs
  split
  ·exact .next (k:=0) hs (.ok _ _)
  ·exact wrongR_takes _ _ _
theorem numR_takes (s:Ss):Takes 1 s (numR s):=by
 unfold numR
 split
 ·exact Takes.bad _ _ _ _
 ·rename_i t r hs
  split
  ·exact .next (k:=0) hs (.ok _ _)
  ·exact wrongR_takes _ _ _
theorem exprR_takes (s:Ss):Takes 1 s (exprR s):=fun y s' h=>by
 unfold exprR at h
 split at h
 ·cases h
 ·cases h
 ·rename_i x r e
  injection h with _ h
  subst h
  exact Pf_len e
theorem nameR_out (s:Ss):nameR s≠.out:=by
 unfold nameR
 split
 ·intro h;cases h
 ·split
  ·intro h;cases h
  ·exact wrongR_out _
def wSet:List UInt8:=[115,101,116]
def wRaise:List UInt8:=[114,97,105,115,101]
def wEmit:List UInt8:=[101,109,105,116]
def wOn:List UInt8:=[111,110]
def wAlways:List UInt8:=[97,108,119,97,121,115]
def wAfter:List UInt8:=[97,102,116,101,114]
def wInitial:List UInt8:=[105,110,105,116,105,97,108]
def wEnter:List UInt8:=[101,110,116,101,114]
def wLeave:List UInt8:=[108,101,97,118,101]
def wState:List UInt8:=[115,116,97,116,101]
def wParallel:List UInt8:=[112,97,114,97,108,108,101,108]
def wHistory:List UInt8:=[104,105,115,116,111,114,121]
def wDeep:List UInt8:=[100,101,101,112]
def wVar:List UInt8:=[118,97,114]
def wChart:List UInt8:=[99,104,97,114,116]
def wordAt (ts:List Tk):List (List UInt8)→Nat→Nat
 |[],_=>0
 |u::l,i=>if isAt 2 u ts=true then i else wordAt ts l (i+1)
def actK (ts:List Tk):Nat:=wordAt ts [wSet,wRaise,wEmit] 1
def moveK (ts:List Tk):Nat:=wordAt ts [wOn,wAlways,wAfter] 1
def nodeK (ts:List Tk):Nat:=wordAt ts [wState,wParallel,wHistory,wDeep] 1
theorem wordAt_cons {ts:List Tk}:∀{l:List (List UInt8)} {i:Nat},wordAt ts l i≠0→∃t r,ts=t::r
 |[],_,h=>absurd rfl h
 |u::l,i,h=>by
  unfold wordAt at h
  split at h
  ·exact isAt_cons (by assumption)
  ·exact wordAt_cons h
theorem dropW_takes {α:Type} {s:Ss} {l:List (List UInt8)} {i k n m a:Nat} (h:wordAt s.ts l i≠0) {e:Rs α} (he:Takes k ⟨s.ts.tail,n,m,a⟩ e):Takes (k+1) s e:=by
 obtain ⟨t,r,hs⟩:=wordAt_cons h
 rw [hs,List.tail_cons] at he
 exact .next hs he
def actV (k:Nat) (s:Ss):Rs (Option Ex) :=
 if k=2 then .ok none s else (mustR 4 [61] s).bind fun _ s=>(exprR s).bind fun x s=>.ok (some x) s
def actR (s:Ss):Rs SyAct :=
 if actK s.ts=0 then wrongR s.ts
 else if s.a=400 then stopR 2 s.ts
 else (nameR ⟨s.ts.tail,s.n,s.m,s.a+1⟩).bind fun x s1=>(actV (actK s.ts) s1).bind fun v s2=>(mustR 4 [59] s2).bind fun _ s3 =>
  .ok ⟨actK s.ts,x.1,v,atOf s.ts⟩ s3
theorem actV_takes (k:Nat) (s:Ss):Takes 0 s (actV k s):=by
 unfold actV
 split
 ·exact .ok _ _
 ·exact (Takes.bind (mustR_takes _ _ _) fun _ s1 _=>Takes.bind (exprR_takes s1) fun _ s2 _=>Takes.ok _ _).mono (by omega)
theorem actR_takes (s:Ss):Takes 1 s (actR s):=by
 unfold actR
 split
 ·exact wrongR_takes _ _ _
 ·rename_i h0
  split
  ·exact stopR_takes _ _ _ _
  ·exact (dropW_takes h0 (Takes.bind (nameR_takes _) fun _ _ _=>Takes.bind (actV_takes _ _) fun _ _ _=>Takes.bind (mustR_takes _ _ _) fun _ _ _=>Takes.ok _ _)).mono (by omega)
def blkS (l:List SyAct) (s:Ss):Rs (List SyAct×Bool) :=
 if isAt 4 [125] s.ts=true then .ok (l,false) s.drop else (actR s).bind fun x s'=>.ok (l++[x],true) s'
def blockR (s:Ss):Rs (List SyAct):=(mustR 4 [123] s).bind fun _ s'=>It blkS [] s'
theorem blkS_goes:Goes blkS:=fun x s y s' h=>by
 unfold blkS at h
 split at h
 ·injection h with h _;injection h with _ h;cases h
 ·obtain ⟨z,s1,e,h⟩:=Rs.some h
  injection h with _ h
  have:=actR_takes s _ _ e
  subst h
  omega
theorem blkS_keeps:Keeps blkS:=fun x s=>by
 unfold blkS
 split
 ·exact (drop_takes (by assumption) _).mono (by omega)
 ·exact (Takes.bind (actR_takes s) fun _ _ _=>Takes.ok _ _).mono (by omega)
theorem blockR_takes (s:Ss):Takes 1 s (blockR s):=(Takes.bind (mustR_takes _ _ s) fun _ _ _=>It_takes blkS_keeps _ _).mono (by omega)
def evR (k:Nat) (s:Ss):Rs (List UInt8):=if k=1 then (nameR s).bind fun x s=>.ok x.1 s else .ok [] s
def waitR (k:Nat) (s:Ss):Rs Int:=if k=3 then numR s else .ok 0 s
def guardR (s:Ss):Rs (Option Ex):=if isAt 4 [91] s.ts=true then (exprR s.drop).bind fun x s=>(mustR 4 [93] s).bind fun _ s=>.ok (some x) s else .ok none s
def actsR (s:Ss):Rs (List SyAct):=if isAt 4 [123] s.ts=true then blockR s else .ok [] s
def tgtS (l:List (List UInt8)) (s:Ss):Rs (List (List UInt8)×Bool):=(nameR s).bind fun x s=>if isAt 4 [44] s.ts=true then .ok (l++[x.1],true) s.drop else .ok (l++[x.1],false) s
def tgtR (s:Ss):Rs (List (List UInt8)):=if isAt 4 [45,62] s.ts=true then It tgtS [] s.drop else .ok [] s
theorem drop_le (s:Ss):s.drop.ts.length≤s.ts.length:=by
 show s.ts.tail.length≤_
 rw [List.length_tail]
 omega
theorem Takes.dropped {α:Type} {k:Nat} {s:Ss} {e:Rs α} (h:Takes k s.drop e):Takes k s e:=fun x s' hx=>by
 have:=h x s' hx
 have:=drop_le s
 omega
theorem tgtS_goes:Goes tgtS:=fun x s y s' h=>by
 obtain ⟨z,s1,e,h⟩:=Rs.some h
 have:=nameR_takes s _ _ e
 split at h
 ·injection h with _ h
  have:=drop_le s1
  subst h
  omega
 ·injection h with _ h
  subst h
  omega
theorem tgtS_keeps:Keeps tgtS:=fun x s=>by
 refine (Takes.bind (l:=0) (nameR_takes s) fun z s1 _=>?_).mono (by omega)
 split
 ·exact (Takes.ok _ _).dropped
 ·exact .ok _ _
theorem evR_takes (k:Nat) (s:Ss):Takes 0 s (evR k s):=by
 unfold evR
 split
 ·exact (Takes.bind (nameR_takes s) fun _ _ _=>Takes.ok _ _).mono (by omega)
 ·exact .ok _ _
theorem waitR_takes (k:Nat) (s:Ss):Takes 0 s (waitR k s):=by
 unfold waitR
 split
 ·exact (numR_takes s).mono (by omega)
 ·exact .ok _ _
theorem guardR_takes (s:Ss):Takes 0 s (guardR s):=by
 unfold guardR
 split
 ·exact ((Takes.bind (exprR_takes _) fun _ _ _=>Takes.bind (mustR_takes _ _ _) fun _ _ _=>Takes.ok _ _).mono (by omega)).dropped
 ·exact .ok _ _
theorem actsR_takes (s:Ss):Takes 0 s (actsR s):=by
 unfold actsR
 split
 ·exact (blockR_takes s).mono (by omega)
 ·exact .ok _ _
theorem tgtR_takes (s:Ss):Takes 0 s (tgtR s):=by
 unfold tgtR
 split
 ·exact (It_takes tgtS_keeps _ _).dropped
 ·exact .ok _ _
def moveR (s:Ss):Rs SyMove :=
 if s.m=200 then stopR 2 s.ts
 else (evR (moveK s.ts) ⟨s.ts.tail,s.n,s.m+1,s.a⟩).bind fun e s1=>(waitR (moveK s.ts) s1).bind fun w s2=>(guardR s2).bind fun g s3 =>
  (actsR s3).bind fun l s4=>(tgtR s4).bind fun q s5=>(mustR 4 [59] s5).bind fun _ s6=>.ok ⟨moveK s.ts,e,w,g.isSome,g,l,q,atOf s.ts⟩ s6
theorem moveR_takes (s:Ss):Takes 1 s (moveR s):=by
 unfold moveR
 split
 ·exact stopR_takes _ _ _ _
 ·refine (Takes.bind (k:=0) (l:=1) (s:=⟨s.ts.tail,s.n,s.m+1,s.a⟩) (evR_takes _ _) fun _ _ _=>?_).le_of ?_
  ·exact (Takes.bind (waitR_takes _ _) fun _ _ _=>Takes.bind (guardR_takes _) fun _ _ _=>Takes.bind (actsR_takes _) fun _ _ _=>Takes.bind (tgtR_takes _) fun _ _ _=>Takes.bind (mustR_takes _ _ _) fun _ _ _=>Takes.ok _ _).mono (by omega)
  ·show s.ts.tail.length≤_
   rw [List.length_tail]
   omega
structure SyB where
 initial:List UInt8
 enter:List SyAct
 leave:List SyAct
 moves:List SyMove
 hi:Bool
 he:Bool
 hl:Bool
def SyB.none:SyB:=⟨[],[],[],[],false,false,false⟩
def initS (b:SyB) (s:Ss):Rs (SyB×Bool) :=
 if b.hi=true then wrongR s.ts else (nameR s.drop).bind fun x s1=>(mustR 4 [59] s1).bind fun _ s2=>.ok (⟨x.1,b.enter,b.leave,b.moves,true,b.he,b.hl⟩,true) s2
def enterS (b:SyB) (s:Ss):Rs (SyB×Bool) :=
 if b.he=true then wrongR s.ts else (blockR s.drop).bind fun l s1=>.ok (⟨b.initial,l,b.leave,b.moves,b.hi,true,b.hl⟩,true) s1
def leaveS (b:SyB) (s:Ss):Rs (SyB×Bool) :=
 if b.hl=true then wrongR s.ts else (blockR s.drop).bind fun l s1=>.ok (⟨b.initial,b.enter,l,b.moves,b.hi,b.he,true⟩,true) s1
def movS (b:SyB) (s:Ss):Rs (SyB×Bool) :=
 if moveK s.ts=0 then .ok (b,false) s else (moveR s).bind fun x s1=>.ok (⟨b.initial,b.enter,b.leave,b.moves++[x],b.hi,b.he,b.hl⟩,true) s1
def clauseS (b:SyB) (s:Ss):Rs (SyB×Bool) :=
 if isAt 2 wInitial s.ts=true then initS b s
 else if isAt 2 wEnter s.ts=true then enterS b s
 else if isAt 2 wLeave s.ts=true then leaveS b s
 else movS b s
theorem drop_lt {s:Ss} {t:Tk} {r:List Tk} (h:s.ts=t::r):s.drop.ts.length+1=s.ts.length:=by
 show s.ts.tail.length+1=_
 rw [h]
 rfl
def Steps {σ:Type} (s:Ss) (e:Rs (σ×Bool)):Prop:=∀y b s',e=.ok (y,b) s'→s'.ts.length+(if b=true then 1 else 0)≤s.ts.length
theorem Steps.of {σ:Type} {s:Ss} {e:Rs (σ×Bool)} (h:Takes 1 s e):Steps s e:=fun y b s' e'=>by
 have:=h _ _ e'
 split <;> omega
theorem Steps.stop {σ:Type} (s:Ss) (x:σ):Steps s (.ok (x,false) s):=fun y b s' e'=>by
 injection e' with e1 e2
 injection e1 with _ e1
 subst e1 e2
 exact n_ _
theorem clauseS_steps (b:SyB) (s:Ss):Steps s (clauseS b s):=by
 unfold clauseS
 split
 ·obtain ⟨t,r,hs⟩:=isAt_cons (by assumption)
  have hd:=drop_lt hs
  unfold initS
  split
  ·exact .of (wrongR_takes _ _ _)
  ·exact .of ((Takes.bind (nameR_takes _) fun _ _ _=>Takes.bind (mustR_takes _ _ _) fun _ _ _=>Takes.ok _ _).mono (by omega) |>.le_of (drop_le s))
 ·split
  ·obtain ⟨t,r,hs⟩:=isAt_cons (by assumption)
   unfold enterS
   split
   ·exact .of (wrongR_takes _ _ _)
   ·exact .of ((Takes.bind (blockR_takes _) fun _ _ _=>Takes.ok _ _).mono (by omega) |>.le_of (drop_le s))
  ·split
   ·unfold leaveS
    split
    ·exact .of (wrongR_takes _ _ _)
    ·exact .of ((Takes.bind (blockR_takes _) fun _ _ _=>Takes.ok _ _).mono (by omega) |>.le_of (drop_le s))
   ·unfold movS
    split
    ·exact .stop _ _
    ·exact .of ((Takes.bind (moveR_takes _) fun _ _ _=>Takes.ok _ _).mono (by omega))
theorem goes_of {σ:Type} {stp:σ→Ss→Rs (σ×Bool)} (h:∀x s,Steps s (stp x s)):Goes stp:=fun x s y s' e=>by
 have:=h x s y true s' e
 rw [if_pos rfl] at this
 omega
theorem keeps_of {σ:Type} {stp:σ→Ss→Rs (σ×Bool)} (h:∀x s,Steps s (stp x s)):Keeps stp:=fun x s y s' e=>by
 have:=h x s y.1 y.2 s' e
 omega
theorem clauseS_goes:Goes clauseS:=goes_of clauseS_steps
theorem clauseS_keeps:Keeps clauseS:=keeps_of clauseS_steps
def kidS (nd:Ss→Rs SyNode) (l:List SyNode) (s:Ss):Rs (List SyNode×Bool) :=
 if nodeK s.ts=0 then .ok (l,false) s else (nd s).bind fun x s1=>.ok (l++[x],true) s1
theorem kidS_steps {nd:Ss→Rs SyNode} (h:∀s,Takes 1 s (nd s)) (l:List SyNode) (s:Ss):Steps s (kidS nd l s):=by
 unfold kidS
 split
 ·exact .stop _ _
 ·exact .of ((Takes.bind (h s) fun _ _ _=>Takes.ok _ _).mono (by omega))
theorem kidS_goes {nd:Ss→Rs SyNode} (h:∀s,Takes 1 s (nd s)):Goes (kidS nd):=goes_of (kidS_steps h)
theorem kidS_keeps {nd:Ss→Rs SyNode} (h:∀s,Takes 1 s (nd s)):Keeps (kidS nd):=keeps_of (kidS_steps h)
def bodyR (nd:Ss→Rs SyNode) (s:Ss):Rs (SyB×List SyNode):=(It clauseS SyB.none s).bind fun b s1=>(It (kidS nd) [] s1).bind fun l s2=>.ok (b,l) s2
theorem bodyR_takes {nd:Ss→Rs SyNode} (h:∀s,Takes 1 s (nd s)) (s:Ss):Takes 0 s (bodyR nd s) :=
 Takes.bind (k:=0) (l:=0) (It_takes clauseS_keeps _ s) fun _ _ _=>Takes.bind (k:=0) (l:=0) (It_takes (kidS_keeps h) _ _) fun _ _ _=>Takes.ok _ _
def namedR (d:Nat) (s:Ss):Rs (List UInt8×Int):=match s.ts with
 |[]=>.bad 0 0
 |t::r=>if t.kind=1 then (if s.n=64 then .bad 2 t.at_ else if d=0 then .bad 21 t.at_ else .ok (t.text,t.at_) ⟨r,s.n+1,s.m,s.a⟩) else wrongR (t::r)
theorem namedR_takes (d:Nat) (s:Ss):Takes 1 s (namedR d s):=by
 unfold namedR
 split
 ·exact Takes.bad _ _ _ _
 ·rename_i t r hs
  split
  ·split
   ·exact Takes.bad _ _ _ _
   ·split
    ·exact Takes.bad _ _ _ _
    ·exact .next (k:=0) hs (.ok _ _)
  ·exact wrongR_takes _ _ _
theorem namedR_zero (s:Ss):∃c p,namedR 0 s=.bad c p:=by
 unfold namedR
 split
 ·exact ⟨_,_,rfl⟩
 ·split
  ·split
   ·exact ⟨_,_,rfl⟩
   ·exact ⟨_,_,if_pos rfl⟩
  ·rw [wrongR_cons]
   split <;> exact ⟨_,_,rfl⟩
def histR (k:Nat) (x:List UInt8×Int) (s:Ss):Rs SyNode :=
 (mustR 4 [45,62] s).bind fun _ s2=>(nameR s2).bind fun y s3=>(mustR 4 [59] s3).bind fun _ s4=>.ok (.mk k x.1 [] y.1 [] [] [] [] x.2) s4
def nodeOf (k:Nat) (x:List UInt8×Int) (z:SyB×List SyNode):SyNode:=.mk k x.1 z.1.initial [] z.1.enter z.1.leave z.1.moves z.2 x.2
def innerR (nd:Ss→Rs SyNode) (k:Nat) (x:List UInt8×Int) (s:Ss):Rs SyNode :=
 (mustR 4 [123] s).bind fun _ s2=>(bodyR nd s2).bind fun z s3=>(mustR 4 [125] s3).bind fun _ s4=>.ok (nodeOf k x z) s4
def nodeR:Nat→Ss→Rs SyNode
 |0,s=>(namedR 0 s.drop).bind fun _ _=>.out
 |d+1,s=>(namedR (d+1) s.drop).bind fun x s1=>if 3≤nodeK s.ts then histR (nodeK s.ts) x s1 else innerR (nodeR d) (nodeK s.ts) x s1
theorem nodeR_takes:∀d s,Takes 1 s (nodeR d s)
 |0,s=>by
  unfold nodeR
  obtain ⟨c,p,e⟩:=namedR_zero s.drop
  rw [e]
  exact Takes.bad _ _ _ _
 |d+1,s=>by
  unfold nodeR
  refine Takes.le_of (Takes.mono (Takes.bind (k:=1) (l:=0) (namedR_takes _ _) fun x s1 _=>?_) (by omega)) (drop_le s)
  split
  ·exact (Takes.bind (mustR_takes _ _ _) fun _ _ _=>Takes.bind (nameR_takes _) fun _ _ _=>Takes.bind (mustR_takes _ _ _) fun _ _ _=>Takes.ok _ _).mono (by omega)
  ·exact (Takes.bind (mustR_takes _ _ _) fun _ _ _=>Takes.bind (bodyR_takes (nodeR_takes d) _) fun _ _ _=>Takes.bind (mustR_takes _ _ _) fun _ _ _=>Takes.ok _ _).mono (by omega)
def vnameR (k:Nat) (s:Ss):Rs (List UInt8×Int):=match s.ts with
 |[]=>.bad 0 0
 |t::r=>if t.kind=1 then (if k=16 then .bad 2 t.at_ else .ok (t.text,t.at_) ⟨r,s.n,s.m,s.a⟩) else wrongR (t::r)
def vnumR (s:Ss):Rs Int:=if isAt 4 [45] s.ts=true then (numR s.drop).bind fun x s=>.ok (-x) s else numR s
def varS (l:List SyVar) (s:Ss):Rs (List SyVar×Bool) :=
 if isAt 2 wVar s.ts=true then (vnameR l.length s.drop).bind fun x s1=>(mustR 4 [61] s1).bind fun _ s2=>(vnumR s2).bind fun v s3=>(mustR 4 [59] s3).bind fun _ s4=>.ok (l++[⟨x.1,v,x.2⟩],true) s4
 else .ok (l,false) s
theorem vnameR_takes (k:Nat) (s:Ss):Takes 1 s (vnameR k s):=by
 unfold vnameR
 split
 ·exact Takes.bad _ _ _ _
 ·rename_i t r hs
  split
  ·split
   ·exact Takes.bad _ _ _ _
   ·exact .next (k:=0) hs (.ok _ _)
  ·exact wrongR_takes _ _ _
theorem vnumR_takes (s:Ss):Takes 1 s (vnumR s):=by
 unfold vnumR
 split
 ·exact ((Takes.bind (numR_takes _) fun _ _ _=>Takes.ok _ _).mono (by omega)).dropped
 ·exact numR_takes s
theorem varS_steps (l:List SyVar) (s:Ss):Steps s (varS l s):=by
 unfold varS
 split
 ·exact .of (((Takes.bind (vnameR_takes _ _) fun _ _ _=>Takes.bind (mustR_takes _ _ _) fun _ _ _=>Takes.bind (vnumR_takes _) fun _ _ _=>Takes.bind (mustR_takes _ _ _) fun _ _ _=>Takes.ok _ _).mono (by omega)).dropped)
 ·exact .stop _ _
theorem varS_goes:Goes varS:=goes_of varS_steps
theorem varS_keeps:Keeps varS:=keeps_of varS_steps
def endR (c:SyChart) (s:Ss):Rs SyChart:=if kindOf s.ts=5 then .ok c s else wrongR s.ts
def chartR (s:Ss):Rs SyChart :=
 (mustR 2 wChart s).bind fun _ s1=>(namedR 12 s1).bind fun x s2=>(mustR 4 [123] s2).bind fun _ s3=>(It varS [] s3).bind fun l s4 =>
  (bodyR (nodeR 11) s4).bind fun z s5=>(mustR 4 [125] s5).bind fun _ s6=>endR ⟨l,nodeOf 1 x z⟩ s6
def syR (ts:List Tk):Rs SyChart:=chartR ⟨ts,0,0,0⟩
def Ss.er (s:Ss):Ss:=⟨s.ts.map Tk.er,s.n,s.m,s.a⟩
def Rs.er {α:Type} (f:α→α):Rs α→Rs α
 |.out=>.out
 |.bad c _=>.bad c 0
 |.ok x s=>.ok (f x) s.er
def SyVar.er (v:SyVar):SyVar:=⟨v.name,v.num,0⟩
def SyAct.er (x:SyAct):SyAct:=⟨x.kind,x.name,x.value.map Ex.er,0⟩
def SyMove.er (x:SyMove):SyMove:=⟨x.kind,x.event,x.wait,x.guarded,x.guard.map Ex.er,x.acts.map SyAct.er,x.targets,0⟩
mutual
def SyNode.er:SyNode→SyNode
 |.mk k n i d e l m kids _=>.mk k n i d (e.map SyAct.er) (l.map SyAct.er) (m.map SyMove.er) (SyNode.ers kids) 0
def SyNode.ers:List SyNode→List SyNode
 |[]=>[]
 |x::l=>x.er::SyNode.ers l
end
def SyChart.er (c:SyChart):SyChart:=⟨c.vars.map SyVar.er,c.root.er⟩
def SyB.er (b:SyB):SyB:=⟨b.initial,b.enter.map SyAct.er,b.leave.map SyAct.er,b.moves.map SyMove.er,b.hi,b.he,b.hl⟩
def tW (u:List UInt8):Tk:=⟨2,u,0,0⟩
def tN (u:List UInt8):Tk:=⟨1,u,0,0⟩
def tS (u:List UInt8):Tk:=⟨4,u,0,0⟩
def goN:List UInt8:=[103,111]
def xN:List UInt8:=[120]
def mvT (T:List Tk):List Tk:=tS [45,62]::tN xN::tS [59]::T
def eA (T:List Tk):List Tk:=tW wEnter::tS [123]::tS [125]::tW wOn::tN goN::mvT T
def eB (T:List Tk):List Tk:=tW wOn::tN goN::tS [123]::tS [125]::mvT T
def Lk (T:List Tk) (s s':Ss):Prop:=∃H,s.ts=H++eA T∧s'.ts=H++eB T∧s'.n=s.n∧s'.m=s.m∧s'.a=s.a
def Sim {α:Type} (T:List Tk) (e e':Rs α):Prop:=∀x s x' s',e=.ok x s→e'=.ok x' s'→x'=x∧(s'=s∨Lk T s s')
theorem Sim.refl {α:Type} {T:List Tk} (e:Rs α):Sim T e e:=fun x s x' s' h h'=>by
 rw [h] at h'
 injection h' with h1 h2
 exact ⟨h1.symm,.inl h2.symm⟩
theorem Sim.bad {α:Type} {T:List Tk} {e e':Rs α} (h:∃c p,e=.bad c p):Sim T e e':=fun x s x' s' h1 _=>by
 obtain ⟨c,p,h⟩:=h
 rw [h] at h1
 cases h1
theorem Sim.ok {α:Type} {T:List Tk} (x:α) {s s':Ss} (h:Lk T s s'):Sim T (.ok x s) (.ok x s'):=fun y r y' r' h1 h2=>by
 injection h1 with a1 a2
 injection h2 with b1 b2
 subst a1 a2 b2
 exact ⟨b1.symm,.inr h⟩
theorem Sim.bind {α β:Type} {T:List Tk} {e e':Rs α} {g g':α→Ss→Rs β} (h:Sim T e e') (hg:∀x s s',Lk T s s'→Sim T (g x s) (g' x s')) (he:∀x s,Sim T (g x s) (g' x s)):Sim T (e.bind g) (e'.bind g'):=fun y r y' r' h1 h2=>by
 obtain ⟨x,s,a1,a2⟩:=Rs.some h1
 obtain ⟨x',s',b1,b2⟩:=Rs.some h2
 obtain ⟨rfl,hs⟩:=h _ _ _ _ a1 b1
 rcases hs with rfl|hs
 ·exact he _ _ _ _ _ _ a2 b2
 ·exact hg _ _ _ hs _ _ _ _ a2 b2
theorem wrong_bad {α:Type} (ts:List Tk):∃c p,(wrongR ts:Rs α)=.bad c p:=by
 cases ts with
 |nil=>exact ⟨_,_,rfl⟩
 |cons t r=>rw [wrongR_cons];split <;> exact ⟨_,_,rfl⟩
theorem Lk.next {T:List Tk} {s s':Ss} (h:Lk T s s') {t:Tk} {H:List Tk} (h1:s.ts=t::(H++eA T)) (h2:s'.ts=t::(H++eB T)) (n m a:Nat→Nat) :
  Lk T ⟨s.ts.tail,n s.n,m s.m,a s.a⟩ ⟨s'.ts.tail,n s'.n,m s'.m,a s'.a⟩:=by
 obtain ⟨_,_,_,hn,hm,ha⟩:=h
 exact ⟨H,by rw [h1];rfl,by rw [h2];rfl,by rw [hn],by rw [hm],by rw [ha]⟩
theorem Lk.drop {T:List Tk} {s s':Ss} (h:Lk T s s') {t:Tk} {H:List Tk} (h1:s.ts=t::(H++eA T)) (h2:s'.ts=t::(H++eB T)):Lk T s.drop s'.drop:=h.next h1 h2 id id id
def Plain (k:Int) (u:List UInt8):Prop:=isTk k u (tW wEnter)=false∧isTk k u (tW wOn)=false
instance (k:Int) (u:List UInt8):Decidable (Plain k u):=inferInstanceAs (Decidable (_∧_))
def SyB.eqB (b b':SyB):Prop:=b'.initial=b.initial∧b'.enter=b.enter∧b'.leave=b.leave∧b'.moves=b.moves
theorem SyB.eqB.rfl (b:SyB):b.eqB b:=⟨Eq.refl _,Eq.refl _,Eq.refl _,Eq.refl _⟩
def rep (g:List Tk→List Tk):Nat→List Tk→List Tk
 |0,T=>T
 |k+1,T=>g (rep g k T)
def ScIs (l:List UInt8) (u:List Tk):Prop:=∀p acc,∃(v:List Tk) (q:Int),v.map Tk.er=u∧scT p acc l=(acc++v++[⟨5,[],0,q⟩],0,0)
def ScNo (l:List UInt8):Prop:=∀p acc,(scT p acc l).2.1≠0
def Ahead (d:List UInt8) (u:List Tk):Prop:=∀t p acc,∃(v:List Tk) (q:Nat),v.map Tk.er=u∧scT p acc (d++t)=scT q (acc++v) t
theorem Ahead.nil:Ahead [] []:=fun t p acc=>⟨[],p,rfl,by rw [List.append_nil];rfl⟩
theorem Ahead.append {d d':List UInt8} {u u':List Tk} (h:Ahead d u) (h':Ahead d' u'):Ahead (d++d') (u++u'):=fun t p acc=>by
 obtain ⟨v,q,h1,h2⟩:=h (d'++t) p acc
 obtain ⟨v',q',k1,k2⟩:=h' t q (acc++v)
 exact ⟨v++v',q',by rw [List.map_append,h1,k1],by rw [List.append_assoc,h2,k2,List.append_assoc]⟩
theorem Ahead.is {d t:List UInt8} {u w:List Tk} (h:Ahead d u) (ht:ScIs t w):ScIs (d++t) (u++w):=fun p acc=>by
 obtain ⟨v,q,h1,h2⟩:=h t p acc
 obtain ⟨v',q',k1,k2⟩:=ht q (acc++v)
 exact ⟨v++v',q',by rw [List.map_append,h1,k1],by rw [h2,k2];simp⟩
theorem Ahead.no {d t:List UInt8} {u:List Tk} (h:Ahead d u) (ht:ScNo t):ScNo (d++t):=fun p acc=>by
 obtain ⟨v,q,h1,h2⟩:=h t p acc
 rw [h2];exact ht _ _
theorem scIs_nil:ScIs [] []:=fun p acc=>⟨[],_,rfl,by rw [scT_nil,List.append_nil]⟩
theorem Ahead.all {d:List UInt8} {u:List Tk} (h:Ahead d u):ScIs d u:=by
 have:=h.is scIs_nil
 rwa [List.append_nil,List.append_nil] at this
theorem Ahead.word {c:UInt8} {u d:List UInt8} {w:List Tk} (hc:isLt c=true) (hu:wdK (c::u)=(c::u).length) (hl:(c::u).length≤24) (hd:∃z y,d=z::y∧isWd z=false) (h:Ahead d w) :
  Ahead (c::u++d) (⟨if isKw (c::u)=true then 2 else 1,c::u,0,0⟩::w):=fun t p acc=>by
 obtain ⟨z,y,rfl,hz⟩:=hd
 have hnw:NW (z::y++t):=fun c r e=>by
  rw [List.cons_append] at e
  injection e with e _
  rw [←e]
  exact hz
 obtain ⟨v,q,h1,h2⟩:=h t (p+(c::u).length) (acc++[⟨if isKw (c::u)=true then 2 else 1,c::u,0,(p:Int)⟩])
 refine ⟨⟨if isKw (c::u)=true then 2 else 1,c::u,0,(p:Int)⟩::v,q,by rw [List.map_cons,h1];rfl,?_⟩
 rw [List.append_assoc,scT_run hc hu hl hnw,h2]
 simp
theorem Ahead.int {n:Int} (h0:0≤n) (h1:n≤9223372036854775807) {d:List UInt8} {w:List Tk} (hd:∃z y,d=z::y∧isWd z=false) (h:Ahead d w):Ahead (Lib.itoa n++d) (⟨3,[],n,0⟩::w):=fun t p acc=>by
 obtain ⟨z,y,rfl,hz⟩:=hd
 have hnw:NW (z::y++t):=fun c r e=>by
  rw [List.cons_append] at e
  injection e with e _
  rw [←e]
  exact hz
 obtain ⟨v,q,k1,k2⟩:=h t (p+(Lib.itoa n).length) (acc++[⟨3,[],n,(p:Int)⟩])
 refine ⟨⟨3,[],n,(p:Int)⟩::v,q,by rw [List.map_cons,k1];rfl,?_⟩
 rw [List.append_assoc,scT_int h0 h1 hnw,k2]
 simp
def syF (l:List UInt8):Rs SyChart:=if (scF l).2.1=0 then syR (scF l).1 else .bad (scF l).2.1 (scF l).2.2
def Rs.code {α:Type}:Rs α→Int
 |.out=>-1
 |.bad c _=>c
 |.ok _ _=>0
theorem Ahead.skip {d:List UInt8} (h:∀t,blK false (d++t)=d.length+blK false t):Ahead d []:=fun t p acc=>by
 refine ⟨[],p+d.length,rfl,?_⟩
 rw [List.append_nil]
 unfold scT
 rw [scA_skip (d++t).length,h,←List.drop_drop,List.drop_left,scA_skip t.length,←Nat.add_assoc]
 exact scA_same _ _ _ _ _ (by rw [List.length_drop,List.length_append];omega) (by rw [List.length_drop];omega)
end Go.Proofs.YtcddbfdbhjkjgaaGreatDoor
namespace Go.Proofs.YtcddbfdbhjkjgaaGreatDoor
open Go.RowKit
mutual
def GW (w:World) (lo hi:Nat):GX→EV→Prop
 |.mk k n s o l p,v=>(v.kind=k∧v.num=n∧v.name.data.toList=s∧v.op=o∧v.p=p∧v.len=l.length∧v.len≤v.cap∧v.cap≤maxLen) ∧
  (l=[]∨∃g cs,v.A=some ⟨g,0,none⟩∧lo≤g∧g<hi∧w.heap[g]?=some (.cells cs 54 (0,0))∧GWs w g lo g l 0)
def GWs (w:World) (g a b:Nat):List GX→Nat→Prop
 |[],_=>a≤b
 |x::l,i=>∃m v,a≤m∧m≤b∧EvAt w g (0+i*6) v∧GW w a m x v∧GWs w g m b l (i+1)
end
mutual
theorem GW.same {w w':World}:∀{x:GX} {v:EV} {lo hi:Nat},(∀g,lo≤g→g<hi→w'.heap[g]?=w.heap[g]?)→GW w lo hi x v→GW w' lo hi x v
 |.mk _ _ _ _ l _,_,lo,hi,hs,h=>by
  unfold GW at h ⊢
  refine ⟨h.1,?_⟩
  rcases h.2 with h2|⟨g,cs,h2,h3,h4,h5,h6⟩
  ·exact .inl h2
  ·exact .inr ⟨g,cs,h2,h3,h4,(hs g h3 h4).trans h5,GWs.same (hs g h3 h4) (fun i h7 h8=>hs i h7 (by omega)) h6⟩
theorem GWs.same {w w':World} {g:Nat} (hg:w'.heap[g]?=w.heap[g]?):∀{l:List GX} {a b i:Nat},(∀j,a≤j→j<b→w'.heap[j]?=w.heap[j]?)→GWs w g a b l i→GWs w' g a b l i
 |[],_,_,_,_,h=>by unfold GWs at h ⊢;exact h
 |x::l,a,b,i,hs,h=>by
  unfold GWs at h ⊢
  obtain ⟨m,v,h1,h2,h3,h4,h5⟩:=h
  exact ⟨m,v,h1,h2,h3.same hg,GW.same (fun j h6 h7=>hs j h6 (by omega)) h4,GWs.same hg (fun j h6 h7=>hs j (by omega) h7) h5⟩
end
mutual
theorem GW.gv {w:World}:∀{x:GX} {v:EV} {lo hi:Nat},GW w lo hi x v→GV w lo hi x v
 |.mk _ _ _ _ l _,v,lo,hi,h=>by
  unfold GW at h
  unfold GV
  obtain ⟨⟨a1,a2,a3,a4,a5,a6,a7,a8⟩,h2⟩:=h
  refine ⟨a1,a2,a3,a4,a5,a6,a7,a8,?_⟩
  rcases h2 with rfl|⟨g,cs,h2,h3,h4,_,h6⟩
  ·unfold GRow;trivial
  ·rw [h2]
   exact GWs.grow h3 h4 (n_ _) (Nat.le_of_lt h4) h6
theorem GWs.grow {w:World} {g lo hi:Nat} (h1:lo≤g) (h2:g<hi):∀{l:List GX} {a b i:Nat},lo≤a→b≤hi→GWs w g a b l i→GRow w lo hi l (some ⟨g,0,none⟩) i
 |[],_,_,_,_,_,_=>by unfold GRow;trivial
 |x::l,a,b,i,ha,hb,h=>by
  unfold GWs at h
  unfold GRow
  obtain ⟨m,v,h3,h4,h5,h6,h7⟩:=h
  exact ⟨⟨g,0,v,rfl,h1,h2,h5,GV.mono ha (by omega) (GW.gv h6)⟩,GWs.grow h1 h2 (by omega) hb h7⟩
end
theorem GWs.front {w:World} {g:Nat}:∀{l:List GX} {a a' b i:Nat},a'≤a→(∀{x:GX} {v:EV} {lo lo' hi:Nat},x∈l→lo'≤lo→GW w lo hi x v→GW w lo' hi x v)→GWs w g a b l i→GWs w g a' b l i
 |[],_,_,_,_,h1,_,h=>by unfold GWs at h ⊢;omega
 |x::l,a,a',b,i,h1,hx,h=>by
  unfold GWs at h ⊢
  obtain ⟨m,v,h3,h4,h5,h6,h7⟩:=h
  exact ⟨m,v,by omega,h4,h5,hx (by simp) h1 h6,h7⟩
theorem GW.monoN {w:World}:∀(n:Nat) {x:GX} {v:EV} {lo hi lo' hi':Nat},SizeOf.sizeOf x≤n→lo'≤lo→hi≤hi'→GW w lo hi x v→GW w lo' hi' x v
 |0,.mk _ _ _ _ _ _,_,_,_,_,_,hn,_,_,_=>by simp only [GX.mk.sizeOf_spec] at hn;omega
 |n+1,.mk _ _ _ _ l _,v,lo,hi,lo',hi',hn,h1,h2,h=>by
  unfold GW at h ⊢
  refine ⟨h.1,?_⟩
  rcases h.2 with h3|⟨g,cs,h3,h4,h5,h6,h7⟩
  ·exact .inl h3
  ·refine .inr ⟨g,cs,h3,by omega,by omega,h6,GWs.front h1 (fun {y} {u} {a} {a'} {b} hy ha hw=>GW.monoN n (by
    have:=List.sizeOf_lt_of_mem hy
    simp only [GX.mk.sizeOf_spec] at hn
    omega) ha (n_ b) hw) h7⟩
theorem GW.mono {w:World} {lo hi lo' hi':Nat} (h1:lo'≤lo) (h2:hi≤hi') {x:GX} {v:EV} (h:GW w lo hi x v):GW w lo' hi' x v:=GW.monoN _ (n_ _) h1 h2 h
theorem GW.below {w w':World} {lo hi:Nat} {x:GX} {v:EV} (h:GW w lo hi x v) (hb:Below w.heap.size w w') (hh:hi≤w.heap.size):GW w' lo hi x v:=h.same (fun g _ h2=>hb.block g (by omega))
theorem GW.mv {w w':World} {lo b:Nat} {x:GX} {v:EV} (h:GW w lo w.heap.size x v) (hm:Mv b w w') (hb:b<lo):GW w' lo w'.heap.size x v :=
 (h.same (fun g h1 h2=>hm.block h2 (by omega))).mono (n_ _) (World.grownBy.size hm)
theorem GW.leaf (w:World) (lo hi:Nat) (k n o p:Int) (S:ByteArray):GW w lo hi (.mk k n S.data.toList o [] p) ⟨k,n,S,o,none,0,0,p⟩:=by
 unfold GW
 exact ⟨⟨rfl,rfl,rfl,rfl,rfl,rfl,n_ _,Nat.zero_le _⟩,.inl rfl⟩
theorem GW.one_new {w:World} {lo:Nat} {x:GX} {v:EV} (h:GW w lo w.heap.size x v) (hlo:lo≤w.heap.size) (op p:Int) :
  GW (w.alloc (.cells #[.int .i64 v.kind,.int .i64 v.num,.string v.name,.int .i64 v.op,.slice v.A v.len v.cap,.int .i64 v.p] 54)) lo (w.heap.size+1) (.mk 4 0 [] op [x] p) ⟨4,0,⟨#[]⟩,op,some ⟨w.heap.size,0,none⟩,1,1,p⟩:=by
 unfold GW
 refine ⟨⟨rfl,rfl,rfl,rfl,rfl,rfl,n_ _,(by decide:1≤maxLen)⟩,.inr ⟨w.heap.size,_,rfl,hlo,by omega,heap_alloc_new w _,?_⟩⟩
 unfold GWs GWs
 exact ⟨w.heap.size,v,hlo,n_ _,EvAt.of (heap_alloc_new w _) (fun j u hu=>by simpa [EV.cells] using hu),h.same (fun _ _ h2=>heap_alloc_old w _ h2),n_ _⟩
theorem GW.both_of {W:World} {lo m hi g:Nat} {x y:GX} {v u:EV} (hx:GW W lo m x v) (hy:GW W m g y u) (h1:lo≤m) (h2:m≤g) (h3:g<hi) {cs:Array Value} (hg:W.heap[g]?=some (.cells cs 54 (0,0))) (e1:EvAt W g 0 v) (e2:EvAt W g 6 u) (op p:Int) :
  GW W lo hi (.mk 5 0 [] op [x,y] p) ⟨5,0,⟨#[]⟩,op,some ⟨g,0,none⟩,2,2,p⟩:=by
 unfold GW
 refine ⟨⟨rfl,rfl,rfl,rfl,rfl,rfl,n_ _,(by decide:2≤maxLen)⟩,.inr ⟨g,cs,rfl,by omega,h3,hg,?_⟩⟩
 unfold GWs GWs GWs
 exact ⟨m,v,h1,h2,e1,hx,g,u,h2,n_ _,e2,hy,n_ _⟩
end Go.Proofs.YtcddbfdbhjkjgaaGreatDoor
namespace Go.Proofs.YtcddbfdbhjkjgaaGreatDoor
open Go.RowKit
def TkSrc (w:World) (A:Option Addr) (n:Nat) (xs:List Tk):Prop:=xs.length=n∧∀(i:Nat) (t:Tk),xs[i]?=some t→∃g,A=some ⟨g,0,none⟩ ∧
 w.cell? ⟨g,i*4,none⟩=some (.int .i64 t.kind)∧w.cell? ⟨g,i*4+1,none⟩=some (txV t.text)∧w.cell? ⟨g,i*4+2,none⟩=some (.int .i64 t.num)∧w.cell? ⟨g,i*4+3,none⟩=some (.int .i64 t.at_)
theorem tkCs_at:∀(xs:List Tk) (i:Nat) (t:Tk),xs[i]?=some t→(tkCs xs)[i*4]?=some (.int .i64 t.kind)∧(tkCs xs)[i*4+1]?=some (txV t.text)∧(tkCs xs)[i*4+2]?=some (.int .i64 t.num)∧(tkCs xs)[i*4+3]?=some (.int .i64 t.at_)
 |[],i,t,h=>by simp at h
 |x::xs,0,t,h=>by
  have:x=t:=by simpa using h
  subst this
  simp [tkCs,tkC]
 |x::xs,i+1,t,h=>by
  have ih:=tkCs_at xs i t (by simpa using h)
  have e:tkCs (x::xs)=tkC x++tkCs xs:=by simp [tkCs]
  have e2:∀j,(tkCs (x::xs))[(i+1)*4+j]?=(tkCs xs)[i*4+j]?:=fun j=>by
   rw [e,List.getElem?_append_right (by simp [tkC];omega)]
   congr 1
   simp [tkC]
   omega
  refine ⟨?_,?_,?_,?_⟩
  ·have:=e2 0;rw [Nat.add_zero,Nat.add_zero] at this;rw [this];exact ih.1
  ·rw [e2];exact ih.2.1
  ·rw [e2];exact ih.2.2.1
  ·rw [e2];exact ih.2.2.2
theorem TkRow.src {w:World} {B:Nat} {v:Value} {xs:List Tk} (h:TkRow w B v xs):∃A c,v=.slice A xs.length c∧xs.length≤c∧c≤maxLen∧(A=none→c=0)∧TkSrc w A xs.length xs:=by
 rcases h.2 with ⟨rfl,h0⟩|⟨g,cap,cur,rfl,hb,hh,hc,hm,hs,ht⟩
 ·refine ⟨none,0,by rw [h0],by omega,by unfold maxLen;omega,fun _=>rfl,rfl,fun i t hi=>?_⟩
  have:=(List.getElem?_eq_some_iff.1 hi).1
  omega
 ·refine ⟨some ⟨g,0,none⟩,cap,rfl,hc,hm,(fun h=>nomatch h),rfl,fun i t hi=>⟨g,rfl,?_⟩⟩
  have hl:=(List.getElem?_eq_some_iff.1 hi).1
  have e:∀j u,j<4→(tkCs xs)[i*4+j]?=some u→w.cell? ⟨g,i*4+j,none⟩=some u:=fun j u hj hu=>by
   rw [cell_of_row w g _ cur _ _ hh,←hu,←ht,List.getElem?_take,if_pos (by omega)]
   simp
  have hx:=tkCs_at xs i t hi
  exact ⟨e 0 _ (by omega) hx.1,e 1 _ (by omega) hx.2.1,e 2 _ (by omega) hx.2.2.1,e 3 _ (by omega) hx.2.2.2⟩
theorem TkSrc.below {w w':World} {A:Option Addr} {n:Nat} {xs:List Tk} (h:TkSrc w A n xs) (hb:Below w.heap.size w w'):TkSrc w' A n xs :=
 ⟨h.1,fun i t hi=>by
  obtain ⟨g,e,h0,h1,h2,h3⟩:=h.2 i t hi
  exact ⟨g,e,by rw [hb.cell (World.block_lt_of_cell? w _ h0)];exact h0,by rw [hb.cell (World.block_lt_of_cell? w _ h1)];exact h1,by rw [hb.cell (World.block_lt_of_cell? w _ h2)];exact h2,by rw [hb.cell (World.block_lt_of_cell? w _ h3)];exact h3⟩⟩
theorem TkSrc.take {w:World} {A:Option Addr} {n:Nat} {xs:List Tk} (h:TkSrc w A n xs) {k:Nat} (hk:k≤n):TkSrc w A k (xs.take k) :=
 ⟨by rw [List.length_take,h.1];omega,fun i t hi=>h.2 i t (by
  rw [List.getElem?_take] at hi
  split at hi
  ·exact hi
  ·cases hi)⟩
theorem heldF:Tryz.prog.stoodInHeld 33=false:=by kernel_rfl
theorem guardF:Tryz.prog.eqGuardType Tryz.prog.depth 33=false:=by kernel_rfl
end Go.Proofs.YtcddbfdbhjkjgaaGreatDoor
