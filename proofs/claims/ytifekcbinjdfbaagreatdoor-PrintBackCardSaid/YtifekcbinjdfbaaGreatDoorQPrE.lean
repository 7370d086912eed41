import Derived.Test.YtifekcbinjdfbaaGreatDoorQh
import Derived.Test.YtifekcbinjdfbaaGreatDoorXE
set_option maxHeartbeats 12800000
set_option maxRecDepth 20000
namespace Go.Proofs.YtifekcbinjdfbaaGreatDoor
structure SyVar where
 name:List UInt8
 num:Int
 at_:Int
structure SyAct where
 kind:Int
 name:List UInt8
 value:Option Ex
 at_:Int
structure SyMove where
 kind:Int
 event:List UInt8
 wait:Int
 guarded:Bool
 guard:Option Ex
 acts:List SyAct
 targets:List (List UInt8)
 at_:Int
inductive SyNode where
 |mk (kind:Int) (name initial default:List UInt8) (enter leave:List SyAct) (moves:List SyMove) (kids:List SyNode) (at_:Int)
structure SyChart where
 vars:List SyVar
 root:SyNode
structure Ss where
 ts:List Tk
 n:Nat
 m:Nat
 a:Nat
inductive Rs (α:Type) where
 |out
 |bad (code p:Int)
 |ok (x:α) (s:Ss)
def Rs.bind {α β:Type} (e:Rs α) (g:α->Ss->Rs β):Rs β:=match e with
 |.ok x s=>g x s
 |.out=>.out
 |.bad c p=>.bad c p
@[simp] theorem Rs.bind_ok {α β:Type} (x:α) (s:Ss) (g:α->Ss->Rs β):(Rs.ok x s).bind g=g x s:=rfl
@[simp] theorem Rs.bind_bad {α β:Type} (c p:Int) (g:α->Ss->Rs β):(Rs.bad c p:Rs α).bind g=.bad c p:=rfl
@[simp] theorem Rs.bind_out {α β:Type} (g:α->Ss->Rs β):(Rs.out:Rs α).bind g=.out:=rfl
theorem Rs.some {α β:Type} {e:Rs α} {g:α->Ss->Rs β} {y:β} {r:Ss} (h:e.bind g=.ok y r):∃x s,e=.ok x s/\g x s=.ok y r:=by
 cases e with
 |out=>cases h
 |bad c p=>cases h
 |ok x s=>exact ⟨x,s,rfl,h⟩
theorem Rs.congr {α β:Type} {e:Rs α} {g g':α->Ss->Rs β} (h:∀x s,e=.ok x s->g x s=g' x s):e.bind g=e.bind g':=by
 cases e with
 |out=>rfl
 |bad c p=>rfl
 |ok x s=>exact h x s rfl
theorem Rs.notOut {α β:Type} {e:Rs α} {g:α->Ss->Rs β} (h0:e≠.out) (h:∀x s,e=.ok x s->g x s≠.out):e.bind g≠.out:=by
 cases e with
 |out=>exact absurd rfl h0
 |bad c p=>intro h;cases h
 |ok x s=>exact h x s rfl
theorem Rs.assoc {α β γ:Type} (e:Rs α) (g:α->Ss->Rs β) (h:β->Ss->Rs γ):(e.bind g).bind h=e.bind λ x s=>(g x s).bind h:=by
 cases e <;> rfl
def Takes {α:Type} (k:Nat) (s:Ss) (e:Rs α):Prop:=∀x s',e=.ok x s'->s'.ts.length+k<=s.ts.length
theorem Takes.bind {α β:Type} {k l:Nat} {s:Ss} {e:Rs α} {g:α->Ss->Rs β} (h:Takes k s e) (hg:∀x s',e=.ok x s'->Takes l s' (g x s')):Takes (k+l) s (e.bind g):=λ y r hy=>by
 obtain ⟨x,s',e1,e2⟩:=Rs.some hy;have:=h x s' e1;have:=hg x s' e1 y r e2;omega
theorem Takes.mono {α:Type} {k l:Nat} {s:Ss} {e:Rs α} (h:Takes k s e) (hl:l<=k):Takes l s e:=λ x s' hx=>by
 have:=h x s' hx;omega
theorem Takes.le_of {α:Type} {k:Nat} {s u:Ss} {e:Rs α} (h:Takes k u e) (hl:u.ts.length<=s.ts.length):Takes k s e:=λ x s' hx=>by
 have:=h x s' hx;omega
theorem Takes.ok {α:Type} (x:α) (s:Ss):Takes 0 s (.ok x s):=λ y s' h=>by
 injection h with _ h;subst h;exact n_ _
theorem Takes.bad {α:Type} (k:Nat) (s:Ss) (c p:Int):Takes k s (.bad c p:Rs α):=λ _ _ h=>by cases h
theorem Takes.out {α:Type} (k:Nat) (s:Ss):Takes k s (.out:Rs α):=λ _ _ h=>by cases h
theorem Takes.next {α:Type} {k:Nat} {s:Ss} {t:Tk} {r:List Tk} {n m a:Nat} {e:Rs α} (hs:s.ts=t::r) (h:Takes k ⟨r,n,m,a⟩ e):Takes (k+1) s e:=λ x s' hx=>by
 have:=h x s' hx;rw [hs,List.length_cons];simp only at this;omega
def itF {σ:Type} (stp:σ->Ss->Rs (σ×Bool)):Nat->σ->Ss->Rs σ
 |0,_,_=>.out
 |f+1,x,s=>(stp x s).bind λ y s'=>if y.2=true then itF stp f y.1 s' else .ok y.1 s'
def Goes {σ:Type} (stp:σ->Ss->Rs (σ×Bool)):Prop:=∀x s y s',stp x s=.ok (y,true) s'->s'.ts.length<s.ts.length
def Keeps {σ:Type} (stp:σ->Ss->Rs (σ×Bool)):Prop:=∀x s,Takes 0 s (stp x s)
theorem itF_same {σ:Type} {stp:σ->Ss->Rs (σ×Bool)} (hg:Goes stp):∀f f' x s,s.ts.length<f->s.ts.length<f'->itF stp f x s=itF stp f' x s
 |0,_,_,_,h,_=>by omega
 |_+1,0,_,_,_,h=>by omega
 |f+1,f' + 1,x,s,h,h'=>by
  rw [itF,itF];refine Rs.congr λ y s' e=>?_
  split
  ·rename_i hy
   have e':stp x s=.ok (y.1,true) s':=by rw [e,<-hy]
   have:=hg _ _ _ _ e';exact itF_same hg f f' _ _ (by omega) (by omega)
  ·rfl
theorem itF_takes {σ:Type} {stp:σ->Ss->Rs (σ×Bool)} (hk:Keeps stp):∀f x s,Takes 0 s (itF stp f x s)
 |0,_,s=>.out 0 s
 |f+1,x,s=>by
  rw [itF];refine Takes.bind (k:=0) (l:=0) (hk x s) λ y s' _=>?_
  split
  ·exact itF_takes hk f _ _
  ·exact .ok _ _
def It {σ:Type} (stp:σ->Ss->Rs (σ×Bool)) (x:σ) (s:Ss):Rs σ:=itF stp (s.ts.length+1) x s
theorem It_eq {σ:Type} {stp:σ->Ss->Rs (σ×Bool)} (hg:Goes stp) (x:σ) (s:Ss):It stp x s=(stp x s).bind λ y s'=>if y.2=true then It stp y.1 s' else .ok y.1 s':=by
 unfold It;rw [itF];refine Rs.congr λ y s' e=>?_
 split
 ·rename_i hy
  have e':stp x s=.ok (y.1,true) s':=by rw [e,<-hy]
  have:=hg _ _ _ _ e';exact itF_same hg _ _ _ _ (by omega) (by omega)
 ·rfl
theorem It_takes {σ:Type} {stp:σ->Ss->Rs (σ×Bool)} (hk:Keeps stp) (x:σ) (s:Ss):Takes 0 s (It stp x s):=itF_takes hk _ x s
def isTk (k:Int) (u:List UInt8) (t:Tk):Bool:=decide (t.kind=k)&&decide (t.text=u)
def isAt (k:Int) (u:List UInt8):List Tk->Bool
 |[]=>false
 |t::_=>isTk k u t
def wrongR {α:Type}:List Tk->Rs α
 |[]=>.bad 0 0
 |t::_=>if t.kind=5 then .bad 3 t.at_ else .bad 4 t.at_
def stopR {α:Type} (c:Int):List Tk->Rs α
 |[]=>.bad 0 0
 |t::_=>.bad c t.at_
def atOf:List Tk->Int
 |[]=>0
 |t::_=>t.at_
def kindOf:List Tk->Int
 |[]=>0
 |t::_=>t.kind
theorem wrongR_cons {α:Type} (t:Tk) (r:List Tk):(wrongR (t::r):Rs α)=if t.kind=5 then .bad 3 t.at_ else .bad 4 t.at_:=rfl
theorem wrongR_takes {α:Type} (k:Nat) (s:Ss) (ts:List Tk):Takes k s (wrongR ts:Rs α):=by
 cases ts with
 |nil=>exact Takes.bad _ _ _ _
 |cons t r=>rw [wrongR_cons];split <;> exact Takes.bad _ _ _ _
theorem stopR_takes {α:Type} (k:Nat) (s:Ss) (c:Int) (ts:List Tk):Takes k s (stopR c ts:Rs α):=by
 cases ts with
 |nil=>exact Takes.bad _ _ _ _
 |cons t r=>exact Takes.bad _ _ _ _
def Ss.drop (s:Ss):Ss:=⟨s.ts.tail,s.n,s.m,s.a⟩
def mustR (k:Int) (u:List UInt8) (s:Ss):Rs Unit:=if isAt k u s.ts=true then .ok () s.drop else wrongR s.ts
def nameR (s:Ss):Rs (List UInt8×Int):=match s.ts with
 |[]=>.bad 0 0
 |t::r=>if t.kind=1 then .ok (t.text,t.at_) ⟨r,s.n,s.m,s.a⟩ else wrongR (t::r)
def numR (s:Ss):Rs Int:=match s.ts with
 |[]=>.bad 0 0
 |t::r=>if t.kind=3 then .ok t.num ⟨r,s.n,s.m,s.a⟩ else wrongR (t::r)
def exprR (s:Ss):Rs Ex:=match Pf 0 0 s.ts with
 |.out=>.out
 |.bad c p=>.bad c p
 |.ok x r=>.ok x ⟨r,s.n,s.m,s.a⟩
theorem isAt_cons {k:Int} {u:List UInt8} {ts:List Tk} (h:isAt k u ts=true):∃t r,ts=t::r:=by
 cases ts with
 |nil=>cases h
 |cons t r=>exact ⟨t,r,rfl⟩
theorem drop_takes {α:Type} {k:Int} {u:List UInt8} {s:Ss} (h:isAt k u s.ts=true) (x:α):Takes 1 s (.ok x s.drop):=λ y s' e=>by
 injection e with _ e;obtain ⟨t,r,hs⟩:=isAt_cons h;subst e;show s.ts.tail.length+1<=_;rw [hs];exact n_ _
theorem mustR_takes (k:Int) (u:List UInt8) (s:Ss):Takes 1 s (mustR k u s):=by
 unfold mustR
 split
 ·exact drop_takes (by assumption) _
 ·exact wrongR_takes _ _ _
theorem nameR_takes (s:Ss):Takes 1 s (nameR s):=by
 unfold nameR
 split
 ·exact Takes.bad _ _ _ _
 ·rename_i t r hs
  split
  ·exact .next (k:=0) hs (.ok _ _)
  ·exact wrongR_takes _ _ _
theorem numR_takes (s:Ss):Takes 1 s (numR s):=by
 unfold numR
 split
 ·exact Takes.bad _ _ _ _
 ·rename_i t r hs
  split
  ·exact .next (k:=0) hs (.ok _ _)
  ·exact wrongR_takes _ _ _
theorem exprR_takes (s:Ss):Takes 1 s (exprR s):=λ y s' h=>by
 unfold exprR at h
 split at h
 ·cases h
 ·cases h
 ·rename_i x r e;injection h with _ h;subst h;exact Pf_len e
def wSet:List UInt8:=[115,101,116]
def wRaise:List UInt8:=[114,97,105,115,101]
def wEmit:List UInt8:=[101,109,105,116]
def wOn:List UInt8:=[111,110]
def wAlways:List UInt8:=[97,108,119,97,121,115]
def wAfter:List UInt8:=[97,102,116,101,114]
def wInitial:List UInt8:=[105,110,105,116,105,97,108]
def wEnter:List UInt8:=[101,110,116,101,114]
def wLeave:List UInt8:=[108,101,97,118,101]
def wState:List UInt8:=[115,116,97,116,101]
def wParallel:List UInt8:=[112,97,114,97,108,108,101,108]
def wHistory:List UInt8:=[104,105,115,116,111,114,121]
def wDeep:List UInt8:=[100,101,101,112]
def wVar:List UInt8:=[118,97,114]
def wChart:List UInt8:=[99,104,97,114,116]
def wordAt (ts:List Tk):List (List UInt8)->Nat->Nat
 |[],_=>0
 |u::l,i=>if isAt 2 u ts=true then i else wordAt ts l (i+1)
def actK (ts:List Tk):Nat:=wordAt ts [wSet,wRaise,wEmit] 1
def moveK (ts:List Tk):Nat:=wordAt ts [wOn,wAlways,wAfter] 1
def nodeK (ts:List Tk):Nat:=wordAt ts [wState,wParallel,wHistory,wDeep] 1
theorem wordAt_cons {ts:List Tk}:∀{l:List (List UInt8)} {i:Nat},wordAt ts l i≠0->∃t r,ts=t::r
 |[],_,h=>absurd rfl h
 |u::l,i,h=>by
  unfold wordAt at h
  split at h
  ·exact isAt_cons (by assumption)
  ·exact wordAt_cons h
theorem dropW_takes {α:Type} {s:Ss} {l:List (List UInt8)} {i k n m a:Nat} (h:wordAt s.ts l i≠0) {e:Rs α} (he:Takes k ⟨s.ts.tail,n,m,a⟩ e):Takes (k+1) s e:=by
 obtain ⟨t,r,hs⟩:=wordAt_cons h;rw [hs,List.tail_cons] at he;exact .next hs he
def actV (k:Nat) (s:Ss):Rs (Option Ex) :=
 if k=2 then .ok none s else (mustR 4 [61] s).bind λ _ s=>(exprR s).bind λ x s=>.ok (some x) s
def actR (s:Ss):Rs SyAct :=
 if actK s.ts=0 then wrongR s.ts
 else if s.a=400 then stopR 2 s.ts
 else (nameR ⟨s.ts.tail,s.n,s.m,s.a+1⟩).bind λ x s1=>(actV (actK s.ts) s1).bind λ v s2=>(mustR 4 [59] s2).bind λ _ s3 =>
  .ok ⟨actK s.ts,x.1,v,atOf s.ts⟩ s3
theorem actV_takes (k:Nat) (s:Ss):Takes 0 s (actV k s):=by
 unfold actV
 split
 ·exact .ok _ _
 ·exact (Takes.bind (mustR_takes _ _ _) λ _ s1 _=>Takes.bind (exprR_takes s1) λ _ s2 _=>Takes.ok _ _).mono (by omega)
theorem actR_takes (s:Ss):Takes 1 s (actR s):=by
 unfold actR
 split
 ·exact wrongR_takes _ _ _
 ·rename_i h0
  split
  ·exact stopR_takes _ _ _ _
  ·exact (dropW_takes h0 (Takes.bind (nameR_takes _) λ _ _ _=>Takes.bind (actV_takes _ _) λ _ _ _=>Takes.bind (mustR_takes _ _ _) λ _ _ _=>Takes.ok _ _)).mono (by omega)
def blkS (l:List SyAct) (s:Ss):Rs (List SyAct×Bool) :=
 if isAt 4 [125] s.ts=true then .ok (l,false) s.drop else (actR s).bind λ x s'=>.ok (l++[x],true) s'
def blockR (s:Ss):Rs (List SyAct):=(mustR 4 [123] s).bind λ _ s'=>It blkS [] s'
theorem blkS_goes:Goes blkS:=λ x s y s' h=>by
 unfold blkS at h
 split at h
 ·injection h with h _;injection h with _ h;cases h
 ·obtain ⟨z,s1,e,h⟩:=Rs.some h;injection h with _ h;have:=actR_takes s _ _ e;subst h;omega
theorem blkS_keeps:Keeps blkS:=λ x s=>by
 unfold blkS
 split
 ·exact (drop_takes (by assumption) _).mono (by omega)
 ·exact (Takes.bind (actR_takes s) λ _ _ _=>Takes.ok _ _).mono (by omega)
theorem blockR_takes (s:Ss):Takes 1 s (blockR s):=(Takes.bind (mustR_takes _ _ s) λ _ _ _=>It_takes blkS_keeps _ _).mono (by omega)
def evR (k:Nat) (s:Ss):Rs (List UInt8):=if k=1 then (nameR s).bind λ x s=>.ok x.1 s else .ok [] s
def waitR (k:Nat) (s:Ss):Rs Int:=if k=3 then numR s else .ok 0 s
def guardR (s:Ss):Rs (Option Ex):=if isAt 4 [91] s.ts=true then (exprR s.drop).bind λ x s=>(mustR 4 [93] s).bind λ _ s=>.ok (some x) s else .ok none s
def actsR (s:Ss):Rs (List SyAct):=if isAt 4 [123] s.ts=true then blockR s else .ok [] s
def tgtS (l:List (List UInt8)) (s:Ss):Rs (List (List UInt8)×Bool):=(nameR s).bind λ x s=>if isAt 4 [44] s.ts=true then .ok (l++[x.1],true) s.drop else .ok (l++[x.1],false) s
def tgtR (s:Ss):Rs (List (List UInt8)):=if isAt 4 [45,62] s.ts=true then It tgtS [] s.drop else .ok [] s
theorem drop_le (s:Ss):s.drop.ts.length<=s.ts.length:=by
 show s.ts.tail.length<=_;rw [List.length_tail];omega
theorem Takes.dropped {α:Type} {k:Nat} {s:Ss} {e:Rs α} (h:Takes k s.drop e):Takes k s e:=λ x s' hx=>by
 have:=h x s' hx;have:=drop_le s;omega
theorem tgtS_goes:Goes tgtS:=λ x s y s' h=>by
 obtain ⟨z,s1,e,h⟩:=Rs.some h;have:=nameR_takes s _ _ e
 split at h
 ·injection h with _ h;have:=drop_le s1;subst h;omega
 ·injection h with _ h;subst h;omega
theorem tgtS_keeps:Keeps tgtS:=λ x s=>by
 refine (Takes.bind (l:=0) (nameR_takes s) λ z s1 _=>?_).mono (by omega)
 split
 ·exact (Takes.ok _ _).dropped
 ·exact .ok _ _
theorem evR_takes (k:Nat) (s:Ss):Takes 0 s (evR k s):=by
 unfold evR
 split
 ·exact (Takes.bind (nameR_takes s) λ _ _ _=>Takes.ok _ _).mono (by omega)
 ·exact .ok _ _
theorem waitR_takes (k:Nat) (s:Ss):Takes 0 s (waitR k s):=by
 unfold waitR
 split
 ·exact (numR_takes s).mono (by omega)
 ·exact .ok _ _
theorem guardR_takes (s:Ss):Takes 0 s (guardR s):=by
 unfold guardR
 split
 ·exact ((Takes.bind (exprR_takes _) λ _ _ _=>Takes.bind (mustR_takes _ _ _) λ _ _ _=>Takes.ok _ _).mono (by omega)).dropped
 ·exact .ok _ _
theorem actsR_takes (s:Ss):Takes 0 s (actsR s):=by
 unfold actsR
 split
 ·exact (blockR_takes s).mono (by omega)
 ·exact .ok _ _
theorem tgtR_takes (s:Ss):Takes 0 s (tgtR s):=by
 unfold tgtR
 split
 ·exact (It_takes tgtS_keeps _ _).dropped
 ·exact .ok _ _
def moveR (s:Ss):Rs SyMove :=
 if s.m=200 then stopR 2 s.ts
 else (evR (moveK s.ts) ⟨s.ts.tail,s.n,s.m+1,s.a⟩).bind λ e s1=>(waitR (moveK s.ts) s1).bind λ w s2=>(guardR s2).bind λ g s3 =>
  (actsR s3).bind λ l s4=>(tgtR s4).bind λ q s5=>(mustR 4 [59] s5).bind λ _ s6=>.ok ⟨moveK s.ts,e,w,g.isSome,g,l,q,atOf s.ts⟩ s6
theorem moveR_takes (s:Ss):Takes 1 s (moveR s):=by
 unfold moveR
 split
 ·exact stopR_takes _ _ _ _
 ·refine (Takes.bind (k:=0) (l:=1) (s:=⟨s.ts.tail,s.n,s.m+1,s.a⟩) (evR_takes _ _) λ _ _ _=>?_).le_of ?_
  ·exact (Takes.bind (waitR_takes _ _) λ _ _ _=>Takes.bind (guardR_takes _) λ _ _ _=>Takes.bind (actsR_takes _) λ _ _ _=>Takes.bind (tgtR_takes _) λ _ _ _=>Takes.bind (mustR_takes _ _ _) λ _ _ _=>Takes.ok _ _).mono (by omega)
  ·show s.ts.tail.length<=_;rw [List.length_tail];omega
structure SyB where
 initial:List UInt8
 enter:List SyAct
 leave:List SyAct
 moves:List SyMove
 hi:Bool
 he:Bool
 hl:Bool
def SyB.none:SyB:=⟨[],[],[],[],false,false,false⟩
def initS (b:SyB) (s:Ss):Rs (SyB×Bool) :=
 if b.hi=true then wrongR s.ts else (nameR s.drop).bind λ x s1=>(mustR 4 [59] s1).bind λ _ s2=>.ok (⟨x.1,b.enter,b.leave,b.moves,true,b.he,b.hl⟩,true) s2
def enterS (b:SyB) (s:Ss):Rs (SyB×Bool) :=
 if b.he=true then wrongR s.ts else (blockR s.drop).bind λ l s1=>.ok (⟨b.initial,l,b.leave,b.moves,b.hi,true,b.hl⟩,true) s1
def leaveS (b:SyB) (s:Ss):Rs (SyB×Bool) :=
 if b.hl=true then wrongR s.ts else (blockR s.drop).bind λ l s1=>.ok (⟨b.initial,b.enter,l,b.moves,b.hi,b.he,true⟩,true) s1
def movS (b:SyB) (s:Ss):Rs (SyB×Bool) :=
 if moveK s.ts=0 then .ok (b,false) s else (moveR s).bind λ x s1=>.ok (⟨b.initial,b.enter,b.leave,b.moves++[x],b.hi,b.he,b.hl⟩,true) s1
def clauseS (b:SyB) (s:Ss):Rs (SyB×Bool) :=
 if isAt 2 wInitial s.ts=true then initS b s
 else if isAt 2 wEnter s.ts=true then enterS b s
 else if isAt 2 wLeave s.ts=true then leaveS b s
 else movS b s
theorem drop_lt {s:Ss} {t:Tk} {r:List Tk} (h:s.ts=t::r):s.drop.ts.length+1=s.ts.length:=by
 show s.ts.tail.length+1=_;rw [h];rfl
def Steps {σ:Type} (s:Ss) (e:Rs (σ×Bool)):Prop:=∀y b s',e=.ok (y,b) s'->s'.ts.length+(if b=true then 1 else 0)<=s.ts.length
theorem Steps.of {σ:Type} {s:Ss} {e:Rs (σ×Bool)} (h:Takes 1 s e):Steps s e:=λ y b s' e'=>by
 have:=h _ _ e'
 split <;> omega
theorem Steps.stop {σ:Type} (s:Ss) (x:σ):Steps s (.ok (x,false) s):=λ y b s' e'=>by
 injection e' with e1 e2;injection e1 with _ e1;subst e1 e2;exact n_ _
theorem clauseS_steps (b:SyB) (s:Ss):Steps s (clauseS b s):=by
 unfold clauseS
 split
 ·obtain ⟨t,r,hs⟩:=isAt_cons (by assumption);have hd:=drop_lt hs;unfold initS
  split
  ·exact .of (wrongR_takes _ _ _)
  ·exact .of ((Takes.bind (nameR_takes _) λ _ _ _=>Takes.bind (mustR_takes _ _ _) λ _ _ _=>Takes.ok _ _).mono (by omega) |>.le_of (drop_le s))
 ·split
  ·obtain ⟨t,r,hs⟩:=isAt_cons (by assumption);unfold enterS
   split
   ·exact .of (wrongR_takes _ _ _)
   ·exact .of ((Takes.bind (blockR_takes _) λ _ _ _=>Takes.ok _ _).mono (by omega) |>.le_of (drop_le s))
  ·split
   ·unfold leaveS
    split
    ·exact .of (wrongR_takes _ _ _)
    ·exact .of ((Takes.bind (blockR_takes _) λ _ _ _=>Takes.ok _ _).mono (by omega) |>.le_of (drop_le s))
   ·unfold movS
    split
    ·exact .stop _ _
    ·exact .of ((Takes.bind (moveR_takes _) λ _ _ _=>Takes.ok _ _).mono (by omega))
theorem goes_of {σ:Type} {stp:σ->Ss->Rs (σ×Bool)} (h:∀x s,Steps s (stp x s)):Goes stp:=λ x s y s' e=>by
 have:=h x s y true s' e;rw [if_pos rfl] at this;omega
theorem keeps_of {σ:Type} {stp:σ->Ss->Rs (σ×Bool)} (h:∀x s,Steps s (stp x s)):Keeps stp:=λ x s y s' e=>by
 have:=h x s y.1 y.2 s' e;omega
theorem clauseS_goes:Goes clauseS:=goes_of clauseS_steps
theorem clauseS_keeps:Keeps clauseS:=keeps_of clauseS_steps
def kidS (nd:Ss->Rs SyNode) (l:List SyNode) (s:Ss):Rs (List SyNode×Bool) :=
 if nodeK s.ts=0 then .ok (l,false) s else (nd s).bind λ x s1=>.ok (l++[x],true) s1
theorem kidS_steps {nd:Ss->Rs SyNode} (h:∀s,Takes 1 s (nd s)) (l:List SyNode) (s:Ss):Steps s (kidS nd l s):=by
 unfold kidS
 split
 ·exact .stop _ _
 ·exact .of ((Takes.bind (h s) λ _ _ _=>Takes.ok _ _).mono (by omega))
theorem kidS_goes {nd:Ss->Rs SyNode} (h:∀s,Takes 1 s (nd s)):Goes (kidS nd):=goes_of (kidS_steps h)
theorem kidS_keeps {nd:Ss->Rs SyNode} (h:∀s,Takes 1 s (nd s)):Keeps (kidS nd):=keeps_of (kidS_steps h)
def bodyR (nd:Ss->Rs SyNode) (s:Ss):Rs (SyB×List SyNode):=(It clauseS SyB.none s).bind λ b s1=>(It (kidS nd) [] s1).bind λ l s2=>.ok (b,l) s2
theorem bodyR_takes {nd:Ss->Rs SyNode} (h:∀s,Takes 1 s (nd s)) (s:Ss):Takes 0 s (bodyR nd s) :=
 Takes.bind (k:=0) (l:=0) (It_takes clauseS_keeps _ s) λ _ _ _=>Takes.bind (k:=0) (l:=0) (It_takes (kidS_keeps h) _ _) λ _ _ _=>Takes.ok _ _
def namedR (d:Nat) (s:Ss):Rs (List UInt8×Int):=match s.ts with
 |[]=>.bad 0 0
 |t::r=>if t.kind=1 then (if s.n=64 then .bad 2 t.at_ else if d=0 then .bad 21 t.at_ else .ok (t.text,t.at_) ⟨r,s.n+1,s.m,s.a⟩) else wrongR (t::r)
theorem namedR_takes (d:Nat) (s:Ss):Takes 1 s (namedR d s):=by
 unfold namedR
 split
 ·exact Takes.bad _ _ _ _
 ·rename_i t r hs
  split
  ·split
   ·exact Takes.bad _ _ _ _
   ·split
    ·exact Takes.bad _ _ _ _
    ·exact .next (k:=0) hs (.ok _ _)
  ·exact wrongR_takes _ _ _
theorem namedR_zero (s:Ss):∃c p,namedR 0 s=.bad c p:=by
 unfold namedR
 split
 ·exact ⟨_,_,rfl⟩
 ·split
  ·split
   ·exact ⟨_,_,rfl⟩
   ·exact ⟨_,_,if_pos rfl⟩
  ·rw [wrongR_cons]
   split <;> exact ⟨_,_,rfl⟩
def histR (k:Nat) (x:List UInt8×Int) (s:Ss):Rs SyNode :=
 (mustR 4 [45,62] s).bind λ _ s2=>(nameR s2).bind λ y s3=>(mustR 4 [59] s3).bind λ _ s4=>.ok (.mk k x.1 [] y.1 [] [] [] [] x.2) s4
def nodeOf (k:Nat) (x:List UInt8×Int) (z:SyB×List SyNode):SyNode:=.mk k x.1 z.1.initial [] z.1.enter z.1.leave z.1.moves z.2 x.2
def innerR (nd:Ss->Rs SyNode) (k:Nat) (x:List UInt8×Int) (s:Ss):Rs SyNode :=
 (mustR 4 [123] s).bind λ _ s2=>(bodyR nd s2).bind λ z s3=>(mustR 4 [125] s3).bind λ _ s4=>.ok (nodeOf k x z) s4
def nodeR:Nat->Ss->Rs SyNode
 |0,s=>(namedR 0 s.drop).bind λ _ _=>.out
 |d+1,s=>(namedR (d+1) s.drop).bind λ x s1=>if 3<=nodeK s.ts then histR (nodeK s.ts) x s1 else innerR (nodeR d) (nodeK s.ts) x s1
theorem nodeR_takes:∀d s,Takes 1 s (nodeR d s)
 |0,s=>by
  unfold nodeR;obtain ⟨c,p,e⟩:=namedR_zero s.drop;rw [e];exact Takes.bad _ _ _ _
 |d+1,s=>by
  unfold nodeR;refine Takes.le_of (Takes.mono (Takes.bind (k:=1) (l:=0) (namedR_takes _ _) λ x s1 _=>?_) (by omega)) (drop_le s)
  split
  ·exact (Takes.bind (mustR_takes _ _ _) λ _ _ _=>Takes.bind (nameR_takes _) λ _ _ _=>Takes.bind (mustR_takes _ _ _) λ _ _ _=>Takes.ok _ _).mono (by omega)
  ·exact (Takes.bind (mustR_takes _ _ _) λ _ _ _=>Takes.bind (bodyR_takes (nodeR_takes d) _) λ _ _ _=>Takes.bind (mustR_takes _ _ _) λ _ _ _=>Takes.ok _ _).mono (by omega)
def vnameR (k:Nat) (s:Ss):Rs (List UInt8×Int):=match s.ts with
 |[]=>.bad 0 0
 |t::r=>if t.kind=1 then (if k=16 then .bad 2 t.at_ else .ok (t.text,t.at_) ⟨r,s.n,s.m,s.a⟩) else wrongR (t::r)
def vnumR (s:Ss):Rs Int:=if isAt 4 [45] s.ts=true then (numR s.drop).bind λ x s=>.ok (-x) s else numR s
def varS (l:List SyVar) (s:Ss):Rs (List SyVar×Bool) :=
 if isAt 2 wVar s.ts=true then (vnameR l.length s.drop).bind λ x s1=>(mustR 4 [61] s1).bind λ _ s2=>(vnumR s2).bind λ v s3=>(mustR 4 [59] s3).bind λ _ s4=>.ok (l++[⟨x.1,v,x.2⟩],true) s4
 else .ok (l,false) s
theorem vnameR_takes (k:Nat) (s:Ss):Takes 1 s (vnameR k s):=by
 unfold vnameR
 split
 ·exact Takes.bad _ _ _ _
 ·rename_i t r hs
  split
  ·split
   ·exact Takes.bad _ _ _ _
   ·exact .next (k:=0) hs (.ok _ _)
  ·exact wrongR_takes _ _ _
theorem vnumR_takes (s:Ss):Takes 1 s (vnumR s):=by
 unfold vnumR
 split
 ·exact ((Takes.bind (numR_takes _) λ _ _ _=>Takes.ok _ _).mono (by omega)).dropped
 ·exact numR_takes s
theorem varS_steps (l:List SyVar) (s:Ss):Steps s (varS l s):=by
 unfold varS
 split
 ·exact .of (((Takes.bind (vnameR_takes _ _) λ _ _ _=>Takes.bind (mustR_takes _ _ _) λ _ _ _=>Takes.bind (vnumR_takes _) λ _ _ _=>Takes.bind (mustR_takes _ _ _) λ _ _ _=>Takes.ok _ _).mono (by omega)).dropped)
 ·exact .stop _ _
theorem varS_goes:Goes varS:=goes_of varS_steps
def endR (c:SyChart) (s:Ss):Rs SyChart:=if kindOf s.ts=5 then .ok c s else wrongR s.ts
def chartR (s:Ss):Rs SyChart :=
 (mustR 2 wChart s).bind λ _ s1=>(namedR 12 s1).bind λ x s2=>(mustR 4 [123] s2).bind λ _ s3=>(It varS [] s3).bind λ l s4 =>
  (bodyR (nodeR 11) s4).bind λ z s5=>(mustR 4 [125] s5).bind λ _ s6=>endR ⟨l,nodeOf 1 x z⟩ s6
def syR (ts:List Tk):Rs SyChart:=chartR ⟨ts,0,0,0⟩
def Ss.er (s:Ss):Ss:=⟨s.ts.map Tk.er,s.n,s.m,s.a⟩
def Rs.er {α:Type} (f:α->α):Rs α->Rs α
 |.out=>.out
 |.bad c _=>.bad c 0
 |.ok x s=>.ok (f x) s.er
def SyVar.er (v:SyVar):SyVar:=⟨v.name,v.num,0⟩
def SyAct.er (x:SyAct):SyAct:=⟨x.kind,x.name,x.value.map Ex.er,0⟩
def SyMove.er (x:SyMove):SyMove:=⟨x.kind,x.event,x.wait,x.guarded,x.guard.map Ex.er,x.acts.map SyAct.er,x.targets,0⟩
mutual
def SyNode.er:SyNode->SyNode
 |.mk k n i d e l m kids _=>.mk k n i d (e.map SyAct.er) (l.map SyAct.er) (m.map SyMove.er) (SyNode.ers kids) 0
def SyNode.ers:List SyNode->List SyNode
 |[]=>[]
 |x::l=>x.er::SyNode.ers l
end
theorem ers_map:∀l:List SyNode,SyNode.ers l=l.map SyNode.er
 |[]=>by rw [SyNode.ers];rfl
 |x::l=>by rw [SyNode.ers,ers_map l];rfl
def SyChart.er (c:SyChart):SyChart:=⟨c.vars.map SyVar.er,c.root.er⟩
def SyB.er (b:SyB):SyB:=⟨b.initial,b.enter.map SyAct.er,b.leave.map SyAct.er,b.moves.map SyMove.er,b.hi,b.he,b.hl⟩
def tW (u:List UInt8):Tk:=⟨2,u,0,0⟩
def tN (u:List UInt8):Tk:=⟨1,u,0,0⟩
def tS (u:List UInt8):Tk:=⟨4,u,0,0⟩
def goN:List UInt8:=[103,111]
def xN:List UInt8:=[120]
def mvT (T:List Tk):List Tk:=tS [45,62]::tN xN::tS [59]::T
def eA (T:List Tk):List Tk:=tW wEnter::tS [123]::tS [125]::tW wOn::tN goN::mvT T
def eB (T:List Tk):List Tk:=tW wOn::tN goN::tS [123]::tS [125]::mvT T
def Lk (T:List Tk) (s s':Ss):Prop:=∃H,s.ts=H++eA T/\s'.ts=H++eB T/\s'.n=s.n/\s'.m=s.m/\s'.a=s.a
def Sim {α:Type} (T:List Tk) (e e':Rs α):Prop:=∀x s x' s',e=.ok x s->e'=.ok x' s'->x'=x/\(s'=s∨Lk T s s')
theorem Sim.refl {α:Type} {T:List Tk} (e:Rs α):Sim T e e:=λ x s x' s' h h'=>by
 rw [h] at h';injection h' with h1 h2;exact ⟨h1.symm,.inl h2.symm⟩
theorem Sim.bad {α:Type} {T:List Tk} {e e':Rs α} (h:∃c p,e=.bad c p):Sim T e e':=λ x s x' s' h1 _=>by
 obtain ⟨c,p,h⟩:=h;rw [h] at h1;cases h1
theorem Sim.ok {α:Type} {T:List Tk} (x:α) {s s':Ss} (h:Lk T s s'):Sim T (.ok x s) (.ok x s'):=λ y r y' r' h1 h2=>by
 injection h1 with a1 a2;injection h2 with b1 b2;subst a1 a2 b2;exact ⟨b1.symm,.inr h⟩
theorem Sim.bind {α β:Type} {T:List Tk} {e e':Rs α} {g g':α->Ss->Rs β} (h:Sim T e e') (hg:∀x s s',Lk T s s'->Sim T (g x s) (g' x s')) (he:∀x s,Sim T (g x s) (g' x s)):Sim T (e.bind g) (e'.bind g'):=λ y r y' r' h1 h2=>by
 obtain ⟨x,s,a1,a2⟩:=Rs.some h1;obtain ⟨x',s',b1,b2⟩:=Rs.some h2;obtain ⟨rfl,hs⟩:=h _ _ _ _ a1 b1;rcases hs with rfl|hs
 ·exact he _ _ _ _ _ _ a2 b2
 ·exact hg _ _ _ hs _ _ _ _ a2 b2
theorem wrong_bad {α:Type} (ts:List Tk):∃c p,(wrongR ts:Rs α)=.bad c p:=by
 cases ts with
 |nil=>exact ⟨_,_,rfl⟩
 |cons t r=>rw [wrongR_cons];split <;> exact ⟨_,_,rfl⟩
theorem Lk.next {T:List Tk} {s s':Ss} (h:Lk T s s') {t:Tk} {H:List Tk} (h1:s.ts=t::(H++eA T)) (h2:s'.ts=t::(H++eB T)) (n m a:Nat->Nat) :
  Lk T ⟨s.ts.tail,n s.n,m s.m,a s.a⟩ ⟨s'.ts.tail,n s'.n,m s'.m,a s'.a⟩:=by
 obtain ⟨_,_,_,hn,hm,ha⟩:=h;exact ⟨H,by rw [h1];rfl,by rw [h2];rfl,by rw [hn],by rw [hm],by rw [ha]⟩
theorem Lk.drop {T:List Tk} {s s':Ss} (h:Lk T s s') {t:Tk} {H:List Tk} (h1:s.ts=t::(H++eA T)) (h2:s'.ts=t::(H++eB T)):Lk T s.drop s'.drop:=h.next h1 h2 id id id
def Plain (k:Int) (u:List UInt8):Prop:=isTk k u (tW wEnter)=false/\isTk k u (tW wOn)=false
instance (k:Int) (u:List UInt8):Decidable (Plain k u):=inferInstanceAs (Decidable (_/\_))
def SyB.eqB (b b':SyB):Prop:=b'.initial=b.initial/\b'.enter=b.enter/\b'.leave=b.leave/\b'.moves=b.moves
theorem SyB.eqB.rfl (b:SyB):b.eqB b:=⟨Eq.refl _,Eq.refl _,Eq.refl _,Eq.refl _⟩
def rep (g:List Tk->List Tk):Nat->List Tk->List Tk
 |0,T=>T
 |k+1,T=>g (rep g k T)
def ScIs (l:List UInt8) (u:List Tk):Prop:=∀p acc,∃(v:List Tk) (q:Int),v.map Tk.er=u/\scT p acc l=(acc++v++[⟨5,[],0,q⟩],0,0)
def ScNo (l:List UInt8):Prop:=∀p acc,(scT p acc l).2.1≠0
def Ahead (d:List UInt8) (u:List Tk):Prop:=∀t p acc,∃(v:List Tk) (q:Nat),v.map Tk.er=u/\scT p acc (d++t)=scT q (acc++v) t
theorem Ahead.nil:Ahead [] []:=λ t p acc=>⟨[],p,rfl,by rw [List.append_nil];rfl⟩
theorem Ahead.append {d d':List UInt8} {u u':List Tk} (h:Ahead d u) (h':Ahead d' u'):Ahead (d++d') (u++u'):=λ t p acc=>by
 obtain ⟨v,q,h1,h2⟩:=h (d'++t) p acc;obtain ⟨v',q',k1,k2⟩:=h' t q (acc++v);exact ⟨v++v',q',by rw [List.map_append,h1,k1],by rw [a_,h2,k2,a_]⟩
theorem Ahead.is {d t:List UInt8} {u w:List Tk} (h:Ahead d u) (ht:ScIs t w):ScIs (d++t) (u++w):=λ p acc=>by
 obtain ⟨v,q,h1,h2⟩:=h t p acc;obtain ⟨v',q',k1,k2⟩:=ht q (acc++v);exact ⟨v++v',q',by rw [List.map_append,h1,k1],by rw [h2,k2];simp⟩
theorem Ahead.no {d t:List UInt8} {u:List Tk} (h:Ahead d u) (ht:ScNo t):ScNo (d++t):=λ p acc=>by
 obtain ⟨v,q,h1,h2⟩:=h t p acc;rw [h2];exact ht _ _
theorem scIs_nil:ScIs [] []:=λ p acc=>⟨[],_,rfl,by rw [scT_nil,List.append_nil]⟩
theorem Ahead.all {d:List UInt8} {u:List Tk} (h:Ahead d u):ScIs d u:=by
 have:=h.is scIs_nil
 rwa [List.append_nil,List.append_nil] at this
theorem Ahead.blank {c:UInt8} (hc:isBl c=true):Ahead [c] []:=λ t p acc=>⟨[],p+1,rfl,by rw [List.append_nil];exact scT_blank hc p acc t⟩
theorem Ahead.word {c:UInt8} {u d:List UInt8} {w:List Tk} (hc:isLt c=true) (hu:wdK (c::u)=(c::u).length) (hl:(c::u).length<=24) (hd:∃z y,d=z::y/\isWd z=false) (h:Ahead d w) :
  Ahead (c::u++d) (⟨if isKw (c::u)=true then 2 else 1,c::u,0,0⟩::w):=λ t p acc=>by
 obtain ⟨z,y,rfl,hz⟩:=hd
 have hnw:NW (z::y++t):=λ c r e=>by
  rw [List.cons_append] at e;injection e with e _;rw [<-e];exact hz
 obtain ⟨v,q,h1,h2⟩:=h t (p+(c::u).length) (acc++[⟨if isKw (c::u)=true then 2 else 1,c::u,0,(p:Int)⟩]);refine ⟨⟨if isKw (c::u)=true then 2 else 1,c::u,0,(p:Int)⟩::v,q,by rw [List.map_cons,h1];rfl,?_⟩;rw [a_,scT_run hc hu hl hnw,h2];simp
theorem Ahead.int {n:Int} (h0:0<=n) (h1:n<=9223372036854775807) {d:List UInt8} {w:List Tk} (hd:∃z y,d=z::y/\isWd z=false) (h:Ahead d w):Ahead (Lib.itoa n++d) (⟨3,[],n,0⟩::w):=λ t p acc=>by
 obtain ⟨z,y,rfl,hz⟩:=hd
 have hnw:NW (z::y++t):=λ c r e=>by
  rw [List.cons_append] at e;injection e with e _;rw [<-e];exact hz
 obtain ⟨v,q,k1,k2⟩:=h t (p+(Lib.itoa n).length) (acc++[⟨3,[],n,(p:Int)⟩]);refine ⟨⟨3,[],n,(p:Int)⟩::v,q,by rw [List.map_cons,k1];rfl,?_⟩;rw [a_,scT_int h0 h1 hnw,k2];simp
theorem Ahead.sign {c:UInt8} {d:List UInt8} {w:List Tk} (hl:isLt c=false) (hg:isDg c=false) (hb:∀t,blK false (c::t)=0) (hs:∀t,sgn (c::t)=1) (h:Ahead d w):Ahead (c::d) (⟨4,[c],0,0⟩::w):=λ t p acc=>by
 obtain ⟨v,q,h1,h2⟩:=h t (p+1) (acc++[⟨4,[c],0,(p:Int)⟩]);refine ⟨⟨4,[c],0,(p:Int)⟩::v,q,by rw [List.map_cons,h1];rfl,?_⟩;rw [List.cons_append,scT_sign hl hg (hb _) (hs _) (by decide)];show scT (p+1) (acc++[⟨4,[c],0,(p:Int)⟩]) (d++t)=_;rw [h2];simp
def syF (l:List UInt8):Rs SyChart:=if (scF l).2.1=0 then syR (scF l).1 else .bad (scF l).2.1 (scF l).2.2
def Rs.code {α:Type}:Rs α->Int
 |.out=>-1
 |.bad c _=>c
 |.ok _ _=>0
end Go.Proofs.YtifekcbinjdfbaaGreatDoor
namespace Go.Proofs.YtifekcbinjdfbaaGreatDoor
def SpL {α:Type} (sp:α->List Tk->Prop):List α->List Tk->Prop
 |[],ts=>ts=[]
 |x::l,ts=>∃u v,ts=u++v/\sp x u/\SpL sp l v
def actW (k:Int):List UInt8:=if k=1 then wSet else if k=2 then wRaise else wEmit
def Ex.may (x:Ex):Prop:=x.fine/\x.nst<=20
structure SyAct.good (a:SyAct):Prop where
 kind:a.kind=1∨a.kind=2∨a.kind=3
 name:isNm a.name=true
 raise:a.kind=2->a.value=none
 value:a.kind≠2->∃x,a.value=some x/\x.may
def SpAct (a:SyAct) (ts:List Tk):Prop:=∃q qs u,ts=⟨2,actW a.kind,0,a.at_⟩::⟨1,a.name,0,q⟩::(u++[⟨4,[59],0,qs⟩]) /\
 match a.value with
 |none=>u=[]
 |some x=>∃qe v,u=⟨4,[61],0,qe⟩::v/\Sp x v
theorem opAt_semi {j:Nat} (hj:j<6) (c:Int) (r:List Tk):opAt j (⟨4,[59],0,c⟩::r)=0:=by
 match j,hj with
 |0,_=>rfl
 |1,_=>rfl
 |2,_=>rfl
 |3,_=>rfl
 |4,_=>rfl
 |5,_=>rfl
theorem opAt_close {j:Nat} (hj:j<6) (c:Int) (r:List Tk):opAt j (⟨4,[93],0,c⟩::r)=0:=by
 match j,hj with
 |0,_=>rfl
 |1,_=>rfl
 |2,_=>rfl
 |3,_=>rfl
 |4,_=>rfl
 |5,_=>rfl
theorem exprR_sp {x:Ex} {u r:List Tk} {n m a:Nat} (h:Sp x u) (hx:x.may) (ho:∀j,j<6->opAt j r=0):exprR ⟨u++r,n,m,a⟩=.ok x ⟨r,n,m,a⟩:=by
 have h1:=(reads_sp x (Ex.fine.ops hx.1) u h 0 0 r (Nat.zero_le _) (by omega) (λ j _ h6=>ho j h6)).1 (by have:=hx.2;omega);rw [Res_stop (by omega) (λ h6=>ho 0 h6)] at h1;unfold exprR;simp only [h1]
theorem actV_sp {k:Nat} (hk:k≠2) {x:Ex} {v r:List Tk} {qe qs:Int} {n m a:Nat} (h:Sp x v) (hx:x.may):actV k ⟨⟨4,[61],0,qe⟩::(v++⟨4,[59],0,qs⟩::r),n,m,a⟩=.ok (some x) ⟨⟨4,[59],0,qs⟩::r,n,m,a⟩:=by
 unfold actV;rw [if_neg hk];show (exprR ⟨v++⟨4,[59],0,qs⟩::r,n,m,a⟩).bind _=_;rw [exprR_sp h hx (λ j hj=>opAt_semi hj qs r)];rfl
theorem actR_sp {a:SyAct} {ts r:List Tk} {n m k:Nat} (h:SpAct a ts) (hg:a.good) (hk:k≠400):actR ⟨ts++r,n,m,k⟩=.ok a ⟨r,n,m,k+1⟩:=by
 obtain ⟨kd,nm,v,p⟩:=a;obtain ⟨q,qs,u,rfl,h⟩:=h;obtain ⟨hkd,_,hr,hv⟩:=hg;simp only at h hkd hr hv
 have e1:(⟨2,actW kd,0,p⟩::⟨1,nm,0,q⟩::(u++[⟨4,[59],0,qs⟩]))++r=⟨2,actW kd,0,p⟩::⟨1,nm,0,q⟩::(u++⟨4,[59],0,qs⟩::r):=by simp
 show actR ⟨(⟨2,actW kd,0,p⟩::⟨1,nm,0,q⟩::(u++[⟨4,[59],0,qs⟩]))++r,n,m,k⟩=_;rw [e1]
 by_cases h2:kd=2
 ·subst h2;obtain rfl:=hr rfl;simp only at h;subst h;show (if k=400 then _ else _)=_;rw [if_neg hk];rfl
 ·obtain ⟨x,rfl,hx⟩:=hv h2;simp only at h;obtain ⟨qe,w,rfl,hs⟩:=h;rcases hkd with rfl|rfl|rfl
  ·show (if k=400 then _ else (actV 1 ⟨⟨4,[61],0,qe⟩::(w++⟨4,[59],0,qs⟩::r),n,m,k+1⟩).bind _)=_;rw [if_neg hk,actV_sp (by decide) hs hx];rfl
  ·exact absurd rfl h2
  ·show (if k=400 then _ else (actV 3 ⟨⟨4,[61],0,qe⟩::(w++⟨4,[59],0,qs⟩::r),n,m,k+1⟩).bind _)=_;rw [if_neg hk,actV_sp (by decide) hs hx];rfl
theorem act_head {a:SyAct} {ts:List Tk} (h:SpAct a ts) (r:List Tk):isAt 4 [125] (ts++r)=false:=by
 obtain ⟨q,qs,u,rfl,_⟩:=h;rfl
def SpBlock (l:List SyAct) (ts:List Tk):Prop:=∃q q' u,ts=⟨4,[123],0,q⟩::(u++[⟨4,[125],0,q'⟩])/\SpL SpAct l u
theorem acts_sp:∀(l:List SyAct) (u acc:_) (q':Int) (r:List Tk) (n m k:Nat),SpL SpAct l u->(∀a∈l,a.good)->k+l.length<=400->It blkS acc ⟨u++⟨4,[125],0,q'⟩::r,n,m,k⟩=.ok (acc++l) ⟨r,n,m,k+l.length⟩
 |[],u,acc,q',r,n,m,k,h,_,_=>by
  obtain rfl:u=[]:=h;rw [It_eq blkS_goes];show (Rs.ok (acc,false) (⟨r,n,m,k⟩:Ss)).bind _=_;simp
 |a::l,u,acc,q',r,n,m,k,h,hg,hk=>by
  obtain ⟨u1,v,rfl,h1,h2⟩:=h;rw [List.length_cons] at hk
  have e:blkS acc ⟨u1++v++⟨4,[125],0,q'⟩::r,n,m,k⟩=.ok (acc++[a],true) ⟨v++⟨4,[125],0,q'⟩::r,n,m,k+1⟩:=by
   unfold blkS;rw [a_];simp only [act_head h1,Bool.false_eq_true,if_false];rw [actR_sp h1 (hg a (by simp)) (by omega)];rfl
  rw [It_eq blkS_goes,e,Rs.bind_ok];simp only [if_true];rw [acts_sp l v (acc++[a]) q' r n m (k+1) h2 (λ b hb=>hg b (by simp [hb])) (by omega),a_,List.length_cons,show k+1+l.length=k+(l.length+1) from by omega];rfl
theorem block_sp {l:List SyAct} {ts r:List Tk} {n m k:Nat} (h:SpBlock l ts) (hg:∀a∈l,a.good) (hk:k+l.length<=400):blockR ⟨ts++r,n,m,k⟩=.ok l ⟨r,n,m,k+l.length⟩:=by
 obtain ⟨q,q',u,rfl,h⟩:=h
 have e1:(⟨4,[123],0,q⟩::(u++[⟨4,[125],0,q'⟩]))++r=⟨4,[123],0,q⟩::(u++⟨4,[125],0,q'⟩::r):=by simp
 rw [e1];show It blkS [] ⟨u++⟨4,[125],0,q'⟩::r,n,m,k⟩=_;rw [acts_sp l u [] q' r n m k h hg hk];rfl
def moveW (k:Int):List UInt8:=if k=1 then wOn else if k=2 then wAlways else wAfter
def SpG:Option Ex->List Tk->Prop
 |none,ts=>ts=[]
 |some x,ts=>∃q q' v,ts=⟨4,[91],0,q⟩::(v++[⟨4,[93],0,q'⟩])/\Sp x v
def SpBs (l:List SyAct) (ts:List Tk):Prop:=if l=[] then ts=[] else SpBlock l ts
def SpT1:List (List UInt8)->List Tk->Prop
 |[],ts=>ts=[]
 |x::l,ts=>∃q q' v,ts=⟨4,[44],0,q⟩::⟨1,x,0,q'⟩::v/\SpT1 l v
def SpT:List (List UInt8)->List Tk->Prop
 |[],ts=>ts=[]
 |x::l,ts=>∃q q' v,ts=⟨4,[45,62],0,q⟩::⟨1,x,0,q'⟩::v/\SpT1 l v
def SpEv (m:SyMove) (ts:List Tk):Prop:=(m.kind=1/\∃q,ts=[⟨1,m.event,0,q⟩])∨(m.kind=2/\ts=[])∨(m.kind=3/\∃q,ts=[⟨3,[],m.wait,q⟩])
def SpMv (m:SyMove) (ts:List Tk):Prop:=∃qs ue ug ua ut,ts=⟨2,moveW m.kind,0,m.at_⟩::(ue++(ug++(ua++(ut++[⟨4,[59],0,qs⟩]))))/\SpEv m ue/\SpG m.guard ug/\SpBs m.acts ua/\SpT m.targets ut
structure SyMove.good (m:SyMove):Prop where
 kind:m.kind=1∨m.kind=2∨m.kind=3
 event:(m.kind=1/\isNm m.event=true)∨(m.kind≠1/\m.event=[])
 wait:(m.kind=3/\0<=m.wait/\m.wait<=9223372036854775807)∨(m.kind≠3/\m.wait=0)
 guarded:m.guarded=m.guard.isSome
 guard:∀x,m.guard=some x->x.may
 acts:∀a∈m.acts,a.good
 targets:∀t∈m.targets,isNm t=true
theorem guardR_sp {g:Option Ex} {ug r:List Tk} {n m k:Nat} (h:SpG g ug) (hg:∀x,g=some x->x.may) (hr:isAt 4 [91] r=false):guardR ⟨ug++r,n,m,k⟩=.ok g ⟨r,n,m,k⟩:=by
 cases g with
 |none =>
  obtain rfl:ug=[]:=h;unfold guardR;rw [List.nil_append];simp only [hr,Bool.false_eq_true,if_false]
 |some x =>
  obtain ⟨q,q',v,rfl,h⟩:=h
  have e1:(⟨4,[91],0,q⟩::(v++[⟨4,[93],0,q'⟩]))++r=⟨4,[91],0,q⟩::(v++⟨4,[93],0,q'⟩::r):=by simp
  rw [e1];show (exprR ⟨v++⟨4,[93],0,q'⟩::r,n,m,k⟩).bind _=_;rw [exprR_sp h (hg x rfl) (λ j hj=>opAt_close hj q' r)];rfl
theorem actsR_sp {l:List SyAct} {ua r:List Tk} {n m k:Nat} (h:SpBs l ua) (hg:∀a∈l,a.good) (hk:k+l.length<=400) (hr:isAt 4 [123] r=false):actsR ⟨ua++r,n,m,k⟩=.ok l ⟨r,n,m,k+l.length⟩:=by
 unfold SpBs at h
 split at h
 ·rename_i hl;subst hl;subst h;unfold actsR;rw [List.nil_append];simp only [hr,Bool.false_eq_true,if_false];rfl
 ·have h1:=block_sp (r:=r) (n:=n) (m:=m) h hg hk;obtain ⟨q,q',u,rfl,_⟩:=h;unfold actsR;exact (if_pos (by rfl)).trans h1
theorem tgt1_sp:∀(l:List (List UInt8)) (x:List UInt8) (q:Int) (v acc:_) (r:List Tk) (n m k:Nat),SpT1 l v->isAt 4 [44] r=false->It tgtS acc ⟨⟨1,x,0,q⟩::(v++r),n,m,k⟩=.ok (acc++x::l) ⟨r,n,m,k⟩
 |[],x,q,v,acc,r,n,m,k,h,hr=>by
  obtain rfl:v=[]:=h;rw [It_eq tgtS_goes,List.nil_append]
  have e:tgtS acc ⟨⟨1,x,0,q⟩::r,n,m,k⟩=.ok (acc++[x],false) ⟨r,n,m,k⟩:=by
   show (if isAt 4 [44] r=true then _ else _)=_;rw [hr];rfl
  rw [e];rfl
 |y::l,x,q,v,acc,r,n,m,k,h,hr=>by
  obtain ⟨q1,q2,v',rfl,h⟩:=h;have e:tgtS acc ⟨⟨1,x,0,q⟩::(⟨4,[44],0,q1⟩::⟨1,y,0,q2⟩::v'++r),n,m,k⟩=.ok (acc++[x],true) ⟨⟨1,y,0,q2⟩::(v'++r),n,m,k⟩:=rfl;rw [It_eq tgtS_goes,e,Rs.bind_ok];simp only [if_true];rw [tgt1_sp l y q2 v' (acc++[x]) r n m k h hr,a_];rfl
theorem tgtR_sp {l:List (List UInt8)} {ut r:List Tk} {n m k:Nat} (h:SpT l ut) (hr:isAt 4 [45,62] r=false) (hc:isAt 4 [44] r=false):tgtR ⟨ut++r,n,m,k⟩=.ok l ⟨r,n,m,k⟩:=by
 cases l with
 |nil =>
  obtain rfl:ut=[]:=h;unfold tgtR;rw [List.nil_append];simp only [hr,Bool.false_eq_true,if_false]
 |cons x l =>
  obtain ⟨q,q',v,rfl,h⟩:=h;show It tgtS [] ⟨⟨1,x,0,q'⟩::(v++r),n,m,k⟩=_;rw [tgt1_sp l x q' v [] r n m k h hc];rfl
theorem tgt_head {l:List (List UInt8)} {ut:List Tk} (h:SpT l ut) (qs:Int) (r:List Tk) (u:List UInt8) (h1:u≠[45,62]) (h2:u≠[59]):isAt 4 u (ut++⟨4,[59],0,qs⟩::r)=false:=by
 cases l with
 |nil =>
  obtain rfl:ut=[]:=h;simp [isAt,isTk,Ne.symm h2]
 |cons x l =>
  obtain ⟨q,q',v,rfl,_⟩:=h;simp [isAt,isTk,Ne.symm h1]
theorem acts_head {l:List SyAct} {ua:List Tk} (h:SpBs l ua) (r:List Tk) (u:List UInt8) (h1:u≠[123]) (h2:isAt 4 u r=false):isAt 4 u (ua++r)=false:=by
 unfold SpBs at h
 split at h
 ·subst h;exact h2
 ·obtain ⟨q,q',v,rfl,_⟩:=h;simp [isAt,isTk,Ne.symm h1]
theorem moveR_sp {mv:SyMove} {ts r:List Tk} {n m k:Nat} (h:SpMv mv ts) (hg:mv.good) (hm:m≠200) (hk:k+mv.acts.length<=400):moveR ⟨ts++r,n,m,k⟩=.ok mv ⟨r,n,m+1,k+mv.acts.length⟩:=by
 obtain ⟨kd,ev,wt,gd,g,al,tg,p⟩:=mv;obtain ⟨qs,ue,ug,ua,ut,rfl,h1,h2,h3,h4⟩:=h;obtain ⟨_,g1,g2,g3,g4,g5,_⟩:=hg;simp only at h2 h3 h4 g3 g4 g5 hk;obtain rfl:=g3
 have e1:(⟨2,moveW kd,0,p⟩::(ue++(ug++(ua++(ut++[⟨4,[59],0,qs⟩])))))++r=⟨2,moveW kd,0,p⟩::(ue++(ug++(ua++(ut++⟨4,[59],0,qs⟩::r)))):=by simp
 show moveR ⟨(⟨2,moveW kd,0,p⟩::(ue++(ug++(ua++(ut++[⟨4,[59],0,qs⟩])))))++r,n,m,k⟩=_;rw [e1];have t1:=tgt_head h4 qs r;have r1:=guardR_sp (n:=n) (m:=m+1) (k:=k) h2 g4 (acts_head h3 _ [91] (by decide) (t1 [91] (by decide) (by decide)));have r2:=actsR_sp (n:=n) (m:=m+1) h3 g5 hk (t1 [123] (by decide) (by decide));have r3:=tgtR_sp (r:=⟨4,[59],0,qs⟩::r) (n:=n) (m:=m+1) (k:=k+al.length) h4 rfl rfl;rcases h1 with ⟨h0,q,h1⟩|⟨h0,h1⟩|⟨h0,q,h1⟩
 ·simp only at h0 h1 g1 g2;subst h0;subst h1
  obtain rfl:wt=0:=by rcases g2 with g2|g2;exact absurd g2.1 (by decide);exact g2.2
  show (if m=200 then _ else (guardR ⟨ug++(ua++(ut++⟨4,[59],0,qs⟩::r)),n,m+1,k⟩).bind _)=_;rw [if_neg hm,r1,Rs.bind_ok,r2,Rs.bind_ok,r3];rfl
 ·simp only at h0 g1 g2;subst h0;subst h1
  obtain rfl:wt=0:=by rcases g2 with g2|g2;exact absurd g2.1 (by decide);exact g2.2
  obtain rfl:ev=[]:=by rcases g1 with g1|g1;exact absurd g1.1 (by decide);exact g1.2
  show (if m=200 then _ else (guardR ⟨ug++(ua++(ut++⟨4,[59],0,qs⟩::r)),n,m+1,k⟩).bind _)=_;rw [if_neg hm,r1,Rs.bind_ok,r2,Rs.bind_ok,r3];rfl
 ·simp only at h0 h1 g1 g2;subst h0;subst h1
  obtain rfl:ev=[]:=by rcases g1 with g1|g1;exact absurd g1.1 (by decide);exact g1.2
  show (if m=200 then _ else (guardR ⟨ug++(ua++(ut++⟨4,[59],0,qs⟩::r)),n,m+1,k⟩).bind _)=_;rw [if_neg hm,r1,Rs.bind_ok,r2,Rs.bind_ok,r3];rfl
end Go.Proofs.YtifekcbinjdfbaaGreatDoor
namespace Go.Proofs.YtifekcbinjdfbaaGreatDoor
def nodeW (k:Int):List UInt8:=if k=1 then wState else if k=2 then wParallel else if k=3 then wHistory else wDeep
def SpIni (ini:List UInt8) (ts:List Tk):Prop:=if ini=[] then ts=[] else ∃q q' q2,ts=[⟨2,wInitial,0,q⟩,⟨1,ini,0,q'⟩,⟨4,[59],0,q2⟩]
def SpCl (w:List UInt8) (l:List SyAct) (ts:List Tk):Prop:=if l=[] then ts=[] else ∃q v,ts=⟨2,w,0,q⟩::v/\SpBlock l v
mutual
def SpNd:SyNode->List Tk->Prop
 |.mk k nm ini dft en le mo ks p,ts=>∃q0,
  (3<=k/\∃q1 q2 q3,ts=[⟨2,nodeW k,0,q0⟩,⟨1,nm,0,p⟩,⟨4,[45,62],0,q1⟩,⟨1,dft,0,q2⟩,⟨4,[59],0,q3⟩]) ∨
  (k<3/\∃q1 q2 ui ue ul um uk,ts=⟨2,nodeW k,0,q0⟩::⟨1,nm,0,p⟩::⟨4,[123],0,q1⟩::(ui++(ue++(ul++(um++(uk++[⟨4,[125],0,q2⟩]))))) /\
   SpIni ini ui/\SpCl wEnter en ue/\SpCl wLeave le ul/\SpL SpMv mo um/\SpKs ks uk)
def SpKs:List SyNode->List Tk->Prop
 |[],ts=>ts=[]
 |x::l,ts=>∃u v,ts=u++v/\SpNd x u/\SpKs l v
end
def mvA:List SyMove->Nat
 |[]=>0
 |m::l=>m.acts.length+mvA l
mutual
def cN:SyNode->Nat
 |.mk _ _ _ _ _ _ _ ks _=>1+cNs ks
def cNs:List SyNode->Nat
 |[]=>0
 |x::l=>cN x+cNs l
end
mutual
def cM:SyNode->Nat
 |.mk _ _ _ _ _ _ mo ks _=>mo.length+cMs ks
def cMs:List SyNode->Nat
 |[]=>0
 |x::l=>cM x+cMs l
end
mutual
def cA:SyNode->Nat
 |.mk _ _ _ _ en le mo ks _=>en.length+le.length+mvA mo+cAs ks
def cAs:List SyNode->Nat
 |[]=>0
 |x::l=>cA x+cAs l
end
def GdN:Nat->SyNode->Prop
 |0,_=>False
 |d+1,.mk k nm ini dft en le mo ks _=>isNm nm=true /\
  (((k=3∨k=4)/\isNm dft=true/\ini=[]/\en=[]/\le=[]/\mo=[]/\ks=[]) ∨
   ((k=1∨k=2)/\dft=[]/\(ini=[]∨isNm ini=true)/\(∀a∈en,a.good)/\(∀a∈le,a.good)/\(∀m∈mo,m.good)/\∀x∈ks,GdN d x))
theorem ini_sp {ini:List UInt8} {ui r:List Tk} {n m a:Nat} (h:SpIni ini ui):∃hi,It clauseS SyB.none ⟨ui++r,n,m,a⟩=It clauseS ⟨ini,[],[],[],hi,false,false⟩ ⟨r,n,m,a⟩:=by
 unfold SpIni at h
 split at h
 ·rename_i hi;subst hi;subst h;exact ⟨false,rfl⟩
 ·obtain ⟨q,q',q2,rfl⟩:=h;refine ⟨true,?_⟩;rw [It_eq clauseS_goes];rfl
theorem ent_sp {ini:List UInt8} {hi:Bool} {en:List SyAct} {ue r:List Tk} {n m a:Nat} (h:SpCl wEnter en ue) (hg:∀x∈en,x.good) (ha:a+en.length<=400) :
  ∃he,It clauseS ⟨ini,[],[],[],hi,false,false⟩ ⟨ue++r,n,m,a⟩=It clauseS ⟨ini,en,[],[],hi,he,false⟩ ⟨r,n,m,a+en.length⟩:=by
 unfold SpCl at h
 split at h
 ·rename_i hi;subst hi;subst h;exact ⟨false,rfl⟩
 ·obtain ⟨q,v,rfl,h⟩:=h;refine ⟨true,?_⟩;rw [It_eq clauseS_goes];have e:clauseS ⟨ini,[],[],[],hi,false,false⟩ ⟨(⟨2,wEnter,0,q⟩::v)++r,n,m,a⟩=(blockR ⟨v++r,n,m,a⟩).bind λ l s1=>.ok (⟨ini,l,[],[],hi,true,false⟩,true) s1:=rfl;rw [e,block_sp h hg ha];rfl
theorem lea_sp {ini:List UInt8} {hi he:Bool} {en le:List SyAct} {ul r:List Tk} {n m a:Nat} (h:SpCl wLeave le ul) (hg:∀x∈le,x.good) (ha:a+le.length<=400) :
  ∃hl,It clauseS ⟨ini,en,[],[],hi,he,false⟩ ⟨ul++r,n,m,a⟩=It clauseS ⟨ini,en,le,[],hi,he,hl⟩ ⟨r,n,m,a+le.length⟩:=by
 unfold SpCl at h
 split at h
 ·rename_i hi;subst hi;subst h;exact ⟨false,rfl⟩
 ·obtain ⟨q,v,rfl,h⟩:=h;refine ⟨true,?_⟩;rw [It_eq clauseS_goes];have e:clauseS ⟨ini,en,[],[],hi,he,false⟩ ⟨(⟨2,wLeave,0,q⟩::v)++r,n,m,a⟩=(blockR ⟨v++r,n,m,a⟩).bind λ l s1=>.ok (⟨ini,en,l,[],hi,he,true⟩,true) s1:=rfl;rw [e,block_sp h hg ha];rfl
theorem clause_mv {b:SyB} {mv:SyMove} {ts r:List Tk} {n m a:Nat} (h:SpMv mv ts) (hg:mv.good):clauseS b ⟨ts++r,n,m,a⟩=(moveR ⟨ts++r,n,m,a⟩).bind λ x s1=>.ok (⟨b.initial,b.enter,b.leave,b.moves++[x],b.hi,b.he,b.hl⟩,true) s1:=by
 obtain ⟨kd,ev,wt,gd,g,al,tg,p⟩:=mv;obtain ⟨qs,ue,ug,ua,ut,rfl,_⟩:=h;have hk:=hg.kind;simp only at hk
 rcases hk with rfl|rfl|rfl <;> rfl
theorem movs_sp {ini:List UInt8} {hi he hl:Bool} {en le:List SyAct}:∀(mo:List SyMove) (um acc:_) (r:List Tk) (n m a:Nat),SpL SpMv mo um->(∀x∈mo,x.good)->m+mo.length<=200->a+mvA mo<=400 ->
  It clauseS ⟨ini,en,le,acc,hi,he,hl⟩ ⟨um++r,n,m,a⟩=It clauseS ⟨ini,en,le,acc++mo,hi,he,hl⟩ ⟨r,n,m+mo.length,a+mvA mo⟩
 |[],um,acc,r,n,m,a,h,_,_,_=>by
  obtain rfl:um=[]:=h;rw [List.append_nil];rfl
 |x::l,um,acc,r,n,m,a,h,hg,hm,ha=>by
  obtain ⟨u,v,rfl,h1,h2⟩:=h;rw [List.length_cons] at hm;rw [mvA] at ha;have gx:=hg x (by simp);rw [It_eq clauseS_goes,a_,clause_mv h1 gx,moveR_sp h1 gx (by omega) (by omega)];simp only [Rs.bind_ok,if_true];rw [movs_sp l v (acc++[x]) r n (m+1) (a+x.acts.length) h2 (λ b hb=>hg b (by simp [hb])) (by omega) (by omega),a_,List.length_cons,mvA]
  congr 2
  ·omega
  ·omega
def Over (r:List Tk):Prop:=isAt 2 wInitial r=false/\isAt 2 wEnter r=false/\isAt 2 wLeave r=false/\moveK r=0
theorem over_sp {b:SyB} {r:List Tk} {n m a:Nat} (h:Over r):It clauseS b ⟨r,n,m,a⟩=.ok b ⟨r,n,m,a⟩:=by
 obtain ⟨h1,h2,h3,h4⟩:=h;rw [It_eq clauseS_goes]
 have e:clauseS b ⟨r,n,m,a⟩=.ok (b,false) ⟨r,n,m,a⟩:=by
  unfold clauseS movS;simp only [h1,h2,h3,h4,Bool.false_eq_true,if_false,if_true]
 rw [e];rfl
theorem nd_head {x:SyNode} {ts:List Tk} (h:SpNd x ts) {d:Nat} (hg:GdN d x) (r:List Tk):Over (ts++r)/\nodeK (ts++r)≠0:=by
 obtain ⟨k,nm,ini,dft,en,le,mo,ks,p⟩:=x
 cases d with
 |zero=>exact hg.elim
 |succ d =>
  have hk:k=1∨k=2∨k=3∨k=4:=by
   rcases hg.2 with h|h
   ·rcases h.1 with h|h <;> simp [h]
   ·rcases h.1 with h|h <;> simp [h]
  unfold SpNd at h;obtain ⟨q0,h⟩:=h
  have e:∃T,ts=⟨2,nodeW k,0,q0⟩::T:=by
   rcases h with ⟨_,q1,q2,q3,rfl⟩|⟨_,q1,q2,ui,ue,ul,um,uk,rfl,_⟩
   ·exact ⟨_,rfl⟩
   ·exact ⟨_,rfl⟩
  obtain ⟨T,rfl⟩:=e;rcases hk with rfl|rfl|rfl|rfl
  ·exact ⟨⟨rfl,rfl,rfl,rfl⟩,(by decide:(1:Nat)≠0)⟩
  ·exact ⟨⟨rfl,rfl,rfl,rfl⟩,(by decide:(2:Nat)≠0)⟩
  ·exact ⟨⟨rfl,rfl,rfl,rfl⟩,(by decide:(3:Nat)≠0)⟩
  ·exact ⟨⟨rfl,rfl,rfl,rfl⟩,(by decide:(4:Nat)≠0)⟩
theorem ks_over:∀{ks:List SyNode} {uk:List Tk},SpKs ks uk->∀{d:Nat},(∀x∈ks,GdN d x)->∀(q:Int) (r:List Tk),Over (uk++⟨4,[125],0,q⟩::r)
 |[],uk,h,_,_,q,r=>by
  unfold SpKs at h;subst h;exact ⟨rfl,rfl,rfl,rfl⟩
 |x::l,uk,h,d,hg,q,r=>by
  unfold SpKs at h;obtain ⟨u,v,rfl,h1,_⟩:=h;rw [a_];exact (nd_head h1 (hg x (by simp)) _).1
theorem kids_sp {nd:Ss->Rs SyNode} (ht:∀s,Takes 1 s (nd s)) {d:Nat} (ih:∀(x:SyNode) (ts r:List Tk) (n m a:Nat),SpNd x ts->GdN d x->n+cN x<=64->m+cM x<=200->a+cA x<=400->nd ⟨ts++r,n,m,a⟩=.ok x ⟨r,n+cN x,m+cM x,a+cA x⟩) :
  ∀(ks:List SyNode) (uk:List Tk) (acc:List SyNode) (q:Int) (r:List Tk) (n m a:Nat),SpKs ks uk->(∀x∈ks,GdN d x)->n+cNs ks<=64->m+cMs ks<=200->a+cAs ks<=400 ->
   It (kidS nd) acc ⟨uk++⟨4,[125],0,q⟩::r,n,m,a⟩=.ok (acc++ks) ⟨⟨4,[125],0,q⟩::r,n+cNs ks,m+cMs ks,a+cAs ks⟩
 |[],uk,acc,q,r,n,m,a,h,_,_,_,_=>by
  unfold SpKs at h;subst h;rw [It_eq (kidS_goes ht),List.append_nil];rfl
 |x::l,uk,acc,q,r,n,m,a,h,hg,hn,hm,ha=>by
  unfold SpKs at h;obtain ⟨u,v,rfl,h1,h2⟩:=h;rw [cNs] at hn;rw [cMs] at hm;rw [cAs] at ha;have gx:=hg x (by simp)
  have e:kidS nd acc ⟨u++(v++⟨4,[125],0,q⟩::r),n,m,a⟩=.ok (acc++[x],true) ⟨v++⟨4,[125],0,q⟩::r,n+cN x,m+cM x,a+cA x⟩:=by
   unfold kidS;rw [if_neg (nd_head h1 gx _).2,ih x u _ n m a h1 gx (by omega) (by omega) (by omega)];rfl
  rw [It_eq (kidS_goes ht),a_,e,Rs.bind_ok];simp only [if_true];rw [kids_sp ht ih l v (acc++[x]) q r _ _ _ h2 (λ b hb=>hg b (by simp [hb])) (by omega) (by omega) (by omega),a_,cNs,cMs,cAs];simp only [Nat.add_assoc];rfl
theorem body_sp {nd:Ss->Rs SyNode} (ht:∀s,Takes 1 s (nd s)) {d:Nat} (ih:∀(x:SyNode) (ts r:List Tk) (n m a:Nat),SpNd x ts->GdN d x->n+cN x<=64->m+cM x<=200->a+cA x<=400->nd ⟨ts++r,n,m,a⟩=.ok x ⟨r,n+cN x,m+cM x,a+cA x⟩)
  {ini:List UInt8} {en le:List SyAct} {mo:List SyMove} {ks:List SyNode} {ui ue ul um uk:List Tk} (h1:SpIni ini ui) (h2:SpCl wEnter en ue) (h3:SpCl wLeave le ul) (h4:SpL SpMv mo um) (h5:SpKs ks uk)
  (g2:∀x∈en,x.good) (g3:∀x∈le,x.good) (g4:∀x∈mo,x.good) (g5:∀x∈ks,GdN d x) (q:Int) (r:List Tk) (n m a:Nat)
  (hn:n+cNs ks<=64) (hm:m+(mo.length+cMs ks)<=200) (ha:a+(en.length+le.length+mvA mo+cAs ks)<=400) :
  ∃hi he hl,bodyR nd ⟨ui++(ue++(ul++(um++(uk++⟨4,[125],0,q⟩::r)))),n,m,a⟩=.ok (⟨ini,en,le,mo,hi,he,hl⟩,ks) ⟨⟨4,[125],0,q⟩::r,n+cNs ks,m+(mo.length+cMs ks),a+(en.length+le.length+mvA mo+cAs ks)⟩:=by
 obtain ⟨hi,e1⟩:=ini_sp (r:=ue++(ul++(um++(uk++⟨4,[125],0,q⟩::r)))) (n:=n) (m:=m) (a:=a) h1;obtain ⟨he,e2⟩:=ent_sp (ini:=ini) (hi:=hi) (r:=ul++(um++(uk++⟨4,[125],0,q⟩::r))) (n:=n) (m:=m) (a:=a) h2 g2 (by omega);obtain ⟨hl,e3⟩:=lea_sp (ini:=ini) (hi:=hi) (he:=he) (en:=en) (r:=um++(uk++⟨4,[125],0,q⟩::r)) (n:=n) (m:=m) (a:=a+en.length) h3 g3 (by omega);have e4:=movs_sp (ini:=ini) (hi:=hi) (he:=he) (hl:=hl) (en:=en) (le:=le) mo um [] (uk++⟨4,[125],0,q⟩::r) n m (a+en.length+le.length) h4 g4 (by omega) (by omega);refine ⟨hi,he,hl,?_⟩;unfold bodyR;rw [e1,e2,e3,e4,over_sp (ks_over h5 g5 q r),Rs.bind_ok,kids_sp ht ih ks uk [] q r _ _ _ h5 g5 (by omega) (by omega) (by omega)];simp only [Rs.bind_ok,List.nil_append,Nat.add_assoc]
theorem nodeR_sp:∀(d:Nat) (x:SyNode) (ts r:List Tk) (n m a:Nat),SpNd x ts->GdN d x->n+cN x<=64->m+cM x<=200->a+cA x<=400->nodeR d ⟨ts++r,n,m,a⟩=.ok x ⟨r,n+cN x,m+cM x,a+cA x⟩
 |0,_,_,_,_,_,_,_,hg,_,_,_=>hg.elim
 |d+1,.mk k nm ini dft en le mo ks p,ts,r,n,m,a,h,hg,hn,hm,ha=>by
  unfold SpNd at h;obtain ⟨q0,h⟩:=h;obtain ⟨_,hg⟩:=hg;rw [cN] at hn ⊢;rw [cM] at hm ⊢;rw [cA] at ha ⊢
  have hn64:n≠64:=by omega
  rcases h with ⟨hk,q1,q2,q3,rfl⟩|⟨hk,q1,q2,ui,ue,ul,um,uk,rfl,h1,h2,h3,h4,h5⟩
  ·rcases hg with ⟨hkk,hd,rfl,rfl,rfl,rfl,rfl⟩|⟨hkk,_⟩
   ·rcases hkk with rfl|rfl
    ·unfold nodeR;show (if n=64 then _ else _:Rs _).bind _=_;rw [if_neg hn64];rfl
    ·unfold nodeR;show (if n=64 then _ else _:Rs _).bind _=_;rw [if_neg hn64];rfl
   ·omega
  ·rcases hg with ⟨hkk,_⟩|⟨hkk,rfl,_,g2,g3,g4,g5⟩
   ·omega
   ·obtain ⟨hi,he,hl,e⟩:=body_sp (nodeR_takes d) (nodeR_sp d) h1 h2 h3 h4 h5 g2 g3 g4 g5 q2 r (n+1) m a (by omega) hm ha
    have e1:(⟨2,nodeW k,0,q0⟩::⟨1,nm,0,p⟩::⟨4,[123],0,q1⟩::(ui++(ue++(ul++(um++(uk++[⟨4,[125],0,q2⟩]))))))++r=⟨2,nodeW k,0,q0⟩::⟨1,nm,0,p⟩::⟨4,[123],0,q1⟩::(ui++(ue++(ul++(um++(uk++⟨4,[125],0,q2⟩::r))))):=by simp
    rw [e1]
    have e2:n+(1+cNs ks)=n+1+cNs ks:=by omega
    rw [e2];rcases hkk with rfl|rfl
    ·unfold nodeR;show (if n=64 then _ else _:Rs _).bind _=_;rw [if_neg hn64];show ((bodyR (nodeR d) ⟨ui++(ue++(ul++(um++(uk++⟨4,[125],0,q2⟩::r)))),n+1,m,a⟩).bind _)=_;rw [e];rfl
    ·unfold nodeR;show (if n=64 then _ else _:Rs _).bind _=_;rw [if_neg hn64];show ((bodyR (nodeR d) ⟨ui++(ue++(ul++(um++(uk++⟨4,[125],0,q2⟩::r)))),n+1,m,a⟩).bind _)=_;rw [e];rfl
def SpNum (x:Int) (ts:List Tk):Prop:=(0<=x/\∃q,ts=[⟨3,[],x,q⟩])∨(x<0/\∃q q',ts=[⟨4,[45],0,q⟩,⟨3,[],-x,q'⟩])
def SpVar (v:SyVar) (ts:List Tk):Prop:=∃q0 q1 q2 un,ts=⟨2,wVar,0,q0⟩::⟨1,v.name,0,v.at_⟩::⟨4,[61],0,q1⟩::(un++[⟨4,[59],0,q2⟩])/\SpNum v.num un
theorem varS_sp {v:SyVar} {ts r:List Tk} {l:List SyVar} {n m a:Nat} (h:SpVar v ts) (hl:l.length≠16):varS l ⟨ts++r,n,m,a⟩=.ok (l++[v],true) ⟨r,n,m,a⟩:=by
 obtain ⟨nm,x,p⟩:=v;obtain ⟨q0,q1,q2,un,rfl,h⟩:=h;simp only at h;rcases h with ⟨h0,q,rfl⟩|⟨h0,q,q',rfl⟩
 ·show ((if l.length=16 then _ else _:Rs _).bind _)=_;rw [if_neg hl];rfl
 ·show ((if l.length=16 then _ else _:Rs _).bind _)=_;rw [if_neg hl];show Rs.ok (l++[(⟨nm,- - x,p⟩:SyVar)],true) _=_;rw [Int.neg_neg];rfl
theorem vars_sp:∀(l:List SyVar) (uv:List Tk) (acc:List SyVar) (r:List Tk) (n m a:Nat),SpL SpVar l uv->acc.length+l.length<=16->isAt 2 wVar r=false->It varS acc ⟨uv++r,n,m,a⟩=.ok (acc++l) ⟨r,n,m,a⟩
 |[],uv,acc,r,n,m,a,h,_,hr=>by
  obtain rfl:uv=[]:=h;rw [It_eq varS_goes,List.nil_append,List.append_nil]
  have e:varS acc ⟨r,n,m,a⟩=.ok (acc,false) ⟨r,n,m,a⟩:=by
   unfold varS;simp only [hr,Bool.false_eq_true,if_false]
  rw [e];rfl
 |x::l,uv,acc,r,n,m,a,h,hl,hr=>by
  obtain ⟨u,v,rfl,h1,h2⟩:=h;rw [List.length_cons] at hl;rw [It_eq varS_goes,a_,varS_sp h1 (by omega),Rs.bind_ok];simp only [if_true];rw [vars_sp l v (acc++[x]) r n m a h2 (by rw [List.length_append];simp;omega) hr,a_];rfl
def SpCh (c:SyChart) (ts:List Tk):Prop:=∃nm ini en le mo ks p q0 q1 q2 uv ui ue ul um uk,c.root=.mk 1 nm ini [] en le mo ks p /\
 ts=⟨2,wChart,0,q0⟩::⟨1,nm,0,p⟩::⟨4,[123],0,q1⟩::(uv++(ui++(ue++(ul++(um++(uk++[⟨4,[125],0,q2⟩])))))) /\
 SpL SpVar c.vars uv/\SpIni ini ui/\SpCl wEnter en ue/\SpCl wLeave le ul/\SpL SpMv mo um/\SpKs ks uk
structure SyChart.good (c:SyChart):Prop where
 names:∀v∈c.vars,isNm v.name=true
 nums:∀v∈c.vars,-9223372036854775808<v.num/\v.num<=9223372036854775807
 many:c.vars.length<=16
 kind:∃nm ini dft en le mo ks p,c.root=.mk 1 nm ini dft en le mo ks p
 node:GdN 12 c.root
 nodes:cN c.root<=64
 moves:cM c.root<=200
 acts:cA c.root<=400
theorem body_head {ini:List UInt8} {en le:List SyAct} {mo:List SyMove} {ui ue ul um r:List Tk} (h1:SpIni ini ui) (h2:SpCl wEnter en ue) (h3:SpCl wLeave le ul) (h4:SpL SpMv mo um) (g4:∀x∈mo,x.good) (hr:isAt 2 wVar r=false) :
  isAt 2 wVar (ui++(ue++(ul++(um++r))))=false:=by
 have k4:isAt 2 wVar (um++r)=false:=by
  cases mo with
  |nil =>
   obtain rfl:um=[]:=h4;exact hr
  |cons x l =>
   obtain ⟨u,v,rfl,h,_⟩:=h4;have hk:=(g4 x (by simp)).kind;obtain ⟨kd,ev,wt,gd,g,al,tg,p⟩:=x;obtain ⟨qs,a1,a2,a3,a4,rfl,_⟩:=h;simp only at hk
   rcases hk with rfl|rfl|rfl <;> rfl
 have k3:isAt 2 wVar (ul++(um++r))=false:=by
  unfold SpCl at h3
  split at h3
  ·subst h3;exact k4
  ·obtain ⟨q,v,rfl,_⟩:=h3;rfl
 have k2:isAt 2 wVar (ue++(ul++(um++r)))=false:=by
  unfold SpCl at h2
  split at h2
  ·subst h2;exact k3
  ·obtain ⟨q,v,rfl,_⟩:=h2;rfl
 unfold SpIni at h1
 split at h1
 ·subst h1;exact k2
 ·obtain ⟨q,q',q2,rfl⟩:=h1;rfl
theorem chart_sp {c:SyChart} {ts r:List Tk} (h:SpCh c ts) (hg:c.good) (t:Tk) (ht:t.kind=5):∃s,syR (ts++t::r)=.ok c s:=by
 obtain ⟨vs,rt⟩:=c;obtain ⟨nm,ini,en,le,mo,ks,p,q0,q1,q2,uv,ui,ue,ul,um,uk,hrt,rfl,hv,h1,h2,h3,h4,h5⟩:=h;simp only at hrt;subst hrt;obtain ⟨_,_,hmany,_,hnd,hn,hm,ha⟩:=hg;simp only at hmany hnd hn hm ha hv;rw [cN] at hn;rw [cM] at hm;rw [cA] at ha;obtain ⟨_,hnd⟩:=hnd;rcases hnd with ⟨hkk,_⟩|⟨_,_,_,g2,g3,g4,g5⟩
 ·omega
 ·obtain ⟨hi,he,hl,e⟩:=body_sp (nodeR_takes 11) (nodeR_sp 11) h1 h2 h3 h4 h5 g2 g3 g4 g5 q2 (t::r) 1 0 0 (by omega) (by omega) (by omega)
  have e1:(⟨2,wChart,0,q0⟩::⟨1,nm,0,p⟩::⟨4,[123],0,q1⟩::(uv++(ui++(ue++(ul++(um++(uk++[⟨4,[125],0,q2⟩])))))))++t::r=⟨2,wChart,0,q0⟩::⟨1,nm,0,p⟩::⟨4,[123],0,q1⟩::(uv++(ui++(ue++(ul++(um++(uk++⟨4,[125],0,q2⟩::t::r)))))):=by simp
  rw [e1]
  have hov:isAt 2 wVar (uk++⟨4,[125],0,q2⟩::t::r)=false:=by
   cases ks with
   |nil =>
    unfold SpKs at h5;subst h5;rfl
   |cons x l =>
    unfold SpKs at h5;obtain ⟨u,v,rfl,k1,_⟩:=h5;have gx:=g5 x (by simp);obtain ⟨k,nm,ini,dft,en,le,mo,ks,p⟩:=x
    have hk:k=1∨k=2∨k=3∨k=4:=by
     rcases gx.2 with h|h
     ·rcases h.1 with h|h <;> simp [h]
     ·rcases h.1 with h|h <;> simp [h]
    unfold SpNd at k1;obtain ⟨q,k1⟩:=k1
    rcases k1 with ⟨_,a1,a2,a3,rfl⟩|⟨_,a1,a2,b1,b2,b3,b4,b5,rfl,_⟩ <;> rcases hk with rfl|rfl|rfl|rfl <;> rfl
  have ev:=vars_sp vs uv [] (ui++(ue++(ul++(um++(uk++⟨4,[125],0,q2⟩::t::r))))) 1 0 0 hv (by simpa using hmany) (body_head h1 h2 h3 h4 g4 hov);refine ⟨⟨t::r,1+cNs ks,0+(mo.length+cMs ks),0+(en.length+le.length+mvA mo+cAs ks)⟩,?_⟩;unfold syR;show ((It varS [] ⟨uv++(ui++(ue++(ul++(um++(uk++⟨4,[125],0,q2⟩::t::r))))),1,0,0⟩).bind _)=_;rw [ev];show ((bodyR (nodeR 11) ⟨ui++(ue++(ul++(um++(uk++⟨4,[125],0,q2⟩::t::r)))),1,0,0⟩).bind _)=_;rw [e];show (if t.kind=5 then _ else _)=_;rw [if_pos ht];rfl
end Go.Proofs.YtifekcbinjdfbaaGreatDoor
namespace Go.Proofs.YtifekcbinjdfbaaGreatDoor
def Qs (l:List UInt8) (P:List Tk->Prop):Prop:=∀t p acc,∃ts,P ts/\scT p acc (l++t)=scT (p+l.length) (acc++ts) t
def Qn (l:List UInt8) (P:List Tk->Prop):Prop:=∀t,NW t->∀p acc,∃ts,P ts/\scT p acc (l++t)=scT (p+l.length) (acc++ts) t
theorem Qs.imp {l:List UInt8} {P P':List Tk->Prop} (h:Qs l P) (hp:∀ts,P ts->P' ts):Qs l P':=λ t p acc=>by
 obtain ⟨ts,h1,h2⟩:=h t p acc;exact ⟨ts,hp ts h1,h2⟩
theorem Qs.nil:Qs [] (λ ts=>ts=[]):=λ t p acc=>⟨[],rfl,by simp⟩
theorem Qs.blank {l:List UInt8} {P:List Tk->Prop} (h:Qs l P):Qs (32::l) P:=λ t p acc=>by
 obtain ⟨ts,h1,h2⟩:=h t (p+1) acc;refine ⟨ts,h1,?_⟩;rw [List.cons_append,scT_blank (by decide),h2,List.length_cons,show p+1+l.length=p+(l.length+1) from by omega]
theorem Qs.app {l m:List UInt8} {P P':List Tk->Prop} (h:Qs l P) (h':Qs m P'):Qs (l++m) (λ ts=>∃u v,ts=u++v/\P u/\P' v):=λ t p acc=>by
 obtain ⟨u,h1,h2⟩:=h (m++t) p acc;obtain ⟨v,h3,h4⟩:=h' t (p+l.length) (acc++u);refine ⟨u++v,⟨u,v,rfl,h1,h3⟩,?_⟩;rw [a_,h2,h4,List.length_append,a_,Nat.add_assoc]
theorem Qn.app {l m:List UInt8} {P P':List Tk->Prop} (h:Qn l P) (h':Qs m P') (hm:∀t,NW (m++t)):Qs (l++m) (λ ts=>∃u v,ts=u++v/\P u/\P' v):=λ t p acc=>by
 obtain ⟨u,h1,h2⟩:=h (m++t) (hm t) p acc;obtain ⟨v,h3,h4⟩:=h' t (p+l.length) (acc++u);refine ⟨u++v,⟨u,v,rfl,h1,h3⟩,?_⟩;rw [a_,h2,h4,List.length_append,a_,Nat.add_assoc]
theorem nw_cons {c:UInt8} {l:List UInt8} (h:isWd c=false) (t:List UInt8):NW (c::l++t):=λ d r e=>by
 injection e with e _;rw [<-e];exact h
def kwOk:List UInt8->Bool
 |[]=>false
 |c::u=>isLt c&&decide (wdK (c::u)=(c::u).length)&&decide ((c::u).length<=24)&&isKw (c::u)
theorem Qn.word {w:List UInt8} (h:kwOk w=true):Qn w (λ ts=>∃q,ts=[⟨2,w,0,q⟩]):=λ t ht p acc=>by
 cases w with
 |nil=>cases h
 |cons c u =>
  simp only [kwOk,Bool.and_eq_true,decide_eq_true_eq] at h;obtain ⟨⟨⟨h1,h2⟩,h3⟩,h4⟩:=h;refine ⟨_,⟨(p:Int),rfl⟩,?_⟩;rw [scT_run h1 h2 h3 ht,h4];rfl
theorem Qn.name {s:List UInt8} (h:isNm s=true):Qn s (λ ts=>∃q,ts=[⟨1,s,0,q⟩]):=λ _ ht p acc=>⟨_,⟨(p:Int),rfl⟩,scT_name h ht p acc⟩
theorem Qn.int {n:Int} (h0:0<=n) (h1:n<=9223372036854775807):Qn (Lib.itoa n) (λ ts=>∃q,ts=[⟨3,[],n,q⟩]):=λ _ ht p acc=>⟨_,⟨(p:Int),rfl⟩,scT_int h0 h1 ht p acc⟩
theorem Qn.ex {x:Ex} (h:x.fine):Qn x.tx (λ ts=>∃x',Sp x' ts/\x'.er=x.er):=λ t ht p acc=>by
 obtain ⟨ts,x',h1,h2,h3⟩:=sc_tx x h t ht p acc;exact ⟨ts,⟨x',h1,h2⟩,h3⟩
theorem Qs.sign {c:UInt8} (hl:isLt c=false) (hd:isDg c=false) (hb:∀t,blK false (c::t)=0) (hs:∀t,sgn (c::t)=1):Qs [c] (λ ts=>∃q,ts=[⟨4,[c],0,q⟩]):=λ t p acc=>by
 refine ⟨_,⟨(p:Int),rfl⟩,?_⟩;show scT p acc (c::t)=_;rw [scT_sign (n:=1) hl hd (hb t) (hs t) (by decide)];rfl
theorem Qs.semi:Qs [59] (λ ts=>∃q,ts=[⟨4,[59],0,q⟩]):=Qs.sign (by decide) (by decide) (λ _=>by rfl) (λ t=>by cases t <;> rfl)
theorem Qs.lb:Qs [123] (λ ts=>∃q,ts=[⟨4,[123],0,q⟩]):=Qs.sign (by decide) (by decide) (λ _=>by rfl) (λ t=>by cases t <;> rfl)
theorem Qs.rb:Qs [125] (λ ts=>∃q,ts=[⟨4,[125],0,q⟩]):=Qs.sign (by decide) (by decide) (λ _=>by rfl) (λ t=>by cases t <;> rfl)
theorem Qs.lk:Qs [91] (λ ts=>∃q,ts=[⟨4,[91],0,q⟩]):=Qs.sign (by decide) (by decide) (λ _=>by rfl) (λ t=>by cases t <;> rfl)
theorem Qs.rk:Qs [93] (λ ts=>∃q,ts=[⟨4,[93],0,q⟩]):=Qs.sign (by decide) (by decide) (λ _=>by rfl) (λ t=>by cases t <;> rfl)
theorem Qs.comma:Qs [44] (λ ts=>∃q,ts=[⟨4,[44],0,q⟩]):=Qs.sign (by decide) (by decide) (λ _=>by rfl) (λ t=>by cases t <;> rfl)
theorem Qs.arrow:Qs [45,62] (λ ts=>∃q,ts=[⟨4,[45,62],0,q⟩]):=λ t p acc=>by
 refine ⟨_,⟨(p:Int),rfl⟩,?_⟩;show scT p acc (45::62::t)=_;rw [scT_sign (n:=2) (by decide) (by decide) (by rfl) (by rfl) (by decide)];rfl
theorem Qs.eq:Qs [61,32] (λ ts=>∃q,ts=[⟨4,[61],0,q⟩]):=λ t p acc=>by
 refine ⟨_,⟨(p:Int),rfl⟩,?_⟩;show scT p acc (61::32::t)=_;rw [scT_sign (n:=1) (by decide) (by decide) (by rfl) (by rfl) (by decide)];show scT (p+1) _ (32::t)=_;rw [scT_blank (by decide)];rfl
def valT:Option Ex->List UInt8
 |none=>[59]
 |some x=>32::([61,32]++(x.tx++[59]))
def actT (a:SyAct):List UInt8:=actW a.kind++32::(a.name++valT a.value)
def actsT:List SyAct->List UInt8
 |[]=>[]
 |a::l=>32::(actT a++actsT l)
def blockT (l:List SyAct):List UInt8:=[123]++(actsT l++32::[125])
def gdT:Option Ex->List UInt8
 |none=>[]
 |some x=>32::([91]++(x.tx++[93]))
def blkT (l:List SyAct):List UInt8:=if l=[] then [] else 32::blockT l
def tgT1:List (List UInt8)->List UInt8
 |[]=>[]
 |y::l=>[44]++32::(y++tgT1 l)
def tgtT:List (List UInt8)->List UInt8
 |[]=>[]
 |x::l=>32::([45,62]++32::(x++tgT1 l))
def evT (m:SyMove):List UInt8:=if m.kind=1 then 32::m.event else if m.kind=2 then [] else 32::Lib.itoa m.wait
def moveT (m:SyMove):List UInt8:=moveW m.kind++(evT m++(gdT m.guard++(blkT m.acts++(tgtT m.targets++[59]))))
theorem actW_ok {k:Int} (h:k=1∨k=2∨k=3):kwOk (actW k)=true:=by rcases h with rfl|rfl|rfl <;> decide
theorem valT_nw (v:Option Ex) (t:List UInt8):NW (valT v++t):=by
 cases v with
 |none=>exact nw_cons (by decide) t
 |some x=>exact nw_cons (by decide) t
theorem valT_q {v:Option Ex} (h:∀x,v=some x->x.fine):Qs (valT v) (λ ts=>∃qs u,ts=u++[⟨4,[59],0,qs⟩]/\∃v':Option Ex,v'.map Ex.er=v.map Ex.er/\match v' with
 |none=>u=[]
 |some x=>∃qe w,u=⟨4,[61],0,qe⟩::w/\Sp x w):=by
 cases v with
 |none =>
  refine Qs.semi.imp ?_;rintro ts ⟨q,rfl⟩;exact ⟨q,[],rfl,none,rfl,rfl⟩
 |some x =>
  refine ((Qs.eq.app ((Qn.ex (h x rfl)).app Qs.semi (nw_cons (by decide)))).blank).imp ?_;rintro ts ⟨_,_,rfl,⟨qe,rfl⟩,u,_,rfl,⟨x',h1,h2⟩,q,rfl⟩;exact ⟨q,⟨4,[61],0,qe⟩::u,by simp,some x',by simp [h2],qe,u,rfl,h1⟩
theorem act_q {a:SyAct} (hg:a.good):Qs (actT a) (λ ts=>∃a',SpAct a' ts/\a'.er=a.er):=by
 have hv:∀x,a.value=some x->x.fine:=λ x hx=>by
  have h2:a.kind≠2:=λ h=>by rw [hg.raise h] at hx;cases hx
  obtain ⟨y,h3,h4⟩:=hg.value h2;rw [h3] at hx;injection hx with hx;rw [<-hx];exact h4.1
 refine ((Qn.word (actW_ok hg.kind)).app (((Qn.name hg.name).app (valT_q hv) (valT_nw _)).blank) (nw_cons (by decide))).imp ?_;rintro ts ⟨_,_,rfl,⟨p,rfl⟩,_,_,rfl,⟨q,rfl⟩,qs,u,rfl,v',h1,h2⟩;refine ⟨⟨a.kind,a.name,v',p⟩,⟨q,qs,u,rfl,h2⟩,?_⟩;unfold SyAct.er;simp only [h1]
theorem acts_q:∀(l:List SyAct),(∀a∈l,a.good)->Qs (actsT l) (λ ts=>∃l',SpL SpAct l' ts/\l'.map SyAct.er=l.map SyAct.er)
 |[],_=>Qs.nil.imp λ ts h=>⟨[],h,rfl⟩
 |a::l,hg=>by
  refine (((act_q (hg a (by simp))).app (acts_q l (λ b hb=>hg b (by simp [hb])))).blank).imp ?_;rintro ts ⟨u,v,rfl,⟨a',h1,h2⟩,l',h3,h4⟩;exact ⟨a'::l',⟨u,v,rfl,h1,h3⟩,by rw [List.map_cons,List.map_cons,h2,h4]⟩
theorem block_q {l:List SyAct} (hg:∀a∈l,a.good):Qs (blockT l) (λ ts=>∃l',SpBlock l' ts/\l'.map SyAct.er=l.map SyAct.er):=by
 refine (Qs.lb.app ((acts_q l hg).app Qs.rb.blank)).imp ?_;rintro ts ⟨_,_,rfl,⟨q,rfl⟩,u,_,rfl,⟨l',h1,h2⟩,q',rfl⟩;exact ⟨l',⟨q,q',u,rfl,h1⟩,h2⟩
theorem blk_q {l:List SyAct} (hg:∀a∈l,a.good):Qs (blkT l) (λ ts=>∃l',SpBs l' ts/\l'.map SyAct.er=l.map SyAct.er):=by
 unfold blkT
 split
 ·rename_i hl
  exact Qs.nil.imp λ ts h=>⟨[],by unfold SpBs;rw [if_pos rfl];exact h,by rw [hl]⟩
 ·rename_i hl;refine (block_q hg).blank.imp ?_;rintro ts ⟨l',h1,h2⟩;refine ⟨l',?_,h2⟩;unfold SpBs;rw [if_neg]
  ·exact h1
  ·rintro rfl;exact hl (List.map_eq_nil_iff.1 h2.symm)
theorem guard_q {g:Option Ex} (hg:∀x,g=some x->x.may):Qs (gdT g) (λ ts=>∃g',SpG g' ts/\g'.map Ex.er=g.map Ex.er):=by
 cases g with
 |none=>exact Qs.nil.imp λ ts h=>⟨none,h,rfl⟩
 |some x =>
  refine ((Qs.lk.app ((Qn.ex (hg x rfl).1).app Qs.rk (nw_cons (by decide)))).blank).imp ?_;rintro ts ⟨_,_,rfl,⟨q,rfl⟩,u,_,rfl,⟨x',h1,h2⟩,q',rfl⟩;exact ⟨some x',⟨q,q',u,rfl,h1⟩,by simp [h2]⟩
theorem tg1_nw (l:List (List UInt8)) (m t:List UInt8) (hm:∀t,NW (m++t)):NW (tgT1 l++m++t):=by
 cases l with
 |nil=>exact hm t
 |cons y l=>exact nw_cons (by decide) _
theorem tg1_q:∀(l:List (List UInt8)) {m:List UInt8} {P:List Tk->Prop},(∀x∈l,isNm x=true)->Qs m P->(∀t,NW (m++t))->Qs (tgT1 l++m) (λ ts=>∃u v,ts=u++v/\SpT1 l u/\P v)
 |[],m,P,_,h,_=>h.imp λ ts h=>⟨[],ts,rfl,rfl,h⟩
 |y::l,m,P,hg,h,hm=>by
  have h1:=(Qs.comma.app (((Qn.name (hg y (by simp))).app (tg1_q l (λ x hx=>hg x (by simp [hx])) h hm) (λ t=>tg1_nw l m t hm)).blank))
  have e:tgT1 (y::l)++m=[44]++32::(y++(tgT1 l++m)):=by simp [tgT1]
  rw [e];refine h1.imp ?_;rintro ts ⟨_,_,rfl,⟨q,rfl⟩,_,_,rfl,⟨q',rfl⟩,u,v,rfl,h2,h3⟩;exact ⟨⟨4,[44],0,q⟩::⟨1,y,0,q'⟩::u,v,rfl,⟨q,q',u,rfl,h2⟩,h3⟩
theorem tgt_q {l:List (List UInt8)} {m:List UInt8} {P:List Tk->Prop} (hg:∀x∈l,isNm x=true) (h:Qs m P) (hm:∀t,NW (m++t)):Qs (tgtT l++m) (λ ts=>∃u v,ts=u++v/\SpT l u/\P v):=by
 cases l with
 |nil=>exact h.imp λ ts h=>⟨[],ts,rfl,rfl,h⟩
 |cons x l =>
  have h1:=((Qs.arrow.app (((Qn.name (hg x (by simp))).app (tg1_q l (λ x hx=>hg x (by simp [hx])) h hm) (λ t=>tg1_nw l m t hm)).blank))).blank
  have e:tgtT (x::l)++m=32::([45,62]++32::(x++(tgT1 l++m))):=by simp [tgtT]
  rw [e];refine h1.imp ?_;rintro ts ⟨_,_,rfl,⟨q,rfl⟩,_,_,rfl,⟨q',rfl⟩,u,v,rfl,h2,h3⟩;exact ⟨⟨4,[45,62],0,q⟩::⟨1,x,0,q'⟩::u,v,rfl,⟨q,q',u,rfl,h2⟩,h3⟩
theorem tail_nw (g:Option Ex) (l:List SyAct) (tg:List (List UInt8)) (t:List UInt8):NW ((gdT g++(blkT l++(tgtT tg++[59])))++t):=by
 cases g with
 |some x=>exact nw_cons (by decide) _
 |none =>
  unfold blkT
  split
  ·cases tg with
   |nil=>exact nw_cons (by decide) _
   |cons x l=>exact nw_cons (by decide) _
  ·exact nw_cons (by decide) _
theorem move_q {m:SyMove} (hg:m.good):Qs (moveT m) (λ ts=>∃m',SpMv m' ts/\m'.er=m.er):=by
 have ht:=(guard_q hg.guard).app ((blk_q hg.acts).app (tgt_q hg.targets Qs.semi (nw_cons (by decide))));have hn:=tail_nw m.guard m.acts m.targets
 have fin:∀(p qs:Int) (ue ug ua ut:List Tk) (g':Option Ex) (l':List SyAct),SpEv m ue->SpG g' ug->g'.map Ex.er=m.guard.map Ex.er->SpBs l' ua->l'.map SyAct.er=m.acts.map SyAct.er->SpT m.targets ut ->
   ∃m',SpMv m' (⟨2,moveW m.kind,0,p⟩::(ue++(ug++(ua++(ut++[⟨4,[59],0,qs⟩])))))/\m'.er=m.er:=λ p qs ue ug ua ut g' l' k1 k2 k3 k4 k5 k6=>by
  refine ⟨⟨m.kind,m.event,m.wait,m.guarded,g',l',m.targets,p⟩,⟨qs,ue,ug,ua,ut,rfl,k1,k2,k4,k6⟩,?_⟩;unfold SyMove.er;simp only [k3,k5]
 unfold moveT evT;rcases hg.kind with h|h|h
 ·rw [if_pos h]
  have hnm:isNm m.event=true:=by
   rcases hg.event with k|k
   ·exact k.2
   ·exact absurd h k.1
  have e:moveW m.kind=wOn:=by rw [h];rfl
  rw [e,List.cons_append];refine ((Qn.word (w:=wOn) (by decide)).app (((Qn.name hnm).app ht hn).blank) (nw_cons (by decide))).imp ?_;rintro ts ⟨_,_,rfl,⟨p,rfl⟩,_,_,rfl,⟨q,rfl⟩,ug,_,rfl,⟨g',k2,k3⟩,ua,_,rfl,⟨l',k4,k5⟩,ut,_,rfl,k6,qs,rfl⟩;have:=fin p qs [⟨1,m.event,0,q⟩] ug ua ut g' l' (.inl ⟨h,q,rfl⟩) k2 k3 k4 k5 k6;rw [e] at this;exact this
 ·rw [if_neg (by rw [h];decide),if_pos h]
  have e:moveW m.kind=wAlways:=by rw [h];rfl
  rw [e];refine ((Qn.word (w:=wAlways) (by decide)).app ht hn).imp ?_;rintro ts ⟨_,_,rfl,⟨p,rfl⟩,ug,_,rfl,⟨g',k2,k3⟩,ua,_,rfl,⟨l',k4,k5⟩,ut,_,rfl,k6,qs,rfl⟩;have:=fin p qs [] ug ua ut g' l' (.inr (.inl ⟨h,rfl⟩)) k2 k3 k4 k5 k6;rw [e] at this;exact this
 ·rw [if_neg (by rw [h];decide),if_neg (by rw [h];decide)]
  obtain ⟨h0,hw⟩:0<=m.wait/\m.wait<=9223372036854775807:=by
   rcases hg.wait with k|k
   ·exact k.2
   ·exact absurd h k.1
  have e:moveW m.kind=wAfter:=by rw [h];rfl
  rw [e,List.cons_append];refine ((Qn.word (w:=wAfter) (by decide)).app (((Qn.int h0 hw).app ht hn).blank) (nw_cons (by decide))).imp ?_;rintro ts ⟨_,_,rfl,⟨p,rfl⟩,_,_,rfl,⟨q,rfl⟩,ug,_,rfl,⟨g',k2,k3⟩,ua,_,rfl,⟨l',k4,k5⟩,ut,_,rfl,k6,qs,rfl⟩;have:=fin p qs [⟨3,[],m.wait,q⟩] ug ua ut g' l' (.inr (.inr ⟨h,q,rfl⟩)) k2 k3 k4 k5 k6;rw [e] at this;exact this
end Go.Proofs.YtifekcbinjdfbaaGreatDoor
namespace Go.Proofs.YtifekcbinjdfbaaGreatDoor
def ind (d:Nat) (s:List UInt8):List UInt8:=List.replicate (2*d) 32++(s++[10])
theorem Qs.blanks {l:List UInt8} {P:List Tk->Prop} (h:Qs l P):∀n,Qs (List.replicate n 32++l) P
 |0=>h
 |n+1=>by
  rw [List.replicate_succ,List.cons_append];exact (Qs.blanks h n).blank
theorem Qs.lf {l:List UInt8} {P:List Tk->Prop} (h:Qs l P):Qs (l++[10]) P:=λ t p acc=>by
 obtain ⟨ts,h1,h2⟩:=h (10::t) p acc;refine ⟨ts,h1,?_⟩;rw [a_];show scT p acc (l++10::t)=_;rw [h2,scT_blank (by decide),List.length_append];rfl
theorem Qs.ind {l:List UInt8} {P:List Tk->Prop} (h:Qs l P) (d:Nat):Qs (ind d l) P:=h.lf.blanks _
def iniT (d:Nat) (i:List UInt8):List UInt8:=if i=[] then [] else ind d (wInitial++32::(i++[59]))
def clT (d:Nat) (w:List UInt8) (l:List SyAct):List UInt8:=if l=[] then [] else ind d (w++32::blockT l)
def mvsT (d:Nat):List SyMove->List UInt8
 |[]=>[]
 |m::l=>ind d (moveT m)++mvsT d l
mutual
def nodeT (d:Nat):SyNode->List UInt8
 |.mk k nm ini dft en le mo ks _=>if 3<=k then ind d (nodeW k++32::(nm++32::([45,62]++32::(dft++[59]))))
  else ind d (nodeW k++32::(nm++32::[123]))++(iniT (d+1) ini++(clT (d+1) wEnter en++(clT (d+1) wLeave le++(mvsT (d+1) mo++(nodesT (d+1) ks++ind d [125])))))
def nodesT (d:Nat):List SyNode->List UInt8
 |[]=>[]
 |x::l=>nodeT d x++nodesT d l
end
def pvarT (v:SyVar):List UInt8:=wVar++32::(v.name++32::([61,32]++(Lib.itoa v.num++[59])))
def pvarsT:List SyVar->List UInt8
 |[]=>[]
 |v::l=>ind 1 (pvarT v)++pvarsT l
def chartT (c:SyChart):List UInt8:=match c.root with
 |.mk _ nm ini _ en le mo ks _=>ind 0 (wChart++32::(nm++32::[123]))++(pvarsT c.vars++(iniT 1 ini++(clT 1 wEnter en++(clT 1 wLeave le++(mvsT 1 mo++(nodesT 1 ks++ind 0 [125]))))))
theorem ini_q (d:Nat) {i:List UInt8} (h:i=[]∨isNm i=true):Qs (iniT d i) (SpIni i):=by
 unfold iniT
 split
 ·rename_i hi
  exact Qs.nil.imp λ ts h=>by unfold SpIni;rw [if_pos hi];exact h
 ·rename_i hi
  have hn:isNm i=true:=by
   rcases h with h|h
   ·exact absurd h hi
   ·exact h
  refine (((Qn.word (w:=wInitial) (by decide)).app ((Qn.name hn).app Qs.semi (nw_cons (by decide))).blank (nw_cons (by decide))).ind d).imp ?_;rintro ts ⟨_,_,rfl,⟨q,rfl⟩,_,_,rfl,⟨q',rfl⟩,q2,rfl⟩;unfold SpIni;rw [if_neg hi];exact ⟨q,q',q2,rfl⟩
theorem cl_q (d:Nat) {w:List UInt8} (hw:kwOk w=true) {l:List SyAct} (hg:∀a∈l,a.good):Qs (clT d w l) (λ ts=>∃l',SpCl w l' ts/\l'.map SyAct.er=l.map SyAct.er):=by
 unfold clT
 split
 ·rename_i hl
  exact Qs.nil.imp λ ts h=>⟨[],by unfold SpCl;rw [if_pos rfl];exact h,by rw [hl]⟩
 ·rename_i hl;refine (((Qn.word hw).app (block_q hg).blank (nw_cons (by decide))).ind d).imp ?_;rintro ts ⟨_,v,rfl,⟨q,rfl⟩,l',h1,h2⟩;refine ⟨l',?_,h2⟩;unfold SpCl;rw [if_neg]
  ·exact ⟨q,v,rfl,h1⟩
  ·rintro rfl;exact hl (List.map_eq_nil_iff.1 h2.symm)
theorem movs_q (d:Nat):∀(l:List SyMove),(∀m∈l,m.good)->Qs (mvsT d l) (λ ts=>∃l',SpL SpMv l' ts/\l'.map SyMove.er=l.map SyMove.er)
 |[],_=>Qs.nil.imp λ ts h=>⟨[],h,rfl⟩
 |m::l,hg=>by
  refine (((move_q (hg m (by simp))).ind d).app (movs_q d l (λ b hb=>hg b (by simp [hb])))).imp ?_;rintro ts ⟨u,v,rfl,⟨a',h1,h2⟩,l',h3,h4⟩;exact ⟨a'::l',⟨u,v,rfl,h1,h3⟩,by rw [List.map_cons,List.map_cons,h2,h4]⟩
theorem nodes_q {e d:Nat} (ih:∀(x:SyNode) (d:Nat),GdN e x->Qs (nodeT d x) (λ ts=>∃x',SpNd x' ts/\x'.er=x.er)):∀(l:List SyNode),(∀x∈l,GdN e x)->Qs (nodesT d l) (λ ts=>∃l',SpKs l' ts/\SyNode.ers l'=SyNode.ers l)
 |[],_=>by
  rw [nodesT]
  exact Qs.nil.imp λ ts h=>⟨[],by unfold SpKs;exact h,rfl⟩
 |x::l,hg=>by
  rw [nodesT];refine ((ih x d (hg x (by simp))).app (nodes_q ih l (λ b hb=>hg b (by simp [hb])))).imp ?_;rintro ts ⟨u,v,rfl,⟨x',h1,h2⟩,l',h3,h4⟩;refine ⟨x'::l',?_,?_⟩
  ·unfold SpKs;exact ⟨u,v,rfl,h1,h3⟩
  ·rw [SyNode.ers,SyNode.ers,h2,h4]
theorem nodeW_ok {k:Int} (h:k=1∨k=2∨k=3∨k=4):kwOk (nodeW k)=true:=by rcases h with rfl|rfl|rfl|rfl <;> decide
theorem node_q:∀(e:Nat) (x:SyNode) (d:Nat),GdN e x->Qs (nodeT d x) (λ ts=>∃x',SpNd x' ts/\x'.er=x.er)
 |0,_,_,hg=>hg.elim
 |e+1,.mk k nm ini dft en le mo ks p,d,hg=>by
  obtain ⟨hnm,hg⟩:=hg;rw [nodeT];rcases hg with ⟨hk,hd,rfl,rfl,rfl,rfl,rfl⟩|⟨hk,rfl,hi,g2,g3,g4,g5⟩
  ·have h3:3<=k:=by rcases hk with rfl|rfl <;> decide
   rw [if_pos h3]
   have hk4:k=1∨k=2∨k=3∨k=4:=by rcases hk with h|h <;> simp [h]
   refine (((Qn.word (nodeW_ok hk4)).app ((Qn.name hnm).app ((Qs.arrow.app ((Qn.name hd).app Qs.semi (nw_cons (by decide))).blank).blank) (nw_cons (by decide))).blank (nw_cons (by decide))).ind d).imp ?_;rintro ts ⟨_,_,rfl,⟨q0,rfl⟩,_,_,rfl,⟨p',rfl⟩,_,_,rfl,⟨q1,rfl⟩,_,_,rfl,⟨q2,rfl⟩,q3,rfl⟩;refine ⟨.mk k nm [] dft [] [] [] [] p',?_,rfl⟩;unfold SpNd;exact ⟨q0,.inl ⟨h3,q1,q2,q3,rfl⟩⟩
  ·have h3:¬3<=k:=by rcases hk with rfl|rfl <;> decide
   rw [if_neg h3]
   have hk4:k=1∨k=2∨k=3∨k=4:=by rcases hk with h|h <;> simp [h]
   have hh:=((Qn.word (nodeW_ok hk4)).app ((Qn.name hnm).app Qs.lb.blank (nw_cons (by decide))).blank (nw_cons (by decide))).ind d;refine (hh.app ((ini_q (d+1) hi).app ((cl_q (d+1) (w:=wEnter) (by decide) g2).app ((cl_q (d+1) (w:=wLeave) (by decide) g3).app ((movs_q (d+1) mo g4).app ((nodes_q (node_q e) ks g5).app (Qs.rb.ind d))))))).imp ?_;rintro ts ⟨_,_,rfl,⟨_,_,rfl,⟨q0,rfl⟩,_,_,rfl,⟨p',rfl⟩,q1,rfl⟩,ui,_,rfl,k1,ue,_,rfl,⟨en',k2,e2⟩,ul,_,rfl,⟨le',k3,e3⟩,um,_,rfl,⟨mo',k4,e4⟩,uk,_,rfl,⟨ks',k5,e5⟩,q2,rfl⟩;refine ⟨.mk k nm ini [] en' le' mo' ks' p',?_,?_⟩
   ·unfold SpNd;exact ⟨q0,.inr ⟨by omega,q1,q2,ui,ue,ul,um,uk,rfl,k1,k2,k3,k4,k5⟩⟩
   ·rw [SyNode.er,SyNode.er,e2,e3,e4,e5]
theorem num_q {x:Int} (h0:-9223372036854775808<x) (h1:x<=9223372036854775807):Qn (Lib.itoa x) (SpNum x):=λ t ht p acc=>by
 by_cases hx:0<=x
 ·exact ⟨_,.inl ⟨hx,(p:Int),rfl⟩,scT_int hx h1 ht p acc⟩
 ·have e:Lib.itoa x=45::Lib.itoa (-x):=by
   unfold Lib.itoa;rw [if_pos (by omega),if_neg (by omega),show (-x).toNat=x.natAbs from by omega]
  have hd:Hd (Lib.itoa (-x)++t):=(tx_Hd (.int (-x) 0) ⟨by omega,by omega⟩).app t;refine ⟨_,.inr ⟨by omega,(p:Int),((p+1:Nat):Int),rfl⟩,?_⟩;rw [e,List.cons_append,scT_neg hd,scT_int (by omega) (by omega) ht,List.length_cons,show p+1+(Lib.itoa (-x)).length=p+((Lib.itoa (-x)).length+1) from by omega,a_];rfl
theorem var_q {v:SyVar} (hn:isNm v.name=true) (h0:-9223372036854775808<v.num) (h1:v.num<=9223372036854775807):Qs (pvarT v) (λ ts=>∃v',SpVar v' ts/\v'.er=v.er):=by
 unfold pvarT;refine ((Qn.word (w:=wVar) (by decide)).app ((Qn.name hn).app ((Qs.eq.app ((num_q h0 h1).app Qs.semi (nw_cons (by decide)))).blank) (nw_cons (by decide))).blank (nw_cons (by decide))).imp ?_;rintro ts ⟨_,_,rfl,⟨q0,rfl⟩,_,_,rfl,⟨p,rfl⟩,_,_,rfl,⟨q1,rfl⟩,un,_,rfl,k,q2,rfl⟩;exact ⟨⟨v.name,v.num,p⟩,⟨q0,q1,q2,un,rfl,k⟩,rfl⟩
theorem vars_q:∀(l:List SyVar),(∀v∈l,isNm v.name=true)->(∀v∈l,-9223372036854775808<v.num/\v.num<=9223372036854775807)->Qs (pvarsT l) (λ ts=>∃l',SpL SpVar l' ts/\l'.map SyVar.er=l.map SyVar.er)
 |[],_,_=>Qs.nil.imp λ ts h=>⟨[],h,rfl⟩
 |v::l,hn,hx=>by
  obtain ⟨h0,h1⟩:=hx v (by simp);refine (((var_q (hn v (by simp)) h0 h1).ind 1).app (vars_q l (λ b hb=>hn b (by simp [hb])) (λ b hb=>hx b (by simp [hb])))).imp ?_;rintro ts ⟨u,w,rfl,⟨a',k1,k2⟩,l',k3,k4⟩;exact ⟨a'::l',⟨u,w,rfl,k1,k3⟩,by rw [List.map_cons,List.map_cons,k2,k4]⟩
theorem chart_q {c:SyChart} (hg:c.good):Qs (chartT c) (λ ts=>∃c',SpCh c' ts/\c'.er=c.er):=by
 obtain ⟨vs,rt⟩:=c;obtain ⟨g1,g2,_,⟨nm,ini,dft,en,le,mo,ks,p,hk⟩,hnd,_,_,_⟩:=hg;simp only at g1 g2 hk hnd;subst hk;obtain ⟨hnm,hnd⟩:=hnd;rcases hnd with ⟨hkk,_⟩|⟨_,rfl,hi,a2,a3,a4,a5⟩
 ·omega
 ·have hh:=((Qn.word (w:=wChart) (by decide)).app ((Qn.name hnm).app Qs.lb.blank (nw_cons (by decide))).blank (nw_cons (by decide))).ind 0;refine (hh.app ((vars_q vs g1 g2).app ((ini_q 1 hi).app ((cl_q 1 (w:=wEnter) (by decide) a2).app ((cl_q 1 (w:=wLeave) (by decide) a3).app ((movs_q 1 mo a4).app ((nodes_q (d:=1) (node_q 11) ks a5).app (Qs.rb.ind 0)))))))).imp ?_;rintro ts ⟨_,_,rfl,⟨_,_,rfl,⟨q0,rfl⟩,_,_,rfl,⟨p',rfl⟩,q1,rfl⟩,uv,_,rfl,⟨vs',k0,e0⟩,ui,_,rfl,k1,ue,_,rfl,⟨en',k2,e2⟩,ul,_,rfl,⟨le',k3,e3⟩,um,_,rfl,⟨mo',k4,e4⟩,uk,_,rfl,⟨ks',k5,e5⟩,q2,rfl⟩;refine ⟨⟨vs',.mk 1 nm ini [] en' le' mo' ks' p'⟩,⟨nm,ini,en',le',mo',ks',p',q0,q1,q2,uv,ui,ue,ul,um,uk,rfl,rfl,k0,k1,k2,k3,k4,k5⟩,?_⟩;unfold SyChart.er;simp only [e0];rw [SyNode.er,SyNode.er,e2,e3,e4,e5]
end Go.Proofs.YtifekcbinjdfbaaGreatDoor
namespace Go.Proofs.YtifekcbinjdfbaaGreatDoor
theorem may_er {x x':Ex} (h:x'.er=x.er) (hx:x.may):x'.may:=by
 have:=er_eq h;exact ⟨this.2.2.2.2.2 hx.1,by rw [this.2.2.1];exact hx.2⟩
theorem opt_er {v v':Option Ex} (h:v'.map Ex.er=v.map Ex.er):(v'=none/\v=none)∨∃x x',v'=some x'/\v=some x/\x'.er=x.er:=by
 cases v with
 |none =>
  cases v' with
  |none=>exact .inl ⟨rfl,rfl⟩
  |some y=>cases h
 |some x =>
  cases v' with
  |none=>cases h
  |some y=>exact .inr ⟨x,y,rfl,rfl,by injection h⟩
theorem act_good {a a':SyAct} (h:a'.er=a.er) (hg:a.good):a'.good:=by
 have h1:a'.kind=a.kind:=(congrArg SyAct.kind h:a'.er.kind=a.er.kind)
 have h2:a'.name=a.name:=(congrArg SyAct.name h:a'.er.name=a.er.name)
 have h3:a'.value.map Ex.er=a.value.map Ex.er:=congrArg SyAct.value h;refine ⟨by rw [h1];exact hg.kind,by rw [h2];exact hg.name,λ hk=>?_,λ hk=>?_⟩
 ·rcases opt_er h3 with h4|⟨x,x',h4,h5,_⟩
  ·exact h4.1
  ·rw [hg.raise (by rw [<-h1];exact hk)] at h5;cases h5
 ·obtain ⟨x,h4,h5⟩:=hg.value (by rw [<-h1];exact hk);rcases opt_er h3 with h6|⟨y,y',h6,h7,h8⟩
  ·rw [h6.2] at h4;cases h4
  ·rw [h7] at h4;injection h4 with h4;exact ⟨y',h6,may_er h8 (by rw [h4];exact h5)⟩
theorem all_er {α:Type} {f:α->α} {P:α->Prop} (hp:∀a a',f a'=f a->P a->P a') {l l':List α} (h:l'.map f=l.map f) (hg:∀a∈l,P a):∀a∈l',P a:=λ a ha=>by
 have h1:f a∈l.map f:=by rw [<-h];exact List.mem_map_of_mem ha
 obtain ⟨b,h2,h3⟩:=List.mem_map.1 h1;exact hp b a h3.symm (hg b h2)
theorem acts_good {l l':List SyAct} (h:l'.map SyAct.er=l.map SyAct.er) (hg:∀a∈l,a.good):∀a∈l',a.good:=all_er (λ _ _ h hp=>act_good h hp) h hg
theorem move_good {m m':SyMove} (h:m'.er=m.er) (hg:m.good):m'.good:=by
 have h1:m'.kind=m.kind:=(congrArg SyMove.kind h:m'.er.kind=m.er.kind)
 have h2:m'.event=m.event:=(congrArg SyMove.event h:m'.er.event=m.er.event)
 have h3:m'.wait=m.wait:=(congrArg SyMove.wait h:m'.er.wait=m.er.wait)
 have h4:m'.guarded=m.guarded:=(congrArg SyMove.guarded h:m'.er.guarded=m.er.guarded)
 have h5:m'.guard.map Ex.er=m.guard.map Ex.er:=congrArg SyMove.guard h;have h6:m'.acts.map SyAct.er=m.acts.map SyAct.er:=congrArg SyMove.acts h
 have h7:m'.targets=m.targets:=(congrArg SyMove.targets h:m'.er.targets=m.er.targets)
 refine ⟨by rw [h1];exact hg.kind,by rw [h1,h2];exact hg.event,by rw [h1,h3];exact hg.wait,?_,?_,acts_good h6 hg.acts,by rw [h7];exact hg.targets⟩
 ·rw [h4,hg.guarded];rcases opt_er h5 with k|⟨x,x',k1,k2,_⟩
  ·rw [k.1,k.2]
  ·rw [k1,k2];rfl
 ·intro y hy;rcases opt_er h5 with k|⟨x,x',k1,k2,k3⟩
  ·rw [k.1] at hy;cases hy
  ·rw [k1] at hy;injection hy with hy;rw [<-hy];exact may_er k3 (hg.guard x k2)
theorem movs_good {l l':List SyMove} (h:l'.map SyMove.er=l.map SyMove.er) (hg:∀a∈l,a.good):∀a∈l',a.good:=all_er (λ _ _ h hp=>move_good h hp) h hg
theorem nil_er {α:Type} {f:α->α} {l l':List α} (h:l'.map f=l.map f) (hl:l=[]):l'=[]:=by
 rw [hl] at h;exact List.map_eq_nil_iff.1 h
theorem node_good:∀(d:Nat) (x x':SyNode),x'.er=x.er->GdN d x->GdN d x'
 |0,_,_,_,hg=>hg.elim
 |d+1,.mk k nm ini dft en le mo ks p,.mk k' nm' ini' dft' en' le' mo' ks' p',h,hg=>by
  rw [SyNode.er,SyNode.er,ers_map,ers_map] at h;injection h with h1 h2 h3 h4 h5 h6 h7 h8 _;subst h1 h2 h3 h4;refine ⟨hg.1,?_⟩;rcases hg.2 with ⟨a1,a2,a3,a4,a5,a6,a7⟩|⟨a1,a2,a3,a4,a5,a6,a7⟩
  ·exact .inl ⟨a1,a2,a3,nil_er h5 a4,nil_er h6 a5,nil_er h7 a6,nil_er h8 a7⟩
  ·exact .inr ⟨a1,a2,a3,acts_good h5 a4,acts_good h6 a5,movs_good h7 a6,all_er (λ a a' h hp=>node_good d a a' h hp) h8 a7⟩
theorem mvA_er:∀l:List SyMove,mvA (l.map SyMove.er)=mvA l
 |[]=>rfl
 |m::l=>by
  rw [List.map_cons,mvA,mvA,mvA_er l];unfold SyMove.er;simp only [List.length_map]
mutual
theorem cN_er:∀x:SyNode,cN x.er=cN x
 |.mk _ _ _ _ _ _ _ ks _=>by rw [SyNode.er,cN,cN,cNs_er ks]
theorem cNs_er:∀l:List SyNode,cNs (SyNode.ers l)=cNs l
 |[]=>by rw [SyNode.ers]
 |x::l=>by rw [SyNode.ers,cNs,cNs,cN_er x,cNs_er l]
end
mutual
theorem cM_er:∀x:SyNode,cM x.er=cM x
 |.mk _ _ _ _ _ _ _ ks _=>by rw [SyNode.er,cM,cM,cMs_er ks,List.length_map]
theorem cMs_er:∀l:List SyNode,cMs (SyNode.ers l)=cMs l
 |[]=>by rw [SyNode.ers]
 |x::l=>by rw [SyNode.ers,cMs,cMs,cM_er x,cMs_er l]
end
mutual
theorem cA_er:∀x:SyNode,cA x.er=cA x
 |.mk _ _ _ _ _ _ _ ks _=>by rw [SyNode.er,cA,cA,cAs_er ks,List.length_map,List.length_map,mvA_er]
theorem cAs_er:∀l:List SyNode,cAs (SyNode.ers l)=cAs l
 |[]=>by rw [SyNode.ers]
 |x::l=>by rw [SyNode.ers,cAs,cAs,cA_er x,cAs_er l]
end
theorem chart_good {c c':SyChart} (h:c'.er=c.er) (hg:c.good):c'.good:=by
 have hv:c'.vars.map SyVar.er=c.vars.map SyVar.er:=congrArg SyChart.vars h;have hr:c'.root.er=c.root.er:=congrArg SyChart.root h;refine ⟨?_,?_,?_,?_,node_good 12 _ _ hr hg.node,?_,?_,?_⟩
 ·exact all_er (P:=λ v=>isNm v.name=true) (λ a a' h hp=>by have e:a'.name=a.name:=(congrArg SyVar.name h:a'.er.name=a.er.name);rw [e];exact hp) hv hg.names
 ·exact all_er (P:=λ v=>-9223372036854775808<v.num/\v.num<=9223372036854775807) (λ a a' h hp=>by have e:a'.num=a.num:=(congrArg SyVar.num h:a'.er.num=a.er.num);rw [e];exact hp) hv hg.nums
 ·have:=congrArg List.length hv;rw [List.length_map,List.length_map] at this;rw [this];exact hg.many
 ·obtain ⟨nm,ini,dft,en,le,mo,ks,p,e⟩:=hg.kind;obtain ⟨vs',⟨k',nm',ini',dft',en',le',mo',ks',p'⟩⟩:=c';rw [e] at hr;simp only at hr;rw [SyNode.er,SyNode.er] at hr;injection hr with hr _;subst hr;exact ⟨_,_,_,_,_,_,_,_,rfl⟩
 ·rw [<-cN_er,hr,cN_er];exact hg.nodes
 ·rw [<-cM_er,hr,cM_er];exact hg.moves
 ·rw [<-cA_er,hr,cA_er];exact hg.acts
theorem chart_back {c:SyChart} (hg:c.good) (hl:(chartT c).length<=16384):∃c' s,syF (chartT c)=.ok c' s/\c'.er=c.er:=by
 obtain ⟨ts,⟨c',h1,h2⟩,h3⟩:=chart_q hg [] 0 [];rw [List.append_nil,scT_nil,List.nil_append,<-scF_T hl] at h3;obtain ⟨s,h4⟩:=chart_sp (r:=[]) h1 (chart_good h2 hg) ⟨5,[],0,((0+(chartT c).length:Nat):Int)⟩ rfl;refine ⟨c',s,?_,h2⟩;unfold syF;rw [h3];exact h4
end Go.Proofs.YtifekcbinjdfbaaGreatDoor
