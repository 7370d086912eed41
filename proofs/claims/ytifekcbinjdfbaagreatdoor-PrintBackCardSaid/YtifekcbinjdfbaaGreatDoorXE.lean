import Derived.Test.YtifekcbinjdfbaaGreatDoorQh
import Derived.Test.YtifekcbinjdfbaaGreatDoorQXR
import Derived.Test.YtifekcbinjdfbaaGreatDoorQXA
import Derived.Lib.ItoaNum
import Derived.Below
import Derived.Laws.OwnMore
set_option maxHeartbeats 12800000
set_option maxRecDepth 20000
namespace Go.Proofs.YtifekcbinjdfbaaGreatDoor
open Go.RowKit
theorem isWd_all {l:List UInt8} (h:wdK l=l.length):∀c∈l,isWd c=true:=by
 induction l with
 |nil=>simp
 |cons c r ih =>
  unfold wdK at h
  split at h
  ·rename_i hc;intro x hx;rcases List.mem_cons.1 hx with rfl|hx
   ·exact hc
   ·exact ih (by simpa using h) x hx
  ·simp at h
theorem wdK_all {l:List UInt8} (h:∀c∈l,isWd c=true):wdK l=l.length:=by
 induction l with
 |nil=>rfl
 |cons c r ih =>
  unfold wdK;rw [if_pos (h c (by simp)),ih (λ x hx=>h x (by simp [hx]))];rfl
theorem lt_not_bl {c:UInt8} (h:isLt c=true):c≠47/\isBl c=false:=by
 have h1:=isLt_iff.1 h;constructor
 ·rintro rfl;exact absurd h (by decide)
 ·cases e:isBl c with
  |false=>rfl
  |true =>
   simp only [isBl,Bool.or_eq_true,decide_eq_true_eq] at e
   rcases e with ((rfl|rfl)|rfl)|rfl <;> exact absurd h (by decide)
theorem blK_lt {c:UInt8} {r:List UInt8} (h:isLt c=true):blK false (c::r)=0:=by
 have:=lt_not_bl h;rw [show blK false (c::r)=if c=47/\r.head?=some 47 then blK true r+1 else if isBl c=true then blK false r+1 else 0 from rfl,if_neg (λ e=>this.1 e.1),if_neg (by rw [this.2];decide)]
theorem isNm_parts {l:List UInt8} (h:isNm l=true):∃c r,l=c::r/\isLt c=true/\wdK l=l.length/\l.length<=24/\isKw l=false:=by
 simp only [isNm,Bool.and_eq_true,Bool.not_eq_true',decide_eq_true_eq] at h;obtain ⟨⟨⟨h0,h1⟩,h2⟩,h3⟩:=h
 match l,h0,h1,h2,h3 with
 |c::r,_,h1,h2,h3 =>
  rw [wsz_cons] at h2
  split at h2
  ·rename_i hc;exact ⟨c,r,rfl,hc,h2,h1,h3⟩
  ·simp at h2
theorem isNm_of {c:UInt8} {r:List UInt8} (hc:isLt c=true) (h1:wdK (c::r)=(c::r).length) (h2:(c::r).length<=24) (h3:isKw (c::r)=false):isNm (c::r)=true:=by
 simp only [isNm,Bool.and_eq_true,Bool.not_eq_true',decide_eq_true_eq];exact ⟨⟨⟨rfl,h2⟩,by rw [wsz_cons,if_pos hc];exact h1⟩,h3⟩
theorem blK_app:∀(b:Bool) (l t:List UInt8),(blK b l=l.length->blK b (l++10::t)=l.length+(blK false t+1))/\(blK b l<l.length->blK b (l++10::t)=blK b l)
 |true,[],t=>⟨λ _=>by simp [blK],λ h=>by simp at h⟩
 |false,[],t=>⟨λ _=>by simp [blK,isBl],λ h=>by simp at h⟩
 |true,c::r,t=>by
  have h1:=blK_app true r t;have h2:=blK_app false r t
  by_cases hc:c=10
  ·have e1:blK true (c::r)=blK false r+1:=by simp only [blK,if_pos hc]
   have e2:blK true (c::r++10::t)=blK false (r++10::t)+1:=by simp only [List.cons_append,blK,if_pos hc]
   rw [e1,e2,List.length_cons];exact ⟨λ h=>by rw [h2.1 (by omega)];omega,λ h=>by rw [h2.2 (by omega)]⟩
  ·have e1:blK true (c::r)=blK true r+1:=by simp only [blK,if_neg hc]
   have e2:blK true (c::r++10::t)=blK true (r++10::t)+1:=by simp only [List.cons_append,blK,if_neg hc]
   rw [e1,e2,List.length_cons];exact ⟨λ h=>by rw [h1.1 (by omega)];omega,λ h=>by rw [h1.2 (by omega)]⟩
 |false,c::r,t=>by
  have h1:=blK_app true r t;have h2:=blK_app false r t
  have hh:(c=47/\(r++10::t).head?=some 47) ↔ (c=47/\r.head?=some 47):=by
   cases r with
   |nil=>simp
   |cons d r=>simp
  by_cases hc:c=47/\r.head?=some 47
  ·have e1:blK false (c::r)=blK true r+1:=by simp only [blK,if_pos hc]
   have e2:blK false (c::r++10::t)=blK true (r++10::t)+1:=by simp only [List.cons_append,blK,if_pos (hh.2 hc)]
   rw [e1,e2,List.length_cons];exact ⟨λ h=>by rw [h1.1 (by omega)];omega,λ h=>by rw [h1.2 (by omega)]⟩
  ·have hc':¬(c=47/\(r++10::t).head?=some 47):=λ h=>hc (hh.1 h)
   by_cases hb:isBl c=true
   ·have e1:blK false (c::r)=blK false r+1:=by simp only [blK,if_neg hc,if_pos hb]
    have e2:blK false (c::r++10::t)=blK false (r++10::t)+1:=by simp only [List.cons_append,blK,if_neg hc',if_pos hb]
    rw [e1,e2,List.length_cons];exact ⟨λ h=>by rw [h2.1 (by omega)];omega,λ h=>by rw [h2.2 (by omega)]⟩
   ·have e1:blK false (c::r)=0:=by simp only [blK,if_neg hc,if_neg hb]
    have e2:blK false (c::r++10::t)=0:=by simp only [List.cons_append,blK,if_neg hc',if_neg hb]
    rw [e1,e2,List.length_cons];exact ⟨λ h=>by omega,λ _=>rfl⟩
theorem wdK_app:∀(m t:List UInt8),wdK (m++10::t)=wdK m
 |[],t=>by simp [wdK,isWd,isLt,isDg]
 |c::r,t=>by
  have ih:=wdK_app r t;rw [List.cons_append];unfold wdK;rw [ih]
theorem dgK_app:∀(m t:List UInt8),dgK (m++10::t)=dgK m
 |[],t=>by simp [dgK,isDg]
 |c::r,t=>by
  have ih:=dgK_app r t;rw [List.cons_append];unfold dgK;rw [ih]
theorem pE_app {m:List UInt8} (h:m≠[]) (t:List UInt8):pE (m++10::t)=pE m/\pV (m++10::t)=pV m:=by
 have e1:(m++10::t).take (dgK m)=m.take (dgK m):=List.take_append_of_le_length (dgK_le m);have e2:(m++10::t).head?=m.head?:=head_app m _ h
 have e3:pE (m++10::t)=pE m:=by
  unfold pE;rw [dgK_app,e1,e2];simp [h]
 refine ⟨e3,?_⟩;unfold pV;rw [e3,dgK_app,e1]
theorem sgn_app {m:List UInt8} (h:m≠[]) (t:List UInt8):sgn (m++10::t)=sgn m:=by
 match m,h with
 |[a],_ =>
  unfold sgn
  have e1:twoS.contains (([a]++10::t).take 2)=false:=by
   cases e:twoS.contains (([a]++10::t).take 2) with
   |false=>rfl
   |true =>
    have:[a,10]∈twoS:=by simpa using e
    simp [twoS] at this
  have e2:twoS.contains ([a].take 2)=false:=by
   cases e:twoS.contains ([a].take 2) with
   |false=>rfl
   |true =>
    have:[a]∈twoS:=by simpa using e
    simp [twoS] at this
  rw [if_neg (by rw [e1];decide),if_neg (by rw [e2];decide)];rfl
 |a::b::r,_=>rfl
theorem tk_app {m:List UInt8} (h:m≠[]) (t:List UInt8) (q:Int):tkE (m++10::t)=tkE m/\tkS (m++10::t)=tkS m/\tkT (m++10::t) q=tkT m q:=by
 match m,h with
 |c::r,h =>
  have a1:=wdK_app (c::r) t;have a2:=dgK_app (c::r) t;have a3:=pE_app h t;have a4:=sgn_app h t;have b1:(c::r++10::t).take (wdK (c::r))=(c::r).take (wdK (c::r)):=List.take_append_of_le_length (wdK_le _);have b2:(c::r++10::t).take (sgn (c::r))=(c::r).take (sgn (c::r)):=List.take_append_of_le_length (sgn_le _);rw [List.cons_append] at a1 a2 a3 a4 b1 b2 ⊢;refine ⟨?_,?_,?_⟩
  ·rw [tkE_cons,tkE_cons,a1,a2,a3.1,a4]
  ·rw [tkS_cons,tkS_cons,a1,a2,a4]
  ·rw [tkT_cons,tkT_cons,a1,a4,b1,b2,a3.2]
inductive Ex where
 |int (n:Int) (p:Int)
 |var (s:List UInt8) (p:Int)
 |inn (s:List UInt8) (p:Int)
 |one (op:Int) (x:Ex) (p:Int)
 |both (op:Int) (x y:Ex)
deriving DecidableEq
def Ex.pos:Ex->Int
 |.int _ p=>p
 |.var _ p=>p
 |.inn _ p=>p
 |.one _ _ p=>p
 |.both _ x _=>x.pos
inductive PR where
 |out
 |bad (code p:Int)
 |ok (x:Ex) (rest:List Tk)
deriving DecidableEq
def PR.andThen (e:PR) (g:Ex->List Tk->PR):PR:=match e with
 |.ok x r=>g x r
 |.out=>.out
 |.bad c p=>.bad c p
theorem PR.andThen_ok {e:PR} {g:Ex->List Tk->PR} {y:Ex} {r:List Tk} (h:e.andThen g=.ok y r):∃x u,e=.ok x u/\g x u=.ok y r:=by
 cases e with
 |out=>cases h
 |bad c p=>cases h
 |ok x u=>exact ⟨x,u,rfl,h⟩
def rowOps:Nat->List (List UInt8×Int)
 |0=>[([124,124],13)]
 |1=>[([38,38],12)]
 |2=>[([61,61],10),([33,61],11)]
 |3=>[([60],6),([60,61],7),([62],8),([62,61],9)]
 |4=>[([43],1),([45],2)]
 |5=>[([42],3),([47],4),([37],5)]
 |_=>[]
def isSg (t:Tk) (s:List UInt8):Bool:=decide (t.kind=4)&&decide (t.text=s)
def opAt (k:Nat):List Tk->Int
 |[]=>0
 |t::_=>match (rowOps k).find? (λ o=>isSg t o.1) with
  |some o=>o.2
  |none=>0
def wrongAt (t:Tk):PR:=if t.kind=5 then .bad 3 t.at_ else .bad 4 t.at_
theorem wrongAt_not {t:Tk} {x:Ex} {r:List Tk}:wrongAt t≠.ok x r:=by
 unfold wrongAt
 split <;> (intro h;cases h)
def shutP (x:Ex):List Tk->PR
 |[]=>.bad 0 0
 |t::r=>if isSg t [41]=true then .ok x r else wrongAt t
def nameP (p:Int):List Tk->PR
 |[]=>.bad 0 0
 |u::r=>if u.kind=1 then shutP (.inn u.text p) r else wrongAt u
def innP (p:Int):List Tk->PR
 |[]=>.bad 0 0
 |t::r=>if isSg t [40]=true then nameP p r else wrongAt t
theorem shutP_cons (x:Ex) (t:Tk) (r:List Tk):shutP x (t::r)=if isSg t [41]=true then .ok x r else wrongAt t:=rfl
theorem nameP_cons (p:Int) (u:Tk) (r:List Tk):nameP p (u::r)=if u.kind=1 then shutP (.inn u.text p) r else wrongAt u:=rfl
theorem innP_cons (p:Int) (t:Tk) (r:List Tk):innP p (t::r)=if isSg t [40]=true then nameP p r else wrongAt t:=rfl
mutual
def pFrom:Nat->Nat->Nat->List Tk->PR
 |0,_,_,_=>.out
 |f+1,k,d,ts=>if k=6 then pOne f d ts else (pFrom f (k+1) d ts).andThen λ x r=>pMore f k d x r
def pMore:Nat->Nat->Nat->Ex->List Tk->PR
 |0,_,_,_,_=>.out
 |f+1,k,d,x,ts=>if opAt k ts=0 then .ok x ts else (pFrom f (k+1) d ts.tail).andThen λ y r=>pMore f k d (.both (opAt k ts) x y) r
def pOne:Nat->Nat->List Tk->PR
 |0,_,_=>.out
 |_+1,_,[]=>.bad 0 0
 |f+1,d,t::r =>
  if isSg t [45]=true∨isSg t [33]=true then
   if d=20 then .bad 21 t.at_ else (pOne f (d+1) r).andThen λ x r'=>.ok (.one (if isSg t [33]=true then 15 else 14) x t.at_) r'
  else if isSg t [40]=true then
   if d=20 then .bad 21 t.at_ else (pFrom f 0 (d+1) r).andThen λ x r'=>shutP x r'
  else if t.kind=3 then .ok (.int t.num t.at_) r
  else if t.kind=1 then .ok (.var t.text t.at_) r
  else if t.kind=2/\t.text=[105,110] then innP t.at_ r
  else wrongAt t
end
theorem pFrom_succ (f k d:Nat) (ts:List Tk):pFrom (f+1) k d ts=if k=6 then pOne f d ts else (pFrom f (k+1) d ts).andThen λ x r=>pMore f k d x r:=by rw [pFrom]
theorem pMore_succ (f k d:Nat) (x:Ex) (ts:List Tk):pMore (f+1) k d x ts=if opAt k ts=0 then .ok x ts else (pFrom f (k+1) d ts.tail).andThen λ y r=>pMore f k d (.both (opAt k ts) x y) r:=by rw [pMore]
theorem pOne_nil (f d:Nat):pOne (f+1) d []=.bad 0 0:=by rw [pOne]
theorem pOne_cons (f d:Nat) (t:Tk) (r:List Tk):pOne (f+1) d (t::r) =
  if isSg t [45]=true∨isSg t [33]=true then
   if d=20 then .bad 21 t.at_ else (pOne f (d+1) r).andThen λ x r'=>.ok (.one (if isSg t [33]=true then 15 else 14) x t.at_) r'
  else if isSg t [40]=true then
   if d=20 then .bad 21 t.at_ else (pFrom f 0 (d+1) r).andThen λ x r'=>shutP x r'
  else if t.kind=3 then .ok (.int t.num t.at_) r
  else if t.kind=1 then .ok (.var t.text t.at_) r
  else if t.kind=2/\t.text=[105,110] then innP t.at_ r
  else wrongAt t:=by rw [pOne]
theorem shutP_some {x y:Ex} {ts r:List Tk} (h:shutP x ts=.ok y r):∃t,ts=t::r/\isSg t [41]=true/\y=x:=by
 cases ts with
 |nil=>cases h
 |cons t u =>
  rw [shutP_cons] at h
  split at h
  ·rename_i e;injection h with h1 h2;exact ⟨t,by rw [h2],e,h1.symm⟩
  ·exact absurd h wrongAt_not
theorem innP_some {p:Int} {y:Ex} {ts r:List Tk} (h:innP p ts=.ok y r):∃t u v,ts=t::u::v::r/\isSg t [40]=true/\u.kind=1/\isSg v [41]=true/\y=.inn u.text p:=by
 match ts,h with
 |[],h=>cases h
 |t::ts,h =>
  rw [innP_cons] at h
  split at h
  ·rename_i e1
   match ts,h with
   |[],h=>cases h
   |u::ts,h =>
    rw [nameP_cons] at h
    split at h
    ·rename_i e2;obtain ⟨v,rfl,e3,rfl⟩:=shutP_some h;exact ⟨t,u,v,rfl,e1,e2,e3,rfl⟩
    ·exact absurd h wrongAt_not
  ·exact absurd h wrongAt_not
theorem p_len:∀f,(∀k d ts x r,pFrom f k d ts=.ok x r->r.length<ts.length)/\(∀k d y ts x r,pMore f k d y ts=.ok x r->r.length<=ts.length)/\(∀d ts x r,pOne f d ts=.ok x r->r.length<ts.length)
 |0=>⟨λ _ _ _ _ _ h=>by simp [pFrom] at h,λ _ _ _ _ _ _ h=>by simp [pMore] at h,λ _ _ _ _ h=>by simp [pOne] at h⟩
 |f+1=>by
  obtain ⟨h1,h2,h3⟩:=p_len f;refine ⟨λ k d ts x r h=>?_,λ k d y ts x r h=>?_,λ d ts x r h=>?_⟩
  ·rw [pFrom_succ] at h
   split at h
   ·exact h3 _ _ _ _ h
   ·obtain ⟨y,u,e,h⟩:=PR.andThen_ok h;have:=h1 _ _ _ _ _ e;have:=h2 _ _ _ _ _ _ h;omega
  ·rw [pMore_succ] at h
   split at h
   ·injection h with _ h;subst h;exact n_ _
   ·obtain ⟨z,u,e,h⟩:=PR.andThen_ok h;have:=h1 _ _ _ _ _ e;have:=h2 _ _ _ _ _ _ h;have:=List.length_tail (l:=ts);omega
  ·cases ts with
   |nil=>rw [pOne_nil] at h;cases h
   |cons t u =>
    rw [pOne_cons] at h;rw [List.length_cons]
    split at h
    ·split at h
     ·cases h
     ·obtain ⟨z,v,e,h⟩:=PR.andThen_ok h;injection h with _ h;subst h;have:=h3 _ _ _ _ e;omega
    ·split at h
     ·split at h
      ·cases h
      ·obtain ⟨z,v,e,h⟩:=PR.andThen_ok h;have:=h1 _ _ _ _ _ e;obtain ⟨t',rfl,_,_⟩:=shutP_some h;simp only [List.length_cons] at this;omega
     ·split at h
      ·injection h with _ h;subst h;omega
      ·split at h
       ·injection h with _ h;subst h;omega
       ·split at h
        ·obtain ⟨t1,t2,t3,rfl,_⟩:=innP_some h;simp only [List.length_cons];omega
        ·exact absurd h wrongAt_not
theorem PR.andThen_congr {e:PR} {g g':Ex->List Tk->PR} (h:∀x r,e=.ok x r->g x r=g' x r):e.andThen g=e.andThen g':=by
 cases e with
 |out=>rfl
 |bad c p=>rfl
 |ok x r=>exact h x r rfl
theorem opAt_some {k:Nat} {ts:List Tk} (h:¬opAt k ts=0):∃t r,ts=t::r:=by
 cases ts with
 |nil=>exact absurd rfl h
 |cons t r=>exact ⟨t,r,rfl⟩
theorem p_same:∀f,(∀f' k d ts,k<=6->10*ts.length+8-k<=f->10*ts.length+8-k<=f'->pFrom f k d ts=pFrom f' k d ts) /\
  (∀f' k d x ts,k<6->10*ts.length+9-k<=f->10*ts.length+9-k<=f'->pMore f k d x ts=pMore f' k d x ts) /\
  (∀f' d ts,10*ts.length+1<=f->10*ts.length+1<=f'->pOne f d ts=pOne f' d ts)
 |0=>⟨λ _ _ _ _ hk h=>by omega,λ _ _ _ _ _ hk h=>by omega,λ _ _ _ h=>by omega⟩
 |f+1=>by
  obtain ⟨h1,h2,h3⟩:=p_same f;obtain ⟨l1,l2,l3⟩:=p_len f;refine ⟨λ f' k d ts hk h h'=>?_,λ f' k d x ts hk h h'=>?_,λ f' d ts h h'=>?_⟩
  ·obtain ⟨f',rfl⟩:∃g,f'=g+1:=⟨f' - 1,by omega⟩
   rw [pFrom_succ,pFrom_succ]
   split
   ·exact h3 _ _ _ (by omega) (by omega)
   ·rw [<-h1 f' (k+1) d ts (by omega) (by omega) (by omega)];refine PR.andThen_congr λ x r e=>?_;have:=l1 _ _ _ _ _ e;exact h2 _ _ _ _ _ (by omega) (by omega) (by omega)
  ·obtain ⟨f',rfl⟩:∃g,f'=g+1:=⟨f' - 1,by omega⟩
   rw [pMore_succ,pMore_succ]
   split
   ·rfl
   ·rename_i h0;obtain ⟨t,u,rfl⟩:=opAt_some h0;rw [List.length_cons] at h h';rw [List.tail_cons,<-h1 f' (k+1) d u (by omega) (by omega) (by omega)];refine PR.andThen_congr λ y r e=>?_;have:=l1 _ _ _ _ _ e;exact h2 _ _ _ _ _ hk (by omega) (by omega)
  ·obtain ⟨f',rfl⟩:∃g,f'=g+1:=⟨f' - 1,by omega⟩
   cases ts with
   |nil=>rw [pOne_nil,pOne_nil]
   |cons t u =>
    rw [List.length_cons] at h h';rw [pOne_cons,pOne_cons,<-h3 f' (d+1) u (by omega) (by omega),<-h1 f' 0 (d+1) u (by omega) (by omega) (by omega)]
def Pf (k d:Nat) (ts:List Tk):PR:=pFrom (10*ts.length+8) k d ts
def Pm (k d:Nat) (x:Ex) (ts:List Tk):PR:=pMore (10*ts.length+9) k d x ts
def Po (d:Nat) (ts:List Tk):PR:=pOne (10*ts.length+8) d ts
theorem Pf_len {k d:Nat} {ts r:List Tk} {x:Ex} (h:Pf k d ts=.ok x r):r.length<ts.length:=(p_len _).1 _ _ _ _ _ h
theorem Pf_six (d:Nat) (ts:List Tk):Pf 6 d ts=Po d ts:=by
 unfold Pf Po;rw [show 10*ts.length+8=(10*ts.length+7)+1 from rfl,pFrom_succ,if_pos rfl];exact (p_same _).2.2 _ _ _ (by omega) (by omega)
theorem Pf_row {k:Nat} (hk:k<6) (d:Nat) (ts:List Tk):Pf k d ts=(Pf (k+1) d ts).andThen λ x r=>Pm k d x r:=by
 unfold Pf Pm;rw [show 10*ts.length+8=(10*ts.length+7)+1 from rfl,pFrom_succ,if_neg (by omega),(p_same _).1 (10*ts.length+7+1) (k+1) d ts (by omega) (by omega) (by omega)];refine PR.andThen_congr λ x r e=>?_;have:=(p_len _).1 _ _ _ _ _ e;exact (p_same _).2.1 _ _ _ _ _ hk (by omega) (by omega)
theorem Pm_eq {k:Nat} (hk:k<6) (d:Nat) (x:Ex) (ts:List Tk):Pm k d x ts=if opAt k ts=0 then .ok x ts else (Pf (k+1) d ts.tail).andThen λ y r=>Pm k d (.both (opAt k ts) x y) r:=by
 unfold Pf Pm;rw [show 10*ts.length+9=(10*ts.length+8)+1 from rfl,pMore_succ]
 split
 ·rfl
 ·rename_i h0;obtain ⟨t,u,rfl⟩:=opAt_some h0;rw [List.tail_cons,List.length_cons,(p_same _).1 (10*u.length+8) (k+1) d u (by omega) (by omega) (by omega)];refine PR.andThen_congr λ y r e=>?_;have:=(p_len _).1 _ _ _ _ _ e;exact (p_same _).2.1 _ _ _ _ _ hk (by omega) (by omega)
theorem Po_cons (d:Nat) (t:Tk) (r:List Tk):Po d (t::r) =
  if isSg t [45]=true∨isSg t [33]=true then
   if d=20 then .bad 21 t.at_ else (Po (d+1) r).andThen λ x r'=>.ok (.one (if isSg t [33]=true then 15 else 14) x t.at_) r'
  else if isSg t [40]=true then
   if d=20 then .bad 21 t.at_ else (Pf 0 (d+1) r).andThen λ x r'=>shutP x r'
  else if t.kind=3 then .ok (.int t.num t.at_) r
  else if t.kind=1 then .ok (.var t.text t.at_) r
  else if t.kind=2/\t.text=[105,110] then innP t.at_ r
  else wrongAt t:=by
 unfold Po Pf;rw [List.length_cons,show 10*(r.length+1)+8=(10*r.length+17)+1 from by omega,pOne_cons,(p_same _).2.2 (10*r.length+8) (d+1) r (by omega) (by omega),(p_same _).1 (10*r.length+8) 0 (d+1) r (by omega) (by omega) (by omega)]
def rowOf (op:Int):Nat :=
 if op=13 then 0 else if op=12 then 1 else if op=10∨op=11 then 2 else if op=6∨op=7∨op=8∨op=9 then 3 else if op=1∨op=2 then 4 else if op=3∨op=4∨op=5 then 5 else 6
def sgOf (op:Int):List UInt8 :=
 if op=13 then [124,124] else if op=12 then [38,38] else if op=10 then [61,61] else if op=11 then [33,61] else if op=6 then [60] else if op=7 then [60,61] else if op=8 then [62] else if op=9 then [62,61]
 else if op=1 then [43] else if op=2 then [45] else if op=3 then [42] else if op=4 then [47] else [37]
theorem row_cases {op:Int} (h:rowOf op<6):op=1∨op=2∨op=3∨op=4∨op=5∨op=6∨op=7∨op=8∨op=9∨op=10∨op=11∨op=12∨op=13:=by
 unfold rowOf at h
 split at h
 ·omega
 ·split at h
  ·omega
  ·split at h
   ·omega
   ·split at h
    ·omega
    ·split at h
     ·omega
     ·split at h
      ·omega
      ·omega
def Ex.isBoth:Ex->Bool
 |.both _ _ _=>true
 |_=>false
def Ex.lev:Ex->Nat
 |.both op _ _=>rowOf op
 |_=>6
def par (b:Bool) (s:List UInt8):List UInt8:=if b=true then 40::(s++[41]) else s
def Ex.tx:Ex->List UInt8
 |.int n _=>Lib.itoa n
 |.var s _=>s
 |.inn s _=>105::110::40::(s++[41])
 |.one op x _=>(if op=14 then 45 else 33)::par x.isBoth x.tx
 |.both op x y=>par (decide (x.lev<rowOf op)) x.tx++32::(sgOf op++32::par (decide (y.lev<=rowOf op)) y.tx)
def Ex.nst:Ex->Nat
 |.one _ x _=>1+((if x.isBoth=true then 1 else 0)+x.nst)
 |.both op x y=>max ((if x.lev<rowOf op then 1 else 0)+x.nst) ((if y.lev<=rowOf op then 1 else 0)+y.nst)
 |_=>0
def Ex.ops:Ex->Prop
 |.one op x _=>(op=14∨op=15)/\x.ops
 |.both op x y=>rowOf op<6/\x.ops/\y.ops
 |_=>True
def SpP (b:Bool) (sp:List Tk->Prop) (u:List Tk):Prop:=if b=true then ∃a c u',u=⟨4,[40],0,a⟩::(u'++[⟨4,[41],0,c⟩])/\sp u' else sp u
def Sp:Ex->List Tk->Prop
 |.int n p,ts=>ts=[⟨3,[],n,p⟩]
 |.var s p,ts=>ts=[⟨1,s,0,p⟩]
 |.inn s p,ts=>∃a b c,ts=[⟨2,[105,110],0,p⟩,⟨4,[40],0,a⟩,⟨1,s,0,b⟩,⟨4,[41],0,c⟩]
 |.one op x p,ts=>∃u,ts=⟨4,[if op=14 then 45 else 33],0,p⟩::u/\SpP x.isBoth (Sp x) u
 |.both op x y,ts=>∃u a v,ts=u++⟨4,sgOf op,0,a⟩::v/\SpP (decide (x.lev<rowOf op)) (Sp x) u/\SpP (decide (y.lev<=rowOf op)) (Sp y) v
theorem opAt_sg {op:Int} (h:rowOf op<6) {j:Nat} (hj:j<6) (a:Int) (r:List Tk):opAt j (⟨4,sgOf op,0,a⟩::r)=if j=rowOf op then op else 0:=by
 match j,hj with
 |0,_=>rcases row_cases h with rfl|rfl|rfl|rfl|rfl|rfl|rfl|rfl|rfl|rfl|rfl|rfl|rfl <;> rfl
 |1,_=>rcases row_cases h with rfl|rfl|rfl|rfl|rfl|rfl|rfl|rfl|rfl|rfl|rfl|rfl|rfl <;> rfl
 |2,_=>rcases row_cases h with rfl|rfl|rfl|rfl|rfl|rfl|rfl|rfl|rfl|rfl|rfl|rfl|rfl <;> rfl
 |3,_=>rcases row_cases h with rfl|rfl|rfl|rfl|rfl|rfl|rfl|rfl|rfl|rfl|rfl|rfl|rfl <;> rfl
 |4,_=>rcases row_cases h with rfl|rfl|rfl|rfl|rfl|rfl|rfl|rfl|rfl|rfl|rfl|rfl|rfl <;> rfl
 |5,_=>rcases row_cases h with rfl|rfl|rfl|rfl|rfl|rfl|rfl|rfl|rfl|rfl|rfl|rfl|rfl <;> rfl
theorem op_ne {op:Int} (h:rowOf op<6):op≠0:=by
 rcases row_cases h with rfl|rfl|rfl|rfl|rfl|rfl|rfl|rfl|rfl|rfl|rfl|rfl|rfl <;> decide
theorem opAt_shut {j:Nat} (hj:j<6) (c:Int) (r:List Tk):opAt j (⟨4,[41],0,c⟩::r)=0:=by
 match j,hj with
 |0,_=>rfl
 |1,_=>rfl
 |2,_=>rfl
 |3,_=>rfl
 |4,_=>rfl
 |5,_=>rfl
theorem opAt_cons (k:Nat) (t:Tk) (r:List Tk):opAt k (t::r)=match (rowOps k).find? (λ o=>isSg t o.1) with
  |some o=>o.2
  |none=>0:=rfl
def Res (k d:Nat) (e:Ex) (r:List Tk):PR:=if k=6 then .ok e r else Pm k d e r
theorem Pm_stop {k d:Nat} {e:Ex} {r:List Tk} (hk:k<6) (h:opAt k r=0):Pm k d e r=.ok e r:=by rw [Pm_eq hk,if_pos h]
theorem Res_stop {k d:Nat} {e:Ex} {r:List Tk} (hk:k<=6) (h:k<6->opAt k r=0):Res k d e r=.ok e r:=by
 unfold Res
 split
 ·rfl
 ·exact Pm_stop (by omega) (h (by omega))
theorem climb {L d:Nat} {e:Ex} {ts r:List Tk} (hL:L<=6) (h:Pf L d ts=Res L d e r):∀n k,L=k+n->(∀j,k<j->j<6->opAt j r=0)->Pf k d ts=Res k d e r
 |0,k,hk,_=>by
  have:k=L:=by omega
  rw [this];exact h
 |n+1,k,hk,ho=>by
  have ih:=climb hL h n (k+1) (by omega) (λ j hj h6=>ho j (by omega) h6);rw [Pf_row (by omega),ih,Res_stop (by omega) (λ h6=>ho (k+1) (by omega) h6)];show Pm k d e r=_;unfold Res;rw [if_neg (by omega)]
theorem climb_bad {L d:Nat} {c p:Int} {ts:List Tk} (hL:L<=6) (h:Pf L d ts=.bad c p):∀n k,L=k+n->Pf k d ts=.bad c p
 |0,k,hk=>by
  have:k=L:=by omega
  rw [this];exact h
 |n+1,k,hk=>by
  have ih:=climb_bad hL h n (k+1) (by omega);rw [Pf_row (by omega),ih];rfl
def Reads_ (e:Ex) (ts:List Tk):Prop:=∀k d r,k<=e.lev->d<=20->(∀j,k<j->j<6->opAt j r=0) ->
 (d+e.nst<=20->Pf k d (ts++r)=Res k d e r)/\(20<d+e.nst->∃p,Pf k d (ts++r)=.bad 21 p)
theorem lev_le (e:Ex):e.lev<=6:=by
 cases e with
 |both op x y =>
  show rowOf op<=6;unfold rowOf
  split
  ·omega
  ·split
   ·omega
   ·split
    ·omega
    ·split
     ·omega
     ·split
      ·omega
      ·split <;> omega
 |_=>exact n_ _
theorem reads_part {b:Bool} {x:Ex} {u:List Tk} (h:SpP b (Sp x) u) (ih:∀ts,Sp x ts->Reads_ x ts) (K d:Nat) (r:List Tk) (hK:K<=6) (hb:b=false->K<=x.lev) (hd:d<=20) (ho:∀j,K<j->j<6->opAt j r=0) :
  (d+((if b=true then 1 else 0)+x.nst)<=20->Pf K d (u++r)=Res K d x r)/\(20<d+((if b=true then 1 else 0)+x.nst)->∃p,Pf K d (u++r)=.bad 21 p):=by
 cases b with
 |false =>
  simp only [SpP,Bool.false_eq_true,if_false,Nat.zero_add] at h ⊢;exact ih u h K d r (hb rfl) hd ho
 |true =>
  simp only [SpP,if_true] at h ⊢;obtain ⟨a,c,u',rfl,h⟩:=h;have hr:=ih u' h 0 (d+1) (⟨4,[41],0,c⟩::r) (Nat.zero_le _)
  have e1:(⟨4,[40],0,a⟩::(u'++[⟨4,[41],0,c⟩]))++r=⟨4,[40],0,a⟩::(u'++⟨4,[41],0,c⟩::r):=by simp
  have e2:Po d ((⟨4,[40],0,a⟩::(u'++[⟨4,[41],0,c⟩]))++r)=if d=20 then .bad 21 a else (Pf 0 (d+1) (u'++⟨4,[41],0,c⟩::r)).andThen λ x r'=>shutP x r':=by
   rw [e1,Po_cons,if_neg (by simp [isSg]),if_pos (by rfl)]
  constructor
  ·intro hn;have h1:=(hr (by omega) (λ j _ h6=>opAt_shut h6 c r)).1 (by omega)
   have h2:Po d ((⟨4,[40],0,a⟩::(u'++[⟨4,[41],0,c⟩]))++r)=.ok x r:=by
    rw [e2,if_neg (by omega),h1,Res_stop (by omega) (λ h6=>opAt_shut h6 c r)];rfl
   rw [<-Pf_six] at h2;exact climb (L:=6) (n_ _) (by rw [h2];rfl) (6-K) K (by omega) ho
  ·intro hn
   by_cases h20:d=20
   ·refine ⟨a,climb_bad (L:=6) (n_ _) ?_ (6-K) K (by omega)⟩;rw [Pf_six,e2,if_pos h20]
   ·obtain ⟨p,h1⟩:=(hr (by omega) (λ j _ h6=>opAt_shut h6 c r)).2 (by omega);refine ⟨p,climb_bad (L:=6) (n_ _) ?_ (6-K) K (by omega)⟩;rw [Pf_six,e2,if_neg h20,h1];rfl
theorem reads_leaf {e:Ex} {ts:List Tk} (hn:e.nst=0) (h:∀d r,Po d (ts++r)=.ok e r):Reads_ e ts:=λ k d r hk hd ho=>by
 have:=lev_le e;exact ⟨λ _=>climb (L:=6) (n_ _) (by rw [Pf_six,h];rfl) (6-k) k (by omega) ho,λ h=>by omega⟩
theorem reads_sp:∀(e:Ex),e.ops->∀ts,Sp e ts->Reads_ e ts
 |.int n p,_,ts,h=>by
  obtain rfl:ts=[⟨3,[],n,p⟩]:=h;exact reads_leaf rfl (λ d r=>by rw [List.cons_append,List.nil_append,Po_cons];rfl)
 |.var s p,_,ts,h=>by
  obtain rfl:ts=[⟨1,s,0,p⟩]:=h
  exact reads_leaf rfl (λ d r=>by
   rw [List.cons_append,List.nil_append,Po_cons]
   simp [isSg])
 |.inn s p,_,ts,h=>by
  obtain ⟨a,b,c,rfl⟩:=h
  exact reads_leaf rfl (λ d r=>by
   simp only [List.cons_append,List.nil_append,Po_cons]
   simp [isSg,innP_cons,nameP_cons,shutP_cons])
 |.one op x p,hop,ts,h=>by
  obtain ⟨u,rfl,h⟩:=h;intro k d r hk hd ho
  have hr:=λ hd=>reads_part h (reads_sp x hop.2) 6 (d+1) r (n_ _) (λ hb=>by
   cases x with
   |both _ _ _=>cases hb
   |_=>exact n_ _) hd (λ j h1 h2=>by omega)
  have e2:Po d ((⟨4,[if op=14 then 45 else 33],0,p⟩::u)++r)=if d=20 then .bad 21 p else (Po (d+1) (u++r)).andThen λ x r'=>.ok (.one op x p) r':=by
   rw [List.cons_append,Po_cons];rcases hop.1 with rfl|rfl
   ·rfl
   ·rfl
  have hn:(Ex.one op x p).nst=1+((if x.isBoth=true then 1 else 0)+x.nst):=rfl;have hk6:k<=6:=hk;constructor
  ·intro hle;rw [hn] at hle;have h1:=(hr (by omega)).1 (by omega);refine climb (L:=6) (n_ _) ?_ (6-k) k (by omega) ho;rw [Pf_six,e2,if_neg (by omega),<-Pf_six,h1];rfl
  ·intro hgt;rw [hn] at hgt
   by_cases h20:d=20
   ·exact ⟨p,climb_bad (L:=6) (n_ _) (by rw [Pf_six,e2,if_pos h20]) (6-k) k (by omega)⟩
   ·obtain ⟨q,h1⟩:=(hr (by omega)).2 (by omega);refine ⟨q,climb_bad (L:=6) (n_ _) ?_ (6-k) k (by omega)⟩;rw [Pf_six,e2,if_neg h20,<-Pf_six,h1];rfl
 |.both op x y,hop,ts,h=>by
  obtain ⟨u,a,v,rfl,hu,hv⟩:=h;intro k d r hk hd ho;have hL:rowOf op<6:=hop.1;have hk:k<=rowOf op:=hk;have hx:=reads_part hu (reads_sp x hop.2.1) (rowOf op) d (⟨4,sgOf op,0,a⟩::(v++r)) (by omega) (λ hb=>by have:=of_decide_eq_false hb;omega) hd (λ j h1 h2=>by rw [opAt_sg hL h2,if_neg (by omega)]);have hy:=reads_part hv (reads_sp y hop.2.2) (rowOf op+1) d r (by omega) (λ hb=>by have:=of_decide_eq_false hb;omega) hd (λ j h1 h2=>ho j (by omega) h2)
  have e1:u++⟨4,sgOf op,0,a⟩::v++r=u++⟨4,sgOf op,0,a⟩::(v++r):=by simp
  have hn:(Ex.both op x y).nst=max ((if x.lev<rowOf op then 1 else 0)+x.nst) ((if y.lev<=rowOf op then 1 else 0)+y.nst):=rfl;simp only [decide_eq_true_eq] at hx hy
  have e3:Res (rowOf op) d x (⟨4,sgOf op,0,a⟩::(v++r))=(Pf (rowOf op+1) d (v++r)).andThen λ y r=>Pm (rowOf op) d (.both op x y) r:=by
   unfold Res;rw [if_neg (by omega),Pm_eq hL,opAt_sg hL hL,if_pos rfl,if_neg (op_ne hL),List.tail_cons]
  have hlev:(Ex.both op x y).lev=rowOf op:=rfl;constructor
  ·intro hle;rw [hn] at hle;have h1:=hx.1 (by omega);have h2:=hy.1 (by omega);rw [e1];refine climb (L:=rowOf op) (by omega) ?_ (rowOf op-k) k (by omega) ho;rw [h1,e3,h2,Res_stop (by omega) (λ h6=>ho _ (by omega) h6)];show Pm _ d _ r=_;unfold Res;rw [if_neg (by omega)]
  ·intro hgt;rw [hn] at hgt;rw [e1]
   by_cases hx0:d+((if x.lev<rowOf op then 1 else 0)+x.nst)<=20
   ·obtain ⟨q,h2⟩:=hy.2 (by omega);refine ⟨q,climb_bad (L:=rowOf op) (by omega) ?_ (rowOf op-k) k (by omega)⟩;rw [hx.1 hx0,e3,h2];rfl
   ·obtain ⟨q,h2⟩:=hx.2 (by omega);exact ⟨q,climb_bad (L:=rowOf op) (by omega) h2 (rowOf op-k) k (by omega)⟩
theorem scA_same:∀(f f' p:Nat) (acc:List Tk) (l:List UInt8),l.length<f->l.length<f'->scA f p acc l=scA f' p acc l
 |0,_,_,_,_,h,_=>by omega
 |_,0,_,_,_,_,h=>by omega
 |f+1,f' + 1,p,acc,l,h,h'=>by
  by_cases hm:l.drop (blK false l)=[]
  ·rw [scA_end hm,scA_end hm]
  ·by_cases he:tkE (l.drop (blK false l))=0
   ·have hp:=tkS_pos2 hm he;have hs:=tkS_le (l.drop (blK false l));rw [List.length_drop] at hs;rw [scA_step rfl hm he,scA_step rfl hm he];exact scA_same f f' _ _ _ (by rw [List.length_drop,List.length_drop];omega) (by rw [List.length_drop,List.length_drop];omega)
   ·rw [scA_bad rfl hm he,scA_bad rfl hm he]
def scT (p:Nat) (acc:List Tk) (l:List UInt8):List Tk×Int×Int:=scA (l.length+1) p acc l
theorem scF_T {l:List UInt8} (h:l.length<=16384):scF l=scT 0 [] l:=by
 unfold scF scT;rw [if_neg (by omega)]
theorem scT_nil (p:Nat) (acc:List Tk):scT p acc []=(acc++[⟨5,[],0,(p:Int)⟩],0,0):=by
 unfold scT;rw [scA_end rfl];rfl
theorem scT_blank {c:UInt8} (hc:isBl c=true) (p:Nat) (acc:List Tk) (l:List UInt8):scT p acc (c::l)=scT (p+1) acc l:=by
 have h47:=isBl_ne hc
 have e:blK false (c::l)=blK false l+1:=by
  rw [show blK false (c::l)=if c=47/\l.head?=some 47 then blK true l+1 else if isBl c=true then blK false l+1 else 0 from rfl,if_neg (λ h=>h47 h.1),if_pos hc]
 have h1:scA (l.length+1+1) p acc (c::l)=scA (l.length+1+1) (p+1+blK false l) acc (l.drop (blK false l)):=by
  rw [scA_skip _ p,e,List.drop_succ_cons]
  congr 1
  omega
 have h2:=scA_skip l.length (p+1) acc l;show scA (l.length+1+1) p acc (c::l)=scA (l.length+1) (p+1) acc l;rw [h1,h2];exact scA_same _ _ _ _ _ (by rw [List.length_drop];omega) (by rw [List.length_drop];omega)
theorem scT_tok {l:List UInt8} (h0:l≠[]) (hb:blK false l=0) (he:tkE l=0) (p:Nat) (acc:List Tk):scT p acc l=scT (p+tkS l) (acc++[tkT l p]) (l.drop (tkS l)):=by
 have hd:l.drop (blK false l)=l:=by rw [hb];rfl
 have hp:=tkS_pos2 h0 he;unfold scT;rw [scA_step hd h0 he,hb];simp only [Nat.add_zero];exact scA_same _ _ _ _ _ (by rw [List.length_drop];have:0<l.length:=List.length_pos_iff.2 h0;omega) (by omega)
def NW (t:List UInt8):Prop:=∀c r,t=c::r->isWd c=false
theorem wdK_run:∀(d t:List UInt8),(∀c∈d,isWd c=true)->NW t->wdK (d++t)=d.length
 |[],t,_,ht=>by
  cases t with
  |nil=>rfl
  |cons c r =>
   show wdK (c::r)=0;unfold wdK;rw [ht c r rfl];rfl
 |c::d,t,hd,ht=>by
  have ih:=wdK_run d t (λ c hc=>hd c (by simp [hc])) ht;rw [List.cons_append];unfold wdK;rw [if_pos (hd c (by simp)),ih];rfl
theorem scT_run {c:UInt8} {u t:List UInt8} (hc:isLt c=true) (hu:wdK (c::u)=(c::u).length) (hl:(c::u).length<=24) (ht:NW t) (p:Nat) (acc:List Tk) :
  scT p acc (c::u++t)=scT (p+(c::u).length) (acc++[⟨if isKw (c::u)=true then 2 else 1,c::u,0,(p:Int)⟩]) t:=by
 have hw:wdK (c::u++t)=(c::u).length:=wdK_run _ _ (isWd_all hu) ht;rw [List.cons_append] at hw ⊢
 have hE:tkE (c::(u++t))=0:=by rw [tkE_cons,if_pos hc,hw,if_neg (by omega)]
 have hS:tkS (c::(u++t))=(c::u).length:=by rw [tkS_cons,if_pos hc,hw]
 have hk:(c::(u++t)).take (c::u).length=c::u:=by rw [<-List.cons_append,List.take_left'];rfl
 have hd:(c::(u++t)).drop (c::u).length=t:=by rw [<-List.cons_append,List.drop_left'];rfl
 rw [scT_tok (by simp) (blK_lt hc) hE,hS,hd,tkT_cons,if_pos hc,hw,hk]
theorem scT_name {s t:List UInt8} (h:isNm s=true) (ht:NW t) (p:Nat) (acc:List Tk):scT p acc (s++t)=scT (p+s.length) (acc++[⟨1,s,0,(p:Int)⟩]) t:=by
 obtain ⟨c,r,rfl,hc,h1,h2,h3⟩:=isNm_parts h;rw [scT_run hc h1 h2 ht,h3];rfl
theorem dg_not_lt {c:UInt8} (h:isDg c=true):isLt c=false:=by
 cases e:isLt c with
 |false=>rfl
 |true=>rw [lt_not_dg e] at h;cases h
theorem blK_dg {c:UInt8} {r:List UInt8} (h:isDg c=true):blK false (c::r)=0:=by
 have h1:=isDg_iff.1 h
 have h47:c≠47:=by rintro rfl;exact absurd h (by decide)
 have hb:isBl c=false:=by
  cases e:isBl c with
  |false=>rfl
  |true =>
   simp only [isBl,Bool.or_eq_true,decide_eq_true_eq] at e
   rcases e with ((rfl|rfl)|rfl)|rfl <;> exact absurd h (by decide)
 rw [show blK false (c::r)=if c=47/\r.head?=some 47 then blK true r+1 else if isBl c=true then blK false r+1 else 0 from rfl,if_neg (λ e=>h47 e.1),if_neg (by rw [hb];decide)]
theorem scT_int {n:Int} (h0:0<=n) (h1:n<=9223372036854775807) {t:List UInt8} (ht:NW t) (p:Nat) (acc:List Tk) :
  scT p acc (Lib.itoa n++t)=scT (p+(Lib.itoa n).length) (acc++[⟨3,[],n,(p:Int)⟩]) t:=by
 have ei:Lib.itoa n=Lib.decDigits n.toNat:=by unfold Lib.itoa;rw [if_neg (by omega)]
 rw [ei];have hd:=dec_digits n.toNat;have hpos:=dec_pos n.toNat
 obtain ⟨g1,g2,g3⟩:=dec_parse n.toNat t (by omega) (λ c r e=>by
  have:=ht c r e;simp only [isWd,Bool.or_eq_false_iff] at this
  exact this.2)
 have hK:dgK (Lib.decDigits n.toNat++t)=(Lib.decDigits n.toNat).length:=by
  unfold pN at g3;rw [if_pos g1] at g3;omega
 have hW:wdK (Lib.decDigits n.toNat++t)=(Lib.decDigits n.toNat).length:=wdK_run _ _ (λ c hc=>by simp [isWd,hd c hc]) ht;generalize Lib.decDigits n.toNat=D at *
 match D,hpos with
 |c::u,_ =>
  have hc:=hd c (by simp);rw [List.cons_append] at g1 g2 hK hW ⊢;have hl:=dg_not_lt hc
  have hE:tkE (c::(u++t))=0:=by rw [tkE_cons,if_neg (by rw [hl];decide),if_pos hc,if_pos g1,hK,hW,if_neg (by omega)]
  have hS:tkS (c::(u++t))=(c::u).length:=by rw [tkS_cons,if_neg (by rw [hl];decide),if_pos hc,hK]
  have hdr:(c::(u++t)).drop (c::u).length=t:=by rw [<-List.cons_append,List.drop_left'];rfl
  rw [scT_tok (by simp) (blK_dg hc) hE,hS,hdr,tkT_cons,if_neg (by rw [hl];decide),if_pos hc,g2]
  congr 5
  omega
theorem scT_sign {c:UInt8} {r:List UInt8} (hl:isLt c=false) (hd:isDg c=false) (hb:blK false (c::r)=0) {n:Nat} (hn:sgn (c::r)=n) (hn0:n≠0) (p:Nat) (acc:List Tk) :
  scT p acc (c::r)=scT (p+n) (acc++[⟨4,(c::r).take n,0,(p:Int)⟩]) ((c::r).drop n):=by
 have hE:tkE (c::r)=0:=by rw [tkE_cons,if_neg (by rw [hl];decide),if_neg (by rw [hd];decide),hn,if_neg hn0]
 have hS:tkS (c::r)=n:=by rw [tkS_cons,if_neg (by rw [hl];decide),if_neg (by rw [hd];decide),hn]
 rw [scT_tok (by simp) hb hE,hS,tkT_cons,if_neg (by rw [hl];decide),if_neg (by rw [hd];decide),hn]
theorem scT_open (p:Nat) (acc:List Tk) (t:List UInt8):scT p acc (40::t)=scT (p+1) (acc++[⟨4,[40],0,(p:Int)⟩]) t:=by
 have hs:sgn (40::t)=1:=by cases t <;> rfl
 rw [scT_sign (n:=1) (by decide) (by decide) (by rfl) hs (by decide)];rfl
theorem scT_shut (p:Nat) (acc:List Tk) (t:List UInt8):scT p acc (41::t)=scT (p+1) (acc++[⟨4,[41],0,(p:Int)⟩]) t:=by
 have hs:sgn (41::t)=1:=by cases t <;> rfl
 rw [scT_sign (n:=1) (by decide) (by decide) (by rfl) hs (by decide)];rfl
theorem scT_op {op:Int} (h:rowOf op<6) (p:Nat) (acc:List Tk) (t:List UInt8) :
  scT p acc (32::(sgOf op++32::t))=scT (p+((sgOf op).length+2)) (acc++[⟨4,sgOf op,0,((p+1:Nat):Int)⟩]) t:=by
 rw [scT_blank (by decide)]
 have e:∀c u,sgOf op=c::u->isLt c=false->isDg c=false->blK false (c::(u++32::t))=0->sgn (c::(u++32::t))=(c::u).length ->
   scT (p+1) acc (sgOf op++32::t)=scT (p+((sgOf op).length+2)) (acc++[⟨4,sgOf op,0,((p+1:Nat):Int)⟩]) t:=λ c u e h1 h2 h3 h4=>by
  rw [e,List.cons_append,scT_sign h1 h2 h3 h4 (by simp)]
  have e1:(c::(u++32::t)).take (c::u).length=c::u:=by rw [<-List.cons_append,List.take_left'];rfl
  have e2:(c::(u++32::t)).drop (c::u).length=32::t:=by rw [<-List.cons_append,List.drop_left'];rfl
  rw [e1,e2,scT_blank (by decide)]
  congr 1
  omega
 rcases row_cases h with rfl|rfl|rfl|rfl|rfl|rfl|rfl|rfl|rfl|rfl|rfl|rfl|rfl <;> exact e _ _ rfl (by decide) (by decide) (by rfl) (by rfl)
def Hd (t:List UInt8):Prop:=∃c r,t=c::r/\(isWd c=true∨c=45∨c=33∨c=40)
theorem scT_neg {t:List UInt8} (ht:Hd t) (p:Nat) (acc:List Tk):scT p acc (45::t)=scT (p+1) (acc++[⟨4,[45],0,(p:Int)⟩]) t:=by
 obtain ⟨c,r,rfl,hc⟩:=ht
 have h62:c≠62:=by
  rintro rfl
  rcases hc with h|h|h|h <;> exact absurd h (by decide)
 have hs:sgn (45::c::r)=1:=by
  unfold sgn
  have:twoS.contains ((45::c::r).take 2)=false:=by
   cases e:twoS.contains ((45::c::r).take 2) with
   |false=>rfl
   |true =>
    have hm:[45,c]∈twoS:=by simpa using e
    simp [twoS] at hm;exact absurd hm h62
  rw [if_neg (by rw [this];decide)];rfl
 rw [scT_sign (n:=1) (by decide) (by decide) (by rfl) hs (by decide)];rfl
theorem scT_not {t:List UInt8} (ht:Hd t) (p:Nat) (acc:List Tk):scT p acc (33::t)=scT (p+1) (acc++[⟨4,[33],0,(p:Int)⟩]) t:=by
 obtain ⟨c,r,rfl,hc⟩:=ht
 have h61:c≠61:=by
  rintro rfl
  rcases hc with h|h|h|h <;> exact absurd h (by decide)
 have hs:sgn (33::c::r)=1:=by
  unfold sgn
  have:twoS.contains ((33::c::r).take 2)=false:=by
   cases e:twoS.contains ((33::c::r).take 2) with
   |false=>rfl
   |true =>
    have hm:[33,c]∈twoS:=by simpa using e
    simp [twoS] at hm;exact absurd hm h61
  rw [if_neg (by rw [this];decide)];rfl
 rw [scT_sign (n:=1) (by decide) (by decide) (by rfl) hs (by decide)];rfl
def Ex.fine:Ex->Prop
 |.int n _=>0<=n/\n<=9223372036854775807
 |.var s _=>isNm s=true
 |.inn s _=>isNm s=true
 |.one op x _=>(op=14∨op=15)/\x.fine
 |.both op x y=>rowOf op<6/\x.fine/\y.fine
theorem Ex.fine.ops:∀{e:Ex},e.fine->e.ops
 |.int _ _,_=>trivial
 |.var _ _,_=>trivial
 |.inn _ _,_=>trivial
 |.one _ _ _,h=>⟨h.1,Ex.fine.ops h.2⟩
 |.both _ _ _,h=>⟨h.1,Ex.fine.ops h.2.1,Ex.fine.ops h.2.2⟩
def Ex.er:Ex->Ex
 |.int n _=>.int n 0
 |.var s _=>.var s 0
 |.inn s _=>.inn s 0
 |.one op x _=>.one op x.er 0
 |.both op x y=>.both op x.er y.er
theorem er_lev (e:Ex):e.er.lev=e.lev:=by cases e <;> rfl
theorem er_both (e:Ex):e.er.isBoth=e.isBoth:=by cases e <;> rfl
theorem er_nst:∀e:Ex,e.er.nst=e.nst
 |.int _ _=>rfl
 |.var _ _=>rfl
 |.inn _ _=>rfl
 |.one op x p=>by
  show 1+((if x.er.isBoth=true then 1 else 0)+x.er.nst)=1+((if x.isBoth=true then 1 else 0)+x.nst);rw [er_both,er_nst x]
 |.both op x y=>by
  show max ((if x.er.lev<rowOf op then 1 else 0)+x.er.nst) ((if y.er.lev<=rowOf op then 1 else 0)+y.er.nst)=max ((if x.lev<rowOf op then 1 else 0)+x.nst) ((if y.lev<=rowOf op then 1 else 0)+y.nst);rw [er_lev,er_lev,er_nst x,er_nst y]
theorem er_tx:∀e:Ex,e.er.tx=e.tx
 |.int _ _=>rfl
 |.var _ _=>rfl
 |.inn _ _=>rfl
 |.one op x p=>by
  show (if op=14 then (45:UInt8) else 33)::par x.er.isBoth x.er.tx=(if op=14 then (45:UInt8) else 33)::par x.isBoth x.tx;rw [er_both,er_tx x]
 |.both op x y=>by
  show par (decide (x.er.lev<rowOf op)) x.er.tx++32::(sgOf op++32::par (decide (y.er.lev<=rowOf op)) y.er.tx)=par (decide (x.lev<rowOf op)) x.tx++32::(sgOf op++32::par (decide (y.lev<=rowOf op)) y.tx)
  rw [er_lev,er_lev,er_tx x,er_tx y]
theorem er_fine:∀e:Ex,e.er.fine ↔ e.fine
 |.int _ _=>Iff.rfl
 |.var _ _=>Iff.rfl
 |.inn _ _=>Iff.rfl
 |.one op x p=>by
  show (op=14∨op=15)/\x.er.fine ↔ (op=14∨op=15)/\x.fine;rw [er_fine x]
 |.both op x y=>by
  show rowOf op<6/\x.er.fine/\y.er.fine ↔ rowOf op<6/\x.fine/\y.fine;rw [er_fine x,er_fine y]
theorem er_eq {e e':Ex} (h:e'.er=e.er):e'.lev=e.lev/\e'.isBoth=e.isBoth/\e'.nst=e.nst/\e'.tx=e.tx/\(e'.fine ↔ e.fine) :=
 ⟨by rw [<-er_lev e',h,er_lev],by rw [<-er_both e',h,er_both],by rw [<-er_nst e',h,er_nst],by rw [<-er_tx e',h,er_tx],by rw [<-er_fine e',h,er_fine]⟩
theorem Hd.app {u:List UInt8} (h:Hd u) (t:List UInt8):Hd (u++t):=by
 obtain ⟨c,r,rfl,hc⟩:=h;exact ⟨c,r++t,rfl,hc⟩
theorem par_Hd (b:Bool) {s:List UInt8} (h:Hd s):Hd (par b s):=by
 cases b with
 |false=>exact h
 |true=>exact ⟨40,_,rfl,.inr (.inr (.inr rfl))⟩
theorem nm_Hd {s:List UInt8} (h:isNm s=true):Hd s:=by
 obtain ⟨c,r,rfl,hc,_⟩:=isNm_parts h;exact ⟨c,r,rfl,.inl (by simp [isWd,hc])⟩
theorem tx_Hd:∀e:Ex,e.fine->Hd e.tx
 |.int n _,h=>by
  show Hd (Lib.itoa n)
  have ei:Lib.itoa n=Lib.decDigits n.toNat:=by unfold Lib.itoa;rw [if_neg (by have:=h.1;omega)]
  rw [ei];have hd:=dec_digits n.toNat;have hpos:=dec_pos n.toNat;generalize Lib.decDigits n.toNat=D at *
  match D,hpos with
  |c::u,_=>exact ⟨c,u,rfl,.inl (by simp [isWd,hd c (by simp)])⟩
 |.var s _,h=>nm_Hd h
 |.inn s _,_=>⟨105,_,rfl,.inl (by decide)⟩
 |.one op x _,h=>by
  rcases h.1 with rfl|rfl
  ·exact ⟨45,_,rfl,.inr (.inl rfl)⟩
  ·exact ⟨33,_,rfl,.inr (.inr (.inl rfl))⟩
 |.both op x y,h=>(par_Hd _ (tx_Hd x h.2.1)).app _
theorem sc_part {x:Ex} (ih:∀t,NW t->∀p acc,∃ts e',Sp e' ts/\e'.er=x.er/\scT p acc (x.tx++t)=scT (p+x.tx.length) (acc++ts) t) (b:Bool) (t:List UInt8) (ht:NW t) (p:Nat) (acc:List Tk) :
  ∃u x',SpP b (Sp x') u/\x'.er=x.er/\scT p acc (par b x.tx++t)=scT (p+(par b x.tx).length) (acc++u) t:=by
 cases b with
 |false =>
  obtain ⟨ts,e',h1,h2,h3⟩:=ih t ht p acc;exact ⟨ts,e',h1,h2,h3⟩
 |true =>
  obtain ⟨ts,e',h1,h2,h3⟩:=ih (41::t) (λ c r e=>by injection e with e _;subst e;decide) (p+1) (acc++[⟨4,[40],0,(p:Int)⟩]);refine ⟨⟨4,[40],0,(p:Int)⟩::(ts++[⟨4,[41],0,((p+1+x.tx.length:Nat):Int)⟩]),e',⟨_,_,ts,rfl,h1⟩,h2,?_⟩
  have e1:par true x.tx++t=40::(x.tx++41::t):=by simp [par]
  have e2:(par true x.tx).length=x.tx.length+2:=by simp [par]
  rw [e1,e2,scT_open,h3,scT_shut]
  congr 1
  ·omega
  ·simp
theorem sc_tx:∀e:Ex,e.fine->∀t,NW t->∀p acc,∃ts e',Sp e' ts/\e'.er=e.er/\scT p acc (e.tx++t)=scT (p+e.tx.length) (acc++ts) t
 |.int n _,h,t,ht,p,acc=>⟨_,.int n p,rfl,rfl,scT_int h.1 h.2 ht p acc⟩
 |.var s _,h,t,ht,p,acc=>⟨_,.var s p,rfl,rfl,scT_name h ht p acc⟩
 |.inn s _,h,t,ht,p,acc=>by
  refine ⟨_,.inn s p,⟨((p+2:Nat):Int),((p+3:Nat):Int),((p+3+s.length:Nat):Int),rfl⟩,rfl,?_⟩;show scT p acc (105::110::40::(s++[41])++t)=_
  have e1:105::110::40::(s++[41])++t=(105::[110])++(40::(s++41::t)):=by simp
  have e2:(Ex.inn s ‹Int›).tx.length=s.length+4:=by simp [Ex.tx]
  rw [e1,scT_run (by decide) (by decide) (by decide) (λ c r e=>by injection e with e _;subst e;decide),scT_open,scT_name h (λ c r e=>by injection e with e _;subst e;decide),scT_shut,e2]
  have e3:isKw [105,110]=true:=by decide
  rw [e3]
  congr 1
  ·show p+2+1+s.length+1=p+(s.length+4);omega
  ·simp only [a_,List.cons_append,List.nil_append];rfl
 |.one op x _,h,t,ht,p,acc=>by
  obtain ⟨u,x',h1,h2,h3⟩:=sc_part (sc_tx x h.2) x.isBoth t ht (p+1) (acc++[⟨4,[if op=14 then 45 else 33],0,(p:Int)⟩]);have hx:=er_eq h2;refine ⟨_,.one op x' p,⟨u,rfl,by rw [hx.2.1];exact h1⟩,by show Ex.one op x'.er 0=Ex.one op x.er 0;rw [h2],?_⟩;have hh:Hd (par x.isBoth x.tx++t):=(par_Hd _ (tx_Hd x h.2)).app t;have e2:(Ex.one op x ‹Int›).tx.length=(par x.isBoth x.tx).length+1:=rfl
  have e4:scT p acc ((Ex.one op x ‹Int›).tx++t)=scT (p+1) (acc++[⟨4,[if op=14 then 45 else 33],0,(p:Int)⟩]) (par x.isBoth x.tx++t):=by
   rcases h.1 with rfl|rfl
   ·exact scT_neg hh p acc
   ·exact scT_not hh p acc
  rw [e4,h3,e2,a_]
  congr 1
  omega
 |.both op x y,h,t,ht,p,acc=>by
  obtain ⟨u,x',a1,a2,a3⟩:=sc_part (sc_tx x h.2.1) (decide (x.lev<rowOf op)) (32::(sgOf op++32::(par (decide (y.lev<=rowOf op)) y.tx++t))) (λ c r e=>by injection e with e _;subst e;decide) p acc;obtain ⟨v,y',b1,b2,b3⟩:=sc_part (sc_tx y h.2.2) (decide (y.lev<=rowOf op)) t ht (p+(par (decide (x.lev<rowOf op)) x.tx).length+((sgOf op).length+2)) (acc++u++[⟨4,sgOf op,0,((p+(par (decide (x.lev<rowOf op)) x.tx).length+1:Nat):Int)⟩]);have hx:=er_eq a2;have hy:=er_eq b2;refine ⟨_,.both op x' y',⟨u,((p+(par (decide (x.lev<rowOf op)) x.tx).length+1:Nat):Int),v,rfl,by rw [hx.1];exact a1,by rw [hy.1];exact b1⟩,by show Ex.both op x'.er y'.er=Ex.both op x.er y.er;rw [a2,b2],?_⟩
  have e1:(Ex.both op x y).tx++t=par (decide (x.lev<rowOf op)) x.tx++32::(sgOf op++32::(par (decide (y.lev<=rowOf op)) y.tx++t)):=by
   show (par (decide (x.lev<rowOf op)) x.tx++32::(sgOf op++32::par (decide (y.lev<=rowOf op)) y.tx))++t=_;simp
  have e2:(Ex.both op x y).tx.length=(par (decide (x.lev<rowOf op)) x.tx).length+((sgOf op).length+2)+(par (decide (y.lev<=rowOf op)) y.tx).length:=by
   show (par (decide (x.lev<rowOf op)) x.tx++32::(sgOf op++32::par (decide (y.lev<=rowOf op)) y.tx)).length=_;simp;omega
  rw [e1,a3,scT_op h.1,b3,e2]
  have e5:acc++u++[⟨4,sgOf op,0,((p+(par (decide (x.lev<rowOf op)) x.tx).length+1:Nat):Int)⟩]++v=acc++(u++⟨4,sgOf op,0,((p+(par (decide (x.lev<rowOf op)) x.tx).length+1:Nat):Int)⟩::v):=by simp
  rw [e5]
  congr 1
  omega
def Lex (t:Tk):Prop:=(t.kind=1->isNm t.text=true)/\(t.kind=3->0<=t.num/\t.num<=9223372036854775807)
def Tk.sz (t:Tk):Nat:=if t.kind=3 then (Lib.itoa t.num).length else t.text.length
def szs:List Tk->Nat
 |[]=>0
 |t::r=>t.sz+szs r
theorem row_of_op {k:Nat} {t:Tk} {r:List Tk} (h:¬opAt k (t::r)=0):rowOf (opAt k (t::r))=k/\k<6/\t.kind=4/\t.text=sgOf (opAt k (t::r)):=by
 rw [opAt_cons] at h ⊢
 cases e:(rowOps k).find? (λ o=>isSg t o.1) with
 |none=>rw [e] at h;exact absurd rfl h
 |some o =>
  have h1:=List.find?_some e;have h2:=List.mem_of_find?_eq_some e;simp only [isSg,Bool.and_eq_true,decide_eq_true_eq] at h1;simp only
  match k,h2 with
  |0,h2=>simp [rowOps] at h2;subst h2;exact ⟨rfl,by decide,h1.1,h1.2⟩
  |1,h2=>simp [rowOps] at h2;subst h2;exact ⟨rfl,by decide,h1.1,h1.2⟩
  |2,h2=>simp [rowOps] at h2;rcases h2 with rfl|rfl <;> exact ⟨rfl,by decide,h1.1,h1.2⟩
  |3,h2=>simp [rowOps] at h2;rcases h2 with rfl|rfl|rfl|rfl <;> exact ⟨rfl,by decide,h1.1,h1.2⟩
  |4,h2=>simp [rowOps] at h2;rcases h2 with rfl|rfl <;> exact ⟨rfl,by decide,h1.1,h1.2⟩
  |5,h2=>simp [rowOps] at h2;rcases h2 with rfl|rfl|rfl <;> exact ⟨rfl,by decide,h1.1,h1.2⟩
  |k+6,h2=>simp [rowOps] at h2
theorem sg_len {op:Int} (h:rowOf op<6):1<=(sgOf op).length/\(sgOf op).length<=2:=by
 rcases row_cases h with rfl|rfl|rfl|rfl|rfl|rfl|rfl|rfl|rfl|rfl|rfl|rfl|rfl <;> decide
theorem isSg_sz {t:Tk} {s:List UInt8} (h:isSg t s=true):t.sz=s.length:=by
 simp only [isSg,Bool.and_eq_true,decide_eq_true_eq] at h;unfold Tk.sz;rw [if_neg (by rw [h.1];decide),h.2]
theorem par_len (b:Bool) (s:List UInt8):(par b s).length<=s.length+2:=by
 cases b
 ·exact Nat.le_add_right _ _
 ·simp [par]
structure Good (k d:Nat) (e:Ex) (c w w':Nat):Prop where
 fine:e.fine
 deep:d+((if e.lev<k then 1 else 0)+e.nst)<=20
 long:e.tx.length+8*w'<=c+8*w
theorem p_good:∀f,
  (∀k d ts e r,k<=6->d<=20->(∀t∈ts,Lex t)->pFrom f k d ts=.ok e r->Good k d e 0 (szs ts) (szs r)/\(∀t∈r,Lex t)) /\
  (∀k d x ts e r,k<6->d<=20->(∀t∈ts,Lex t)->x.fine->d+((if x.lev<k then 1 else 0)+x.nst)<=20->pMore f k d x ts=.ok e r->Good k d e x.tx.length (szs ts) (szs r)/\(∀t∈r,Lex t)) /\
  (∀d ts e r,d<=20->(∀t∈ts,Lex t)->pOne f d ts=.ok e r->Good 6 d e 0 (szs ts) (szs r)/\(∀t∈r,Lex t))
 |0=>⟨λ _ _ _ _ _ _ _ _ h=>by simp [pFrom] at h,λ _ _ _ _ _ _ _ _ _ _ _ h=>by simp [pMore] at h,λ _ _ _ _ _ _ h=>by simp [pOne] at h⟩
 |f+1=>by
  obtain ⟨h1,h2,h3⟩:=p_good f;refine ⟨λ k d ts e r hk hd ht h=>?_,λ k d x ts e r hk hd ht hx hxd h=>?_,λ d ts e r hd ht h=>?_⟩
  ·rw [pFrom_succ] at h
   split at h
   ·rename_i h6;subst h6;exact h3 _ _ _ _ hd ht h
   ·obtain ⟨y,u,e1,h⟩:=PR.andThen_ok h;obtain ⟨g1,ht1⟩:=h1 _ _ _ _ _ (by omega) hd ht e1
    obtain ⟨g2,ht2⟩:=h2 _ _ _ _ _ _ (by omega) hd ht1 g1.fine (by
     have:=g1.deep
     split <;> split at this <;> omega) h
    exact ⟨⟨g2.fine,g2.deep,by have:=g1.long;have:=g2.long;omega⟩,ht2⟩
  ·rw [pMore_succ] at h
   split at h
   ·injection h with e1 e2;subst e1 e2;exact ⟨⟨hx,hxd,by omega⟩,ht⟩
   ·rename_i h0;obtain ⟨t,ts,rfl⟩:=opAt_some h0;obtain ⟨hrow,_,hk4,htx⟩:=row_of_op h0;rw [List.tail_cons] at h;obtain ⟨y,u,e1,h⟩:=PR.andThen_ok h;obtain ⟨g1,ht1⟩:=h1 _ _ _ _ _ (by omega) hd (λ t ht'=>ht t (by simp [ht'])) e1;generalize opAt k (t::ts)=op at *
    have hr6:rowOf op<6:=by omega
    obtain ⟨g2,ht2⟩:=h2 k d (.both op x y) u e r hk hd ht1 ⟨hr6,hx,g1.fine⟩ (by
     show d+((if rowOf op<k then 1 else 0)+max ((if x.lev<rowOf op then 1 else 0)+x.nst) ((if y.lev<=rowOf op then 1 else 0)+y.nst))<=20;have hg:=g1.deep;rw [hrow,if_neg (Nat.lt_irrefl _)]
     have e5:(if y.lev<=k then 1 else 0)=(if y.lev<k+1 then 1 else 0):=by
      split <;> split <;> omega
     rw [e5]
     omega) h
    refine ⟨⟨g2.fine,g2.deep,?_⟩,ht2⟩;have hl:=g2.long;have hg:=g1.long;have hsg:=sg_len hr6
    have hsz:t.sz=(sgOf op).length:=by
     unfold Tk.sz;rw [if_neg (by rw [hk4];decide),htx]
    have e6:(Ex.both op x y).tx.length<=x.tx.length+y.tx.length+4+2+(sgOf op).length:=by
     show (par (decide (x.lev<rowOf op)) x.tx++32::(sgOf op++32::par (decide (y.lev<=rowOf op)) y.tx)).length<=_;have p1:=par_len (decide (x.lev<rowOf op)) x.tx;have p2:=par_len (decide (y.lev<=rowOf op)) y.tx;simp only [List.length_append,List.length_cons];omega
    show e.tx.length+8*szs r<=x.tx.length+8*(t.sz+szs ts);omega
  ·cases ts with
   |nil=>rw [pOne_nil] at h;cases h
   |cons t ts =>
    have htt:∀u∈ts,Lex u:=λ u hu=>ht u (by simp [hu]);have hsz:szs (t::ts)=t.sz+szs ts:=rfl;rw [pOne_cons] at h
    split at h
    ·rename_i hs
     split at h
     ·cases h
     ·obtain ⟨z,v,e1,h⟩:=PR.andThen_ok h;injection h with e2 e3;subst e2 e3;obtain ⟨g1,ht1⟩:=h3 _ _ _ _ (by omega) htt e1
      have hz:t.sz=1:=by rcases hs with hs|hs <;> exact isSg_sz hs
      refine ⟨⟨⟨?_,g1.fine⟩,?_,?_⟩,ht1⟩
      ·split
       ·exact .inr rfl
       ·exact .inl rfl
      ·show d+((if 6<6 then 1 else 0)+(1+((if z.isBoth=true then 1 else 0)+z.nst)))<=20;have hg:=g1.deep
       have e5:(if z.isBoth=true then 1 else 0)<=(if z.lev<6 then 1 else 0):=by
        cases z with
        |both op a b =>
         have:rowOf op<6:=g1.fine.1;show 1<=(if rowOf op<6 then 1 else 0);rw [if_pos this];exact n_ _
        |_=>exact Nat.zero_le _
       simp only [Nat.lt_irrefl,if_false];omega
      ·have hg:=g1.long;have:=par_len z.isBoth z.tx;show (_::par z.isBoth z.tx).length+_<=_;rw [List.length_cons];omega
    ·split at h
     ·rename_i hs
      split at h
      ·cases h
      ·obtain ⟨z,v,e1,h⟩:=PR.andThen_ok h;obtain ⟨t',rfl,hs',rfl⟩:=shutP_some h;obtain ⟨g1,ht1⟩:=h1 _ _ _ _ _ (by omega) (by omega) htt e1;refine ⟨⟨g1.fine,?_,?_⟩,λ u hu=>ht1 u (by simp [hu])⟩
       ·have hg:=g1.deep
        split <;> simp at hg <;> omega
       ·have hg:=g1.long;have e2:szs (t'::r)=t'.sz+szs r:=rfl;have:=isSg_sz hs;have:=isSg_sz hs';simp at *;omega
     ·split at h
      ·rename_i h3';injection h with e1 e2;subst e1 e2;refine ⟨⟨(ht t (by simp)).2 h3',?_,?_⟩,htt⟩
       ·show d+((if 6<6 then 1 else 0)+0)<=20;simp;omega
       ·show (Lib.itoa t.num).length+_<=_
        have:t.sz=(Lib.itoa t.num).length:=by unfold Tk.sz;rw [if_pos h3']
        omega
      ·split at h
       ·rename_i h3' h1';injection h with e1 e2;subst e1 e2;refine ⟨⟨(ht t (by simp)).1 h1',?_,?_⟩,htt⟩
        ·show d+((if 6<6 then 1 else 0)+0)<=20;simp;omega
        ·show t.text.length+_<=_
         have:t.sz=t.text.length:=by unfold Tk.sz;rw [if_neg h3']
         omega
       ·split at h
        ·rename_i h3' h1' h2';obtain ⟨a,b,c,rfl,ha,hb,hc,rfl⟩:=innP_some h;have hbl:=htt b (by simp);refine ⟨⟨hbl.1 hb,?_,?_⟩,λ u hu=>htt u (by simp [hu])⟩
         ·show d+((if 6<6 then 1 else 0)+0)<=20;simp;omega
         ·show (105::110::40::(b.text++[41])).length+_<=_
          have z1:t.sz=2:=by unfold Tk.sz;rw [if_neg h3',h2'.2];rfl
          have z2:=isSg_sz ha
          have z3:b.sz=b.text.length:=by unfold Tk.sz;rw [if_neg (by rw [hb];decide)]
          have z4:=isSg_sz hc;have e2:szs (a::b::c::r)=a.sz+(b.sz+(c.sz+szs r)):=rfl;simp at *;omega
        ·exact absurd h wrongAt_not
theorem dvalF_lt:∀(l:List UInt8) (n:Nat),(∀c∈l,isDg c=true)->dvalF n l<(n+1)*10 ^ l.length
 |[],n,_=>by simp [dvalF]
 |c::r,n,h=>by
  have h1:=isDg_iff.1 (h c (by simp));have ih:=dvalF_lt r (10*n+(c.toNat-48)) (λ c hc=>h c (by simp [hc]));have e:dvalF n (c::r)=dvalF (10*n+(c.toNat-48)) r:=rfl;rw [e,List.length_cons,Nat.pow_succ];refine Nat.lt_of_lt_of_le ih ?_
  have:10*n+(c.toNat-48)+1<=(n+1)*10:=by omega
  calc (10*n+(c.toNat-48)+1)*10 ^ r.length<=((n+1)*10)*10 ^ r.length:=Nat.mul_le_mul_right _ this
   _=(n+1)*(10 ^ r.length*10):=by rw [Nat.mul_assoc,Nat.mul_comm 10]
theorem pE_zero {m:List UInt8} (h:pE m=0):0<dgK m/\dval (m.take (dgK m))<=9223372036854775807:=by
 unfold pE at h
 split at h
 ·cases h
 ·split at h
  ·cases h
  ·rename_i h1
   split at h
   ·rename_i h2;exact ⟨by omega,h2⟩
   ·cases h
theorem tk_lex {c:UInt8} {r:List UInt8} (h:tkE (c::r)=0) (q:Int):Lex (tkT (c::r) q)/\(tkT (c::r) q).sz<=tkS (c::r):=by
 rw [tkT_cons,tkS_cons];rw [tkE_cons] at h
 by_cases hc:isLt c=true
 ·rw [if_pos hc] at h ⊢;rw [if_pos hc];have hw:=wdK_le (c::r)
  have htl:((c::r).take (wdK (c::r))).length=wdK (c::r):=by rw [List.length_take];omega
  have hp:0<wdK (c::r):=wdK_pos (by simp [isWd,hc])
  have h24:wdK (c::r)<=24:=by
   split at h
   ·cases h
   ·omega
  refine ⟨⟨λ hk=>?_,λ hk=>?_⟩,?_⟩
  ·have hkw:isKw ((c::r).take (wdK (c::r)))=false:=by
    cases e:isKw ((c::r).take (wdK (c::r))) with
    |false=>rfl
    |true =>
     simp only [e,if_true] at hk;cases hk
   obtain ⟨n,hn⟩:∃n,wdK (c::r)=n+1:=⟨wdK (c::r)-1,by omega⟩
   have e1:(c::r).take (wdK (c::r))=c::r.take n:=by rw [hn];rfl
   have hall:∀x∈(c::r).take (wdK (c::r)),isWd x=true:=by
    intro x hx;obtain ⟨i,hi,rfl⟩:=List.getElem_of_mem hx;rw [List.getElem_take];rw [htl] at hi
    cases e:isWd ((c::r)[i]'(by omega)) with
    |true=>rfl
    |false =>
     have:=wdK_no (c::r) i (by omega) (by omega) e;omega
   show isNm ((c::r).take (wdK (c::r)))=true;rw [e1] at hkw htl hall ⊢;exact isNm_of hc (wdK_all hall) (by omega) hkw
  ·simp only at hk
   split at hk <;> cases hk
  ·unfold Tk.sz;rw [if_neg (by show ¬(if _ then (2:Int) else 1)=3;split <;> decide)];show ((c::r).take (wdK (c::r))).length<=_;omega
 ·rw [if_neg hc] at h ⊢;rw [if_neg hc]
  by_cases hd:isDg c=true
  ·rw [if_pos hd] at h ⊢;rw [if_pos hd]
   have hE:pE (c::r)=0:=by
    by_cases hE:pE (c::r)=0
    ·exact hE
    ·rw [if_neg hE] at h;exact absurd h hE
   obtain ⟨hk,hv⟩:=pE_zero hE
   have hV:pV (c::r)=(dval ((c::r).take (dgK (c::r))):Int):=by unfold pV;rw [if_pos hE]
   refine ⟨⟨λ hk=>(by cases hk),λ _=>?_⟩,?_⟩
   ·show 0<=pV (c::r)/\pV (c::r)<=9223372036854775807;rw [hV];omega
   ·show (Lib.itoa (pV (c::r))).length<=_;rw [hV]
    have ei:Lib.itoa ((dval ((c::r).take (dgK (c::r))):Nat):Int)=Lib.decDigits (dval ((c::r).take (dgK (c::r)))):=by
     unfold Lib.itoa;rw [if_neg (by omega),Int.toNat_natCast]
    rw [ei];have hlt:=dvalF_lt ((c::r).take (dgK (c::r))) 0 (dgK_take _);rw [List.length_take,Nat.min_eq_left (dgK_le _),Nat.zero_add,Nat.one_mul] at hlt
    obtain ⟨n,hn⟩:∃n,dgK (c::r)=n+1:=⟨dgK (c::r)-1,by omega⟩
    rw [hn] at hlt ⊢;exact dec_len n hlt
  ·rw [if_neg hd] at h ⊢;rw [if_neg hd];refine ⟨⟨λ hk=>(by cases hk),λ hk=>(by cases hk)⟩,?_⟩;unfold Tk.sz;rw [if_neg (by show ¬(4:Int)=3;decide)];show ((c::r).take (sgn (c::r))).length<=_;rw [List.length_take];omega
theorem szs_app:∀a b:List Tk,szs (a++b)=szs a+szs b
 |[],b=>by simp [szs]
 |t::a,b=>by
  show t.sz+szs (a++b)=t.sz+szs a+szs b;rw [szs_app a b];omega
theorem scA_lex:∀(f p:Nat) (acc:List Tk) (l:List UInt8),(∀t∈acc,Lex t)->(∀t∈(scA f p acc l).1,Lex t)/\szs (scA f p acc l).1<=szs acc+l.length
 |0,_,_,_,_=>⟨λ t ht=>by simp [scA] at ht,Nat.zero_le _⟩
 |f+1,p,acc,l,ha=>by
  by_cases hm:l.drop (blK false l)=[]
  ·rw [scA_end hm];refine ⟨λ t ht=>?_,?_⟩
   ·rcases List.mem_append.1 ht with ht|ht
    ·exact ha t ht
    ·rw [List.mem_singleton.1 ht];exact ⟨λ h=>(by cases h),λ h=>(by cases h)⟩
   ·show szs (acc++[_])<=_;rw [szs_app];exact Nat.add_le_add_left (Nat.zero_le _) _
  ·by_cases he:tkE (l.drop (blK false l))=0
   ·rw [scA_step rfl hm he]
    obtain ⟨m,hmm⟩:∃m,l.drop (blK false l)=m:=⟨_,rfl⟩
    have hml:m.length<=l.length:=by rw [<-hmm,List.length_drop];omega
    rw [hmm] at hm he ⊢
    match m,hm with
    |c::r,_ =>
     obtain ⟨h1,h2⟩:=tk_lex he ((p+blK false l:Nat):Int);have hs:=tkS_le (c::r)
     have ih:=scA_lex f (p+blK false l+tkS (c::r)) (acc++[tkT (c::r) ((p+blK false l:Nat):Int)]) ((c::r).drop (tkS (c::r))) (λ t ht=>by
      rcases List.mem_append.1 ht with ht|ht
      ·exact ha t ht
      ·rw [List.mem_singleton.1 ht];exact h1)
     refine ⟨ih.1,Nat.le_trans ih.2 ?_⟩;rw [szs_app,List.length_drop];show szs acc+((tkT (c::r) _).sz+0)+_<=_;omega
   ·rw [scA_bad rfl hm he];exact ⟨λ t ht=>(by cases ht),Nat.zero_le _⟩
theorem scF_lex (l:List UInt8):(∀t∈(scF l).1,Lex t)/\szs (scF l).1<=l.length:=by
 unfold scF
 split
 ·exact ⟨λ t ht=>(by cases ht),Nat.zero_le _⟩
 ·have:=scA_lex (l.length+1) 0 [] l (λ t ht=>by cases ht);simpa [szs] using this
def Tk.er (t:Tk):Tk:=⟨t.kind,t.text,t.num,0⟩
def PR.er:PR->PR
 |.out=>.out
 |.bad c _=>.bad c 0
 |.ok x r=>.ok x.er (r.map Tk.er)
def Stop (k:Nat) (r:List Tk):Prop:=∀j,k<=j->j<6->opAt j r=0
theorem Stop.mono {k k':Nat} {r:List Tk} (h:Stop k r) (hk:k<=k'):Stop k' r:=λ j h1 h2=>h j (by omega) h2
theorem Stop.head {k:Nat} {t:Tk} {u r r':List Tk} (h:Stop k (t::u++r)):Stop k (t::u++r'):=λ j h1 h2=>by
 have:=h j h1 h2;rw [List.cons_append] at this ⊢;rw [opAt_cons] at this ⊢;exact this
theorem scT_skip (p:Nat) (acc:List Tk) (l:List UInt8):scT p acc l=scT (p+blK false l) acc (l.drop (blK false l)):=by
 have hb:=blK_le false l;unfold scT;rw [scA_skip];exact scA_same _ _ _ _ _ (by rw [List.length_drop];omega) (by omega)
theorem scT_skip_to {p q:Nat} {acc:List Tk} {l m:List UInt8} {n:Nat} (h:blK false l=n+blK false m) (hm:l.drop n=m) (hq:p+n=q):scT p acc l=scT q acc m:=by
 rw [scT_skip p,scT_skip q,h,<-List.drop_drop,hm]
 congr 1
 omega
theorem tkT_at0 (m:List UInt8) (p:Int):(tkT m p).kind=(tkT m 0).kind/\(tkT m p).text=(tkT m 0).text/\(tkT m p).num=(tkT m 0).num:=by
 cases m with
 |nil=>exact ⟨rfl,rfl,rfl⟩
 |cons c r =>
  rw [tkT_cons,tkT_cons]
  split
  ·exact ⟨rfl,rfl,rfl⟩
  ·split <;> exact ⟨rfl,rfl,rfl⟩
theorem tkT_kind5 {m:List UInt8} (h:m≠[]) (q:Int):(tkT m q).kind≠5:=by
 cases m with
 |nil=>exact absurd rfl h
 |cons c r =>
  rw [tkT_cons]
  split
  ·show (if _ then (2:Int) else 1)≠5
   split <;> decide
  ·split
   ·exact (by decide:(3:Int)≠5)
   ·exact (by decide:(4:Int)≠5)
theorem scA_kinds:∀(f p:Nat) (acc:List Tk) (l:List UInt8),(∀z∈acc,z.kind≠5)->∀Y e,(scA f p acc l).1=Y++[e]->∀z∈Y,z.kind≠5
 |0,_,_,_,_,Y,e,h=>by simp [scA] at h
 |f+1,p,acc,l,ha,Y,e,h=>by
  by_cases hm:l.drop (blK false l)=[]
  ·rw [scA_end hm] at h;have:=List.append_inj' h rfl;rw [<-this.1];exact ha
  ·by_cases he:tkE (l.drop (blK false l))=0
   ·rw [scA_step rfl hm he] at h
    exact scA_kinds f _ _ _ (λ z hz=>by
     rcases List.mem_append.1 hz with hz|hz
     ·exact ha z hz
     ·rw [List.mem_singleton.1 hz];exact tkT_kind5 hm _) Y e h
   ·rw [scA_bad rfl hm he] at h;simp at h
theorem scF_kinds (l:List UInt8) {Y:List Tk} {e:Tk} (h:(scF l).1=Y++[e]):∀z∈Y,z.kind≠5:=by
 unfold scF at h
 split at h
 ·simp at h
 ·exact scA_kinds _ 0 [] l (λ z hz=>by cases hz) Y e h
theorem sc_next (t:List UInt8):∀(f p:Nat) (acc:List Tk) (l:List UInt8),l.length<f->(scA f p acc l).2.1=0 ->
  ∃Y:List Tk,scA f p acc l=(acc++Y++[⟨5,[],0,((p+l.length:Nat):Int)⟩],0,0) /\
   ∀p2 acc2,∃Y2:List Tk,Y2.map Tk.er=Y.map Tk.er/\scT p2 acc2 (l++10::t)=scT (p2+(l.length+1)) (acc2++Y2) t
 |0,_,_,_,h,_=>by omega
 |f+1,p,acc,l,h,h0=>by
  have hb:=blK_le false l
  by_cases hm:l.drop (blK false l)=[]
  ·have hbl:blK false l=l.length:=by
    have:=congrArg List.length hm;rw [List.length_drop,List.length_nil] at this;omega
   refine ⟨[],by rw [scA_end hm,hbl,List.append_nil],λ p2 acc2=>⟨[],rfl,?_⟩⟩
   have hb2:blK false (l++10::t)=(l.length+1)+blK false t:=by
    rw [(blK_app false l t).1 hbl];omega
   rw [List.append_nil];exact scT_skip_to hb2 (by rw [<-List.drop_drop,List.drop_left'];rfl;rfl) rfl
  ·have hbl:blK false l<l.length:=by
    rcases Nat.lt_or_ge (blK false l) l.length with h1|h1
    ·exact h1
    ·exact absurd (List.drop_of_length_le h1) hm
   have hb2:=(blK_app false l t).2 hbl;have hrest:=blK_rest false l
   obtain ⟨m,hmm⟩:∃m,l.drop (blK false l)=m:=⟨_,rfl⟩
   have hml:m.length=l.length-blK false l:=by rw [<-hmm,List.length_drop]
   have hd2:(l++10::t).drop (blK false l)=m++10::t:=by rw [List.drop_append_of_le_length hb,hmm]
   rw [hmm] at hm hrest
   by_cases he:tkE m=0
   ·have hs:=tkS_le m;have hp:=tkS_pos2 hm he;rw [scA_step hmm hm he] at h0 ⊢;obtain ⟨Y,h1,h2⟩:=sc_next t f _ _ _ (by rw [List.length_drop];omega) h0;refine ⟨tkT m ((p+blK false l:Nat):Int)::Y,?_,λ p2 acc2=>?_⟩
    ·rw [h1]
     have e1:p+blK false l+tkS m+(m.drop (tkS m)).length=p+l.length:=by rw [List.length_drop];omega
     rw [e1];simp
    ·obtain ⟨k1,k2,k3⟩:=tk_app hm t ((p2+blK false l:Nat):Int)
     have hbm:blK false (m++10::t)=0:=by
      have:=(blK_app false m t).2 (by rw [hrest];exact List.length_pos_iff.2 hm);rw [this,hrest]
     obtain ⟨Y2,g1,g2⟩:=h2 (p2+blK false l+tkS m) (acc2++[tkT m ((p2+blK false l:Nat):Int)]);refine ⟨tkT m ((p2+blK false l:Nat):Int)::Y2,?_,?_⟩
     ·rw [List.map_cons,List.map_cons,g1]
      congr 1
      rw [Tk.er,Tk.er];have q1:=tkT_at0 m ((p2+blK false l:Nat):Int);have q2:=tkT_at0 m ((p+blK false l:Nat):Int);rw [q1.1,q1.2.1,q1.2.2,q2.1,q2.2.1,q2.2.2]
     ·rw [scT_skip_to (m:=m++10::t) (n:=blK false l) (q:=p2+blK false l) (by rw [hb2,hbm];rfl) hd2 rfl,scT_tok (by simp) hbm (by rw [k1];exact he),k2,k3,List.drop_append_of_le_length hs,g2]
      have e1:p2+blK false l+tkS m+((m.drop (tkS m)).length+1)=p2+(l.length+1):=by rw [List.length_drop];omega
      rw [e1];simp
   ·rw [scA_bad hmm hm he] at h0;exact absurd h0 he
def ones (op:Int):Nat->Ex->Ex
 |0,x=>x
 |n+1,x=>.one op (ones op n x) 0
inductive GX where
 |mk (kind num:Int) (name:List UInt8) (op:Int) (subs:List GX) (p:Int)
def GX.kind:GX->Int|.mk k _ _ _ _ _=>k
def GX.num:GX->Int|.mk _ n _ _ _ _=>n
def GX.name:GX->List UInt8|.mk _ _ s _ _ _=>s
def GX.op:GX->Int|.mk _ _ _ o _ _=>o
def GX.subs:GX->List GX|.mk _ _ _ _ l _=>l
def GX.p:GX->Int|.mk _ _ _ _ _ p=>p
mutual
def GX.er:GX->GX
 |.mk k n s o l _=>.mk k n s o (GX.ers l) 0
def GX.ers:List GX->List GX
 |[]=>[]
 |x::l=>x.er::GX.ers l
end
mutual
def GX.eq:GX->GX->Bool
 |.mk k n s o l p,.mk k' n' s' o' l' p'=>k==k' && n==n' && s==s' && o==o' && GX.eqs l l' && p==p'
def GX.eqs:List GX->List GX->Bool
 |[],[]=>true
 |x::l,x'::l'=>GX.eq x x' && GX.eqs l l'
 |_,_=>false
end
def Ex.gx:Ex->GX
 |.int n p=>.mk 1 n [] 0 [] p
 |.var s p=>.mk 2 0 s 0 [] p
 |.inn s p=>.mk 3 0 s 0 [] p
 |.one op x p=>.mk 4 0 [] op [x.gx] p
 |.both op x y=>.mk 5 0 [] op [x.gx,y.gx] x.pos
theorem gx_p:∀x:Ex,x.gx.p=x.pos
 |.int _ _=>rfl
 |.var _ _=>rfl
 |.inn _ _=>rfl
 |.one _ _ _=>rfl
 |.both _ _ _=>rfl
theorem er_pos:∀x:Ex,x.er.pos=0
 |.int _ _=>rfl
 |.var _ _=>rfl
 |.inn _ _=>rfl
 |.one _ _ _=>rfl
 |.both _ x _=>er_pos x
theorem gx_er:∀x:Ex,x.gx.er=x.er.gx
 |.int _ _=>rfl
 |.var _ _=>rfl
 |.inn _ _=>rfl
 |.one op x p=>by simp only [Ex.gx,Ex.er,GX.er,GX.ers,gx_er x]
 |.both op x y=>by simp only [Ex.gx,Ex.er,GX.er,GX.ers,gx_er x,gx_er y,er_pos]
structure EV where
 kind:Int
 num:Int
 name:ByteArray
 op:Int
 A:Option Addr
 len:Nat
 cap:Nat
 p:Int
def EV.cells (v:EV):List Value:=[.int .i64 v.kind,.int .i64 v.num,.string v.name,.int .i64 v.op,.slice v.A v.len v.cap,.int .i64 v.p]
def EV.val (v:EV):Value:=.agg #[.int .i64 v.kind,.int .i64 v.num,.string v.name,.int .i64 v.op,.slice v.A v.len v.cap,.int .i64 v.p]
def EvAt (w:World) (g o:Nat) (v:EV):Prop :=
 w.cell? ⟨g,o,none⟩=some (.int .i64 v.kind)/\w.cell? ⟨g,o+1,none⟩=some (.int .i64 v.num)/\w.cell? ⟨g,o+2,none⟩=some (.string v.name) /\
 w.cell? ⟨g,o+3,none⟩=some (.int .i64 v.op)/\w.cell? ⟨g,o+4,none⟩=some (.slice v.A v.len v.cap)/\w.cell? ⟨g,o+5,none⟩=some (.int .i64 v.p)
mutual
def GV (w:World) (lo hi:Nat):GX->EV->Prop
 |.mk k n s o l p,v=>v.kind=k/\v.num=n/\v.name.data.toList=s/\v.op=o/\v.p=p/\v.len=l.length/\v.len<=v.cap/\v.cap<=maxLen/\GRow w lo hi l v.A 0
def GRow (w:World) (lo hi:Nat):List GX->Option Addr->Nat->Prop
 |[],_,_=>True
 |x::l,A,i=>(∃g o v,A=some ⟨g,o,none⟩/\lo<=g/\g<hi/\EvAt w g (o+i*6) v/\GV w lo hi x v)/\GRow w lo hi l A (i+1)
end
theorem EvAt.same {w w':World} {g o:Nat} {v:EV} (h:EvAt w g o v) (hg:w'.heap[g]?=w.heap[g]?):EvAt w' g o v:=by
 have e:∀j,w'.cell? ⟨g,j,none⟩=w.cell? ⟨g,j,none⟩:=λ j=>World.cell?_of_block (w:=w) hg;unfold EvAt;rw [e,e,e,e,e,e];exact h
mutual
theorem GV.same {w w':World} {lo hi:Nat} (hs:∀g,lo<=g->g<hi->w'.heap[g]?=w.heap[g]?):∀{x:GX} {v:EV},GV w lo hi x v->GV w' lo hi x v
 |.mk _ _ _ _ _ _,_,h=>by
  unfold GV at h ⊢;exact ⟨h.1,h.2.1,h.2.2.1,h.2.2.2.1,h.2.2.2.2.1,h.2.2.2.2.2.1,h.2.2.2.2.2.2.1,h.2.2.2.2.2.2.2.1,GRow.same hs h.2.2.2.2.2.2.2.2⟩
theorem GRow.same {w w':World} {lo hi:Nat} (hs:∀g,lo<=g->g<hi->w'.heap[g]?=w.heap[g]?):∀{l:List GX} {A:Option Addr} {i:Nat},GRow w lo hi l A i->GRow w' lo hi l A i
 |[],_,_,_=>by unfold GRow;trivial
 |x::l,_,_,h=>by
  unfold GRow at h ⊢;obtain ⟨⟨g,o,v,e,h1,h2,h3,h4⟩,h5⟩:=h;exact ⟨⟨g,o,v,e,h1,h2,h3.same (hs g h1 h2),GV.same hs h4⟩,GRow.same hs h5⟩
end
mutual
theorem GV.mono {w:World} {lo hi lo' hi':Nat} (h1:lo'<=lo) (h2:hi<=hi'):∀{x:GX} {v:EV},GV w lo hi x v->GV w lo' hi' x v
 |.mk _ _ _ _ _ _,_,h=>by
  unfold GV at h ⊢;exact ⟨h.1,h.2.1,h.2.2.1,h.2.2.2.1,h.2.2.2.2.1,h.2.2.2.2.2.1,h.2.2.2.2.2.2.1,h.2.2.2.2.2.2.2.1,GRow.mono h1 h2 h.2.2.2.2.2.2.2.2⟩
theorem GRow.mono {w:World} {lo hi lo' hi':Nat} (h1:lo'<=lo) (h2:hi<=hi'):∀{l:List GX} {A:Option Addr} {i:Nat},GRow w lo hi l A i->GRow w lo' hi' l A i
 |[],_,_,_=>by unfold GRow;trivial
 |x::l,_,_,h=>by
  unfold GRow at h ⊢;obtain ⟨⟨g,o,v,e,a1,a2,a3,a4⟩,h5⟩:=h;exact ⟨⟨g,o,v,e,by omega,by omega,a3,GV.mono h1 h2 a4⟩,GRow.mono h1 h2 h5⟩
end
theorem GV.below {w w':World} {lo hi:Nat} {x:GX} {v:EV} (h:GV w lo hi x v) (hb:Below w.heap.size w w') (hh:hi<=w.heap.size):GV w' lo hi x v:=h.same (λ g _ h2=>hb.block g (by omega))
theorem GRow.get {w:World} {lo hi:Nat}:∀{l:List GX} {A:Option Addr} {i:Nat},GRow w lo hi l A i->∀(j:Nat) (x:GX),l[j]?=some x->∃g o v,A=some ⟨g,o,none⟩/\lo<=g/\g<hi/\EvAt w g (o+(i+j)*6) v/\GV w lo hi x v
 |[],_,_,_,j,x,hx=>by simp at hx
 |y::l,A,i,h,0,x,hx=>by
  unfold GRow at h
  have:y=x:=by simpa using hx
  subst this;exact h.1
 |y::l,A,i,h,j+1,x,hx=>by
  unfold GRow at h;have:=GRow.get h.2 j x (by simpa using hx);rw [show i+1+j=i+(j+1) from by omega] at this;exact this
theorem sg_kind {t:Tk} {s:List UInt8} (h:isSg t s=true):t.kind≠5:=by
 simp only [isSg,Bool.and_eq_true,decide_eq_true_eq] at h;rw [h.1];decide
def TkEnds (l:List Tk):Prop:=∃Y e,l=Y++[e]/\e.kind=5/\∀z∈Y,z.kind≠5
theorem TkEnds.rest {u r:List Tk} (h:TkEnds (u++r)) (hu:∀z∈u,z.kind≠5):TkEnds r:=by
 obtain ⟨Y,e,h1,h2,h3⟩:=h;rcases List.eq_nil_or_concat r with rfl|⟨r',z,rfl⟩
 ·exfalso;rw [List.append_nil] at h1;exact hu e (by rw [h1];simp) h2
 ·have h4:(u++r')++[z]=Y++[e]:=by rw [<-h1];simp
  have h5:=List.append_inj' h4 rfl;simp only [List.cons.injEq,and_true] at h5;refine ⟨r',z,by simp,by rw [h5.2];exact h2,λ x hx=>h3 x (by rw [<-h5.1];exact List.mem_append_right _ hx)⟩
theorem TkEnds.ne {l:List Tk} (h:TkEnds l):l≠[]:=by
 obtain ⟨Y,e,rfl,_⟩:=h;simp
theorem TkEnds.tail {t:Tk} {r:List Tk} (h:TkEnds (t::r)) (ht:t.kind≠5):TkEnds r:=TkEnds.rest (u:=[t]) h (λ z hz=>by rw [List.mem_singleton.1 hz];exact ht)
theorem GV.leaf (w:World) (lo hi:Nat) (k n o p:Int) (S:ByteArray):GV w lo hi (.mk k n S.data.toList o [] p) ⟨k,n,S,o,none,0,0,p⟩:=by
 unfold GV;refine ⟨rfl,rfl,rfl,rfl,rfl,rfl,n_ _,Nat.zero_le _,?_⟩;unfold GRow;trivial
theorem EvAt.of {w:World} {g:Nat} {cs:Array Value} {t:TypeId} {fr:Nat×Nat} (h:w.heap[g]?=some (.cells cs t fr)) {i:Nat} {v:EV} (hc:∀j u,v.cells[j]?=some u->cs[i*6+j]?=some u):EvAt w g (0+i*6) v:=by
 rw [Nat.zero_add];unfold EvAt;rw [cell_of_row w g _ _ _ _ h,cell_of_row w g _ _ _ _ h,cell_of_row w g _ _ _ _ h,cell_of_row w g _ _ _ _ h,cell_of_row w g _ _ _ _ h,cell_of_row w g _ _ _ _ h];exact ⟨hc 0 _ rfl,hc 1 _ rfl,hc 2 _ rfl,hc 3 _ rfl,hc 4 _ rfl,hc 5 _ rfl⟩
theorem GV.one_new {w:World} {lo:Nat} {x:GX} {v:EV} (h:GV w lo w.heap.size x v) (hlo:lo<=w.heap.size) (T:TypeId) (op p:Int) :
  GV (w.alloc (.cells #[.int .i64 v.kind,.int .i64 v.num,.string v.name,.int .i64 v.op,.slice v.A v.len v.cap,.int .i64 v.p] T)) lo (w.heap.size+1) (.mk 4 0 [] op [x] p) ⟨4,0,⟨#[]⟩,op,some ⟨w.heap.size,0,none⟩,1,1,p⟩:=by
 unfold GV;refine ⟨rfl,rfl,rfl,rfl,rfl,rfl,n_ _,(by decide:1<=maxLen),?_⟩;unfold GRow GRow;exact ⟨⟨w.heap.size,0,v,rfl,hlo,by omega,EvAt.of (heap_alloc_new w _) (λ j u hu=>by simpa [EV.cells] using hu),(h.same (λ _ _ h2=>heap_alloc_old w _ h2)).mono (n_ _) (Nat.le_succ _)⟩,trivial⟩
theorem GV.both_new {w:World} {lo:Nat} {x y:GX} {v u:EV} (h:GV w lo w.heap.size x v) (h':GV w lo w.heap.size y u) (hlo:lo<=w.heap.size) (T:TypeId) (op p:Int) :
  GV (w.alloc (.cells #[.int .i64 v.kind,.int .i64 v.num,.string v.name,.int .i64 v.op,.slice v.A v.len v.cap,.int .i64 v.p,.int .i64 u.kind,.int .i64 u.num,.string u.name,.int .i64 u.op,.slice u.A u.len u.cap,.int .i64 u.p] T)) lo (w.heap.size+1)
   (.mk 5 0 [] op [x,y] p) ⟨5,0,⟨#[]⟩,op,some ⟨w.heap.size,0,none⟩,2,2,p⟩:=by
 unfold GV;refine ⟨rfl,rfl,rfl,rfl,rfl,rfl,n_ _,(by decide:2<=maxLen),?_⟩;unfold GRow GRow GRow
 have e1:∀j z,v.cells[j]?=some z->(#[Value.int .i64 v.kind,.int .i64 v.num,.string v.name,.int .i64 v.op,.slice v.A v.len v.cap,.int .i64 v.p,.int .i64 u.kind,.int .i64 u.num,.string u.name,.int .i64 u.op,.slice u.A u.len u.cap,.int .i64 u.p])[0*6+j]?=some z:=λ j z hz=>by
  match j,hz with
  |0,hz=>exact hz
  |1,hz=>exact hz
  |2,hz=>exact hz
  |3,hz=>exact hz
  |4,hz=>exact hz
  |5,hz=>exact hz
  |j+6,hz=>simp [EV.cells] at hz
 have e2:∀j z,u.cells[j]?=some z->(#[Value.int .i64 v.kind,.int .i64 v.num,.string v.name,.int .i64 v.op,.slice v.A v.len v.cap,.int .i64 v.p,.int .i64 u.kind,.int .i64 u.num,.string u.name,.int .i64 u.op,.slice u.A u.len u.cap,.int .i64 u.p])[1*6+j]?=some z:=λ j z hz=>by
  match j,hz with
  |0,hz=>exact hz
  |1,hz=>exact hz
  |2,hz=>exact hz
  |3,hz=>exact hz
  |4,hz=>exact hz
  |5,hz=>exact hz
  |j+6,hz=>simp [EV.cells] at hz
 exact ⟨⟨w.heap.size,0,v,rfl,hlo,by omega,EvAt.of (heap_alloc_new w _) e1,(h.same (λ _ _ h2=>heap_alloc_old w _ h2)).mono (n_ _) (Nat.le_succ _)⟩,
  ⟨w.heap.size,0,u,rfl,hlo,by omega,EvAt.of (heap_alloc_new w _) e2,(h'.same (λ _ _ h2=>heap_alloc_old w _ h2)).mono (n_ _) (Nat.le_succ _)⟩,trivial⟩
end Go.Proofs.YtifekcbinjdfbaaGreatDoor
